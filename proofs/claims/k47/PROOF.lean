import PyProof.Rows.All
import OpenK.KLine
import Wide.FinOn
import KE.KRevSl
import KE.KItem
import KE.KxWritten
import KE.KFromBytes
import KE.LcSums
import KE.KBits
import KE.KTryMore
import PySem.Challenge.RW_widewords_k47_whole_quotients_by_twos
set_option Elab.async false
set_option linter.all false
set_option maxRecDepth 100000
set_option maxHeartbeats 0
set_option genSizeOf false in
set_option genInjectivity false in
structure PySem.W.Fast:Prop where(tw7724589935595821633 tw9569864462518296998 tw14837628016822825753 tw1415537556302951468 tw6659847984067443807 tw10463970591603187280 tw12874621449164409490 tw16347368675445322029 tw16470425184953359038 tw10074173887524908756 tw6721576500076905032 tw7925199212868611226 tw2143194145236326384 tw4743622703206890758 tw5582278121865402222 tw7287155303325371975 tw9183138996413505265 tw17610196256415385561 tw13319722465711899034 tw4987394294933755630 tw3412651987242692391 tw5068977863074694977 tw7561743191316503888 tw9404292081097708020 tw13871754104591724034 tw192855474964112095 tw5566435392870025979 tw11052904637730323422 tw9390114406514743263 tw15114018677019012404 tw655018563485058151 tw15102686076096383717 tw2240168833689170455 tw6140563286352010634 tw2484148307588563183 tw18150438009273792433 tw17270741713198379328 tw8969228298166091179 tw7396007710416088117 tw17856168050900642125 tw8306858879272652745 tw10061331994585783745 tw11625352843814104370 tw16334517923019052169 tw12146389924602033906 tw6671840634692013360 tw12636701067703333292 tw9162721542120127830 tw1430177998601364396 tw14288747195778349270 tw11876225905111300784 tw2739641914956681223 tw10455912284445518836 tw10363203907615603934 tw4276995491221010455 tw16492153947562324264 tw10316976218296715033 tw4068335703659632365 tw7028896646234187205 tw8450380575087806379 tw10786905327605979064 tw9737202657212022431 tw8967013638586201274 tw11720747197232559031 tw12220759551225492717 tw16899937220534331871 tw1764180381174828835 tw4197724086315991227 tw16672519148670177033 tw8164379311992995302 tw7787690052748325480 tw13575778362772579548 tw11558001335942434555 tw10696737567543567447 tw2682693071807040856 tw1567182362816751980 tw10795499463310692645 tw6576930874114821541 tw15898876490577784637 tw11432835142404944978 tw4345652294919634407 tw9045679896858518595 tw6328168262091396593 tw1667552625164415298 tw13090289589560920019 tw16536529492266528920 tw17275748359171661595 tw13063302518415051750 tw9288749412287943955 tw3789399343417337574 tw8557981256398128993 tw13328178036897016530 tw10571235019072029084 tw11262895994331362531 tw11500229078491665010 tw14515846630759155889 tw4481318393606941838 tw16212082397506342270 tw5129815590241121771 tw17381933329994774943 tw15320955228011458099 tw221225121100887316 tw11417419658469995487 tw9878188910617140785 tw181937484998399716 tw7375856845661796031 tw7681074531902006888 tw3900175563450520319 tw13123639902971317059 tw13094020397220990842 tw17610578847793078828 tw17810747194233289805 tw13403211837064563550 tw13124027753460358642 tw17448590759146416785 tw17596430705862791217 tw4647623404472975188 tw10232422783416199495 tw15847574923925153089 tw13993838015920163029 tw2943612378254228485 tw6006372553270734289 tw810122332825446900 tw15283094660030723380 tw1060201128779138730 tw18131722699110843985 tw3574170833925157663 tw18165642044922956790 tw13393670132889516869 tw14416925101166091312 tw13770222995053912140 tw561267612266519472 tw11664561743152778505 tw9209012794049689826 tw17341609239623309946 tw4754318504932283297 tw14394521029104355517 tw10580113736740751031 tw16017999662897063149 tw5899328966845573718 tw3207272415174655996 tw9608428384918708412 tw8797163598962242231 tw7124507291106526476 tw11403470683222063912 tw12422361490157883768 tw4861631242480292463 tw310537423534317999 tw5948638664351809991 tw4617278261934968330 tw5046369614304607748 tw12965636414819877801 tw14380377490527660259 tw860029184327589190 tw15546300126367427033 tw5620920712397249883 tw9009846856320113697 tw12679748447028472108 tw17208455153897613286 tw11211593223137395720 tw4939655657603935566 tw5131125459333042010 tw17699319197328470920 tw14156519413552771971 tw540145475114396878 tw12309483007818096553 tw9798050290976068673 tw8406782203384859729 tw10644539329473106710 tw6953982081405518043 tw9477529966448956843 tw5654949408616933509 tw11858054187465886397 tw3748790856712109708 tw15080186047786031183 tw18118653582907847645 tw13051192815975612090 tw12576877573714159218 tw5765604608724612320 tw4546943411925764271 tw1759240881999828800 tw14051089178699899635 tw11951815865044017147 tw15561769718294875778 tw14290465916260629301 tw17145578432640951530 tw8316931812691470534 tw5186922138461473546 tw6082469714712868401 tw6325353907495982800 tw922356606382211884 tw15834519515626044460 tw11735015768416154256 tw3465555146899110470 tw5076759728297424370 tw10195038033901912012 tw10051896014248397715 tw2172817228017899223 tw2736214271018479459 tw15474705517306154867 tw11741807097939665548 tw9170075628871775799 tw17546830930350631198 tw3383411036434404394 tw12142753935107384424 tw15379650405749881042 tw11703946849553116357 tw7363069124075325471 tw16743167564075992146 tw13838021860174326260 tw11106007905112251033 tw6319598949848492239 tw4886576765086093616 tw743459669975986370 tw13029152242137601216 tw15856195192439957996 tw14434906486149833918 tw4229761231738885413 tw13546378439934567682 tw7534624342536476213 tw3255664557173634198 tw8251184747969471105 tw6512787577383174679 tw13184951536047286468 tw15495673989022920032 tw11126779080387354726 tw7424294030540662172 tw16434258152867461593 tw2291257543682829636 tw3928013674194937137 tw12345267467767687971 tw17755198532151715436 tw12235533993145805961 tw12537989451670833535 tw450411518577382025 tw6293758997067048205 tw17512633849361390672 tw18270671275980106520 tw3544341903682421397 tw15266491690268181276 tw5608019933885829422 tw17716479149052736867 tw4406687801866912002 tw625746862538479663 tw1461606459873707642 tw1125140694956492694 tw1468785509245089711 tw2633848926037211608 tw6052178243135282679 tw7881684097233767975 tw5329754288034141938 tw11240051749844486918 tw3845833369043993213 tw9541152122027192069 tw5375191211671061517 tw13361535436033630846 tw3909731654069153804 tw7343389075965700010 tw14771839376859659486 tw14943419613164906470 tw15315119576128733319 tw6431185272534327168 tw13555874853995494419 tw2893322494920206072 tw542402608728019914 tw10765122167621817080 tw2043101222905532461 tw11583281756508072989 tw2821555435042377383 tw8469966868265059030 tw8279586576335615114 tw2901554832286038083 tw4624154472689265586 tw5934410487977410405 tw14113566410556130919 tw7781349839443521385 tw2334990471470440145 tw15747441432442398131 tw13261466790766043780 tw17717006166036202146 tw9747343706804450814 tw3009167149224063152 tw12890102417665695874 tw1633828663883719748 tw3956187588502706885 tw3490602607312504530 tw59770029465277872 tw13422499872739712667 tw11786151043723174576 tw14901993532201352135 tw15532658552914475334 tw1882587148114910379 tw2357412894492479544 tw9167745050999211384 tw1086736001404829167 tw489605043462559807 tw15701222018098312495 tw3619331353280565477 tw10036835044629835105 tw17354538005390919192 tw12283541672226362080 tw2263549272935274371 tw13882687575447164251 tw156187433137681369 tw14888860021595713463 tw16986163755639902580 tw1124226932607626085 tw16607860573001800553 tw9002683001515729680 tw7554451084093343856 tw4284958699584726529 tw11798830109857786124 tw10149331235060491170 tw7902447315231182204 tw1484122642867813568 tw14572343899785966759 tw11664696604925521232 tw15463049941655399214 tw13635835226802015787 tw8390365169070013089 tw13918670052879819114 tw10569657693299815012 tw13182038768589363548 tw2911179896940634865 tw17053281323326740192 tw1623064365135357269 tw15636980215216688189 tw15965844667181895031 tw8478814920381664153 tw3296349348523097025 tw11175278001734730432 tw3198719808093615129 tw11648561592996509571 tw16239702341271966395 tw12490965877515391478 tw5725846626424709184 tw8831607788040669884 tw12508822423380257272 tw1358187613571373667 tw17512752333296234371 tw8935631555078081181 tw16806071925669446101 tw9028923894697092497 tw4256623550532429169 tw13479318323542214109 tw12647919235322722497 tw17801638245210219553 tw18066877790879610890 tw7767391489275030088 tw11647126455462417451 tw7950780826343601618 tw5393121475550395192 tw1094901969663808873 tw15898594493588245987 tw11479927843402486598 tw9476505993898833168 tw6074609096587946069 tw7080216979365953681 tw14797202455680732432 tw14922581355946131026 tw16829397961561072166 tw10412174223161470012 tw6480917408609482976 tw1709280952523348831 tw5335184177777555415 tw3283450278778863646 tw9463562133230145625 tw9511261954397832277 tw2383000870546770894 tw15871068845449825399 tw4237017065301290142 tw5367934797669642813 tw11985451820329726133 tw16284830771101937006 tw1211872999033610700 tw710164120010962942 tw4565245147385949819 tw3426999359924844251 tw14741787657295955608 tw8824343456703725745 tw4105145502822205457 tw11065873042256493280 tw431240989296642876 tw8233058890657895294 tw11077991197046630249 tw15320078218264921248 tw63298032779032903 tw6898044006686895152 tw973359145349688737 tw5250925657664969792 tw10027071391911947740 tw12565286633761501368 tw15865076453242790439 tw2508132227128221083 tw8592140548554452514 tw4337484924856078697 tw4136698391372918818 tw7547736787627833259 tw2904545229991885373 tw8258935249689543199 tw3431317181167031760 tw3825706028813817301 tw9982963451423800935 tw1581182704805082715 tw16494174562492496470 tw5277849765277415984 tw13903591382898872486 tw3920013325286055475 tw909523945395252287 tw8652021281153790423 tw4240786097456493432 tw3493455206169207831 tw5200543387142388731 tw4059460171514157432 tw6254166863204599963 tw3638313235232377349 tw10841547579281480247 tw3178436352653242033 tw2098224128134627977 tw7786675200721141502 tw16205532305656561679 tw17637438379036732865 tw9134642427976194452 tw15552827759987178151 tw1557555430674731103 tw10128770574522243084 tw583441472157006708 tw11961697604036885944 tw2380204722700424274 tw2323043399175784243 tw7929504168282619556 tw6445983820193009603 tw17151037125806839856 tw1451614263686850137 tw7396307554121194775 tw6290287242237099129 tw12472616420684884012 tw465405290356896134 tw4483367738186614494 tw5536787799423034994 tw15847825366509396647 tw18206773003078766762 tw14098877361268914017 tw10156292231179270021 tw4882111207496837565 tw17774020973410715706 tw9486606862069079150 tw1724524117966350222 tw7391388064154205793 tw5369895161378780946 tw5246045564022409481 tw14479943889519509907 tw9610201010827043206 tw16065998035683307131 tw9053038232988628748 tw17814422590363478450 tw16229980368764890087 tw17983312548680553443 tw14126339578391771981 tw17906754423351918072 tw14174737360723864765 tw12607521007319781811 tw9660773252997461402 tw7698822971059132128 tw5557774036968139327 tw4973020855301957280 tw4527564401539096656 tw13097531306732772680 tw8043961906670939067 tw16874033677673482309 tw6329480474673424882 tw9819654968618079206 tw2870207336671384484 tw14139627415142645410 tw10517134187622051611 tw6611835043472482458 tw4395719702560603020 tw17702494806381496101 tw5029238129130386170 tw16992338428185549908 tw15061627169465771340 tw10978763838096158756 tw10420781523696801136 tw4726680027851486731 tw4325537210522460536 tw12415066917588094680 tw2373275630531674209 tw16121270549223585860 tw9303999083487897723 tw15992652921006257436 tw12273168803376779395 tw16680480526136574221 tw17753521578012330408 tw932982029901103720 tw10130756965957725694 tw7838683064270601777 tw7454725496219174841 tw7042746841224229961 tw2908690865751000504 tw11554577845334654944 tw16876388244291471449 tw2255070818350208855 tw13939710434172772004 tw8180642319687630915 tw10770841389683501002 tw14357250423043677201 tw8307916423425211047 tw11021169983654749051 tw8842242086546733728 tw3631451686399925751 tw7595918107375800089 tw7983620794534622403 tw11280593580518890410 tw16623284786897180808 tw1049677702092224135 tw12422506848607574023 tw13661910160620178254 tw14197385198034614917 tw10422659497721706812 tw9117977305443424030 tw9273447031689928716 tw13095959674498604470 tw10108853252993323929 tw8672914048668115108 tw7158679793421325962 tw1078264062753220898 tw9040399994472044160 tw17359420414787606510 tw815133324936235088 tw18289850141423370613 tw14342826805086101653 tw12840043810495398415 tw10720159000381404871 tw10675876447389035698 tw2635485185317354898 tw4113567222576991741 tw6778423287299897521 tw14839069509880899097 tw525043111100208383 tw2634627082183379980 tw2424858280840162571 tw1086886108063668748 tw13428560407027191587 tw2988182638465765243 tw12677698550563766947 tw14280456402328676239 tw4252169977663045275 tw437661370216980775 tw15542368947824259742 tw9198302849802859919 tw14360038955052803350 tw7688876020145314006 tw17494897889085838144 tw13090018673045822209 tw5550559050673118243 tw6353254623150603234 tw9632768900659266674 tw11533403804051133413 tw15431962757373584093 tw4034697954270091334 tw17195531862341392116 tw13595538524115326196 tw710084333762179822 tw25714182332935597 tw3040940663985110811 tw2431308672514927049 tw10421081027980098981 tw12657155671721162735 tw264592025436330420 tw825713712335508267 tw3637240009561124700 tw11441922314783714853 tw13390131902254932412 tw6074935421333290398 tw11478883564062233487 tw16063330948861200429 tw6829677985407012876 tw2190832414121937539 tw16089669840786573830 tw9038543430511686332 tw3727183780421138074 tw1432677762727815121 tw15917118341248380725 tw12112199247579278788 tw5756500795165123412 tw11740591537306788777 tw10652496796405458254 tw4687583228250210581 tw1533420892857895924 tw14542963984834834755 tw11979894598924081327 tw7825121665987498325 tw13706504629273073746 tw8288713501649452219 tw17162029524616512600 tw9783833925789265718 tw15176818743843390414 tw17087085759439457178 tw13726500342868012230 tw10302621666302175134 tw7661124664660169420 tw9583710279929945100 tw2828895907490755277 tw16407539111756040464 tw7324900309429310158 tw3908674604942035567 tw7388103648144399865 tw9976696007453682198 tw5215423976631519016 tw15288882583462928092 tw1021774980023125637 tw14280118911513131097 tw10239742243089248823 tw8958794703792669802 tw5749822713490787765 tw16883935059547546438 tw12787416064084790946 tw13794703431073271010 tw3108001200799334839 tw6570793027052268767 tw9588654323068828985 tw13125699825347799964 tw8320167929858848160 tw16299274041196205348 tw17331592793132979815 tw6629317497833710499 tw16482249162409307618 tw3659202726145647038 tw223020342826236049 tw10919213382008802642 tw16472995892076702979 tw17110719038900629267 tw9171257173080200195 tw5970931060681725881 tw11845364247001900786 tw6901621560349333921 tw10040951426872325416 tw15051894152318310387 tw12247958966168317658 tw16202941453437235700 tw12491400504398673448 tw10503728366213045885 tw14626877548011625479 tw13250038802303427271 tw3003614202995277381 tw1773446722685898234 tw12661283497061715982 tw9406635394391927232 tw13415319108594956922 tw1707193124094702881 tw14903096638740819921 tw8576733825917262282 tw3184456312969305896 tw15566128888476863274 tw4397230756852066108 tw5373727898828075943 tw15860415500351814310 tw8184217593709550133 tw17390113899876038420 tw12536934595922781087 tw14590464450496979763 tw688006588494323361 tw12034156829403800210 tw3665698009234882608 tw6293074014429588393 tw8665515377338864777 tw5737496762297978276 tw10943175620116466587 tw2698250873602837235 tw4359108427019273005 tw5066861505840958257 tw7275719164279881616 tw15364807989981055286 tw8187879454963655453 tw14520356037116577526 tw11153163099397063134 tw7425666227468902087 tw2120940846759571136 tw7014984099407345754 tw10242824634418234180 tw3834347833418582082 tw11375644557308714179 tw2129803508253545081 tw9464755943480301143 tw6566734681043465170 tw4160957199739030807 tw11225644864894532778 tw11066135840415082850 tw8191166110686656465 tw6102981337759272168 tw10179927207188555476 tw9601638326077403063 tw11278540809887641054 tw4367470100209106741 tw12121456531962156082 tw6166844145989113893 tw15174976979364239973 tw16569481276329842283 tw11702429247099084130 tw3592331191567302814 tw3348758455366040646 tw8844799790833043192 tw529416409370851517 tw10433782865210580322 tw15534880838116193308 tw14658151344857724409 tw1929658591477328998 tw11502729321313337934 tw18146259695880446831 tw5957558708406316473 tw6821380412433359781 tw3683353869349811653 tw1036224115224625863 tw13178087679007473773 tw6400635766763508442 tw11492188256362873283 tw11713697483465610776 tw5255449623325802444 tw12539950750798083837 tw13904477665850904446 tw8890824421625207450 tw9627704582884565749 tw14959803207994314437 tw7372418160837969028 tw18047528565089203365 tw7259778875397295425 tw10910245513254562438 tw6721354491018588445 tw4879609028805397505 tw13402863407280171304 tw3381003888376236074 tw3667431572505972422 tw13217672572725832615 tw6932161569418973543 tw9330486683603615940 tw5657486827043705604 tw9748697105472873334 tw16544182419410430238 tw7579822474644047792 tw13768504887227277791 tw17257147668252867542 tw785913145052555121 tw5430995245213183660 tw10442384354588392477 tw12118801794861043919 tw12188067847123089329 tw1804136909846565425 tw12963223765096683197 tw6782027523742734422 tw18405396720693702394:True)
open_top hd0 for PySem.Challenge.rw_widewords_k47_whole_quotients_by_twos
set_option compiler.extract_closed false
set_option bootstrap.genMatcherCode false
set_option genSizeOf false
local macro_rules | `(tactic| ac_rfl)=>`(tactic| with_unfolding_all rfl)
open Option renaming some->AA,none->AD,isSome_iff_exists->BE,bind_some->B3,getD_some->CP,any_eq_true_iff_get->Ct,map_some->DI,get_some->FT,getD_none->G3,join_some->G7
open Bool renaming true->AB,false->AC,and_eq_true->AK,false_ne_true->BG,false_eq_true->Bo,not_eq_true'->Cn,or_eq_true->DH,true_and->Di,and_self->Dm,eq_iff_iff->Dz,false_or->Fq,true_or->GT,or_false->HD,not_true->HF
open PySem.W renaming Frag->AE,keepIn->BA,findIn->BF,nsIn->BT,kitOne->B9,fnOf->Bb,emptyDict->Bf,instObj->CH,codeIn->CT,kia_one->Cj,plainGet->Cv,isFn->Cw,hideAll->DG,callWith_K->DJ,hasDictIn->DO,makesIn->Du,plainGet_of->EB,lookIn->EQ,methodObj->Ee,plainOver->Ef,mg_of->Eo,OpenLaw->FA,cellsFrom_some->FE,takerIn->FO,methodCall_KW->FW,hideAll_get->Fc,callWith_K0->Ff,excIn->Fr,of_hideAll->Fy,handedIn->GZ,WalkO->Gm,Rel2->HP
open PySem.Str renaming ofString->AF,empty->G0
open PySem renaming Value->AG,wpAny_bind->AH,Addr->AI,Shared->AJ,wpAny_pure->AN,Str->AS,Expr->AW,wpAny->A3,Program->Aa,World->Ao,Around->Ay,Heap->BI,FuncData->BK,wpAny_newObj_type->BQ,wpAny_field->BS,wpAny_callSpecial?_slot->B6,Env->B7,wpAny_Call_Name_kw->B8,wpAny_truthy_bool->Be,Scope->Br,Stmt->CF,Obj->CK,wpAny_call_entry->CN,DictEntry->CO,wpAny_pyIter_tuple->CW,wpAny_passesOwn->CZ,Pos->C1,wpAny_mono->C4,IsPair->C5,Keyword->C8,mem_of_lookup->C9,wpAny_seqItems->Ca,wpAny_setField_rec->Cg,wpAny_holding->DE,NameKind->DP,strKind_is->Dd,Operator->Dp,sizeLine_eq->Dq,wpAny_execs_nil->Dt,codeAny_mono->EF,wpAny_sequenceKey->Eg,slot_list_getitem->Eh,IsZip->Ej,wpAny_standAt->Em,wpAny_getItem_list_slice->En,PassesOwn->Es,noFill_tuple_add->Ex,wpAny_rule->FC,IsPart->FF,wpAny_typeOf->FG,wpAny_loadName_local->FZ,wpAny_setField->F1,wpAny_updateSeq_pair->F2,BindsTo->Fb,wpAny_loadName_cell->Fd,CmpOp->Fj,seq_tuple_add->Fk,evalPart_none->Fm,wpAny_onRaise->Ft,tupleKind_room_in1->GB,Within->GI,concat_meets->GO,wpAny_pyIter_enum->GR,wpAny_pyIter_list->GS,ZipApart->GV,wpAny_execs_cons->GY,wpAny_pyIter_zip->Ga,wpAny_getItem_of->Gb,seqIndex_of->Gd,Paired->Gn,wpAny_Name->Go,Result->Gp,wpAny_call->Gq,typeIs_str->Gu,call->Gv,Sem->HB,Builtin->HM,BoolOp->HR,Tok->Hd
open List renaming map_cons->AL,mem_cons->AO,getElem?_cons_succ->AQ,getElem?_set_ne->AR,getElem?_cons_zero->AU,mem_cons_of_mem->AV,length_cons->AX,size_toArray->AY,mem_of_getElem?->A5,not_mem_nil->A8,getElem?_set_self->Ab,length_append->Af,set_cons_zero->Ag,set_cons_succ->Ah,map_nil->Ak,getElem?_append_left->Am,length_map->Ap,mem_cons_self->As,replicate->Au,getElem?_append_right->Av,cons_append->Aw,mem_append->Ax,append_assoc->BB,append_nil->BD,mem_append_right->BM,getElem?_eq_none->BN,getElem?_eq_some_iff->BO,length_nil->BV,nil_append->BW,flatMap_cons->BY,map_append->B2,length_set->Ba,all_eq_true->Bc,all_cons->Bj,lookup_cons->Bp,flatMap_nil->Bq,any_cons->Bs,getElem?_map->Bt,filterMap_cons->Bv,getElem?_eq_getElem->By,lookup->Bz,find?_cons->CJ,range->CS,length->Cc,getElem?_set->Cm,reverse_cons->DS,filterMap->DU,take_of_length_le->DV,ext_getElem?->DY,mem_map->DZ,set_set->D3,length_singleton->D5,mem_iff_getElem?->D8,mem_append_left->Do,nodup_cons->Dw,foldl_cons->Dy,length_reverse->ED,mem_filterMap->EN,zip_cons_cons->EW,getD_eq_getElem?_getD->EY,getElem?_eq_none_iff->E8,drop_eq_getElem_cons->Eb,pairwise_iff_getElem->Ec,length_take->Eu,getElem?_replicate->Ew,any_eq_true->Ez,of_mem_zip->FP,forIn_cons->FQ,mem_range->FY,length_pos_iff->Fi,isEmpty_cons->GU,length_drop->G2,isEmpty_nil->G4,take_length->G5,drop_length->G6,zipIdx_cons->G8,mem_filter->Gf,zipIdx_nil->Gj,drop_zero->Gx,forIn_nil->Gy,set_comm->HC,sum_cons->HE
open PySem.Heap renaming get?_push_of_some->AM,lt_size->A1,get?_push_size->A6,size_push->CA,SameBut->Cd,get?_update_other->DR,get?_update_self->FU,IsTuple->GP,MadeExcOf->Gw,FlyingW->HN
open Nat renaming le_refl->AT,lt_of_lt_of_le->A7,pow_le_pow_right->A9,mul_le_mul->Aj,ne_of_lt->Ar,le_trans->B1,zero_add->Bl,lt_or_ge->C3,reduceAdd->C6,reduceSub->C7,and_two_pow_sub_one_eq_mod->Cb,le_succ->Co,reduceLeDiff->Cz,lt_irrefl->DD,zero_le->DL,lt_succ_self->Da,le_add_right->Db,reduceEqDiff->De,add_assoc->Dl,mod_two_eq_zero_or_one->EZ,and_lt_two_pow->E6,mul_add->Ek,le_of_lt->FB,ne_of_gt->FD,succ_mul->FM,pow_pos->F3,mul_le_mul_right->F4,pow_lt_pow_right->F7,and_mod_two_pow->Fg,and_div_two_pow->Fh,xor_lt_two_pow->GF,mod_eq_of_lt->Gc,le_of_eq->HL,pow_succ->HS,mul_one->Hc
open Option.some renaming inj->AZ
open Int renaming emod_eq_of_lt->A2,pow_pos->A4,pow_succ->Ac,mul_assoc->Ad,mul_comm->Ae,emod_lt_of_pos->Ai,emod_nonneg->Aq,mul_le_mul_of_nonneg_right->BC,ediv_eq_zero_of_lt->BJ,add_mul->BL,ediv_ediv_of_nonneg->BX,sub_mul->B4,add_mul_emod_self_right->B5,one_mul->Bg,ediv_lt_of_lt_mul->Bi,zero_mul->Bm,le_of_lt->Bu,emod_add_mul_ediv->Bw,pow_mul->CB,mul_le_mul_of_nonneg_left->CC,toNat_natCast->CG,ediv_nonneg->C0,mul_one->C2,pow_zero->Ch,add_emod_right->Ci,mul_nonneg->Cu,add_comm->Cy,add_zero->DA,le_refl->DN,zero_add->D4,add_mul_ediv_left->D9,mul_sub->Ds,ediv_one->EG,fdiv_eq_ediv_of_nonneg->EO,add_mul_ediv_right->FN,le_ediv_of_mul_le->FX,natAbs_mul->F5,mul_add->F6,reduceBEq->Fu,lt_of_lt_of_le->GG,lt_of_le_of_lt->GH,mul_le_mul->Gz,emod_one->HV
open PyProof.Rows renaming slot_tuple_getitem->Al,callWith_type1->CM,AllBare->Dh,entry_tuple_getitem->EC,assignInOrder_cons->EM,slicePart_none->ES,args_tuple_getitem->ET,tupleItemsOf_->Ea,IntsAre->FH,subscriptTail_builtinR->FI,Subscript_->Fz,assignInOrder_nil->GJ,callWith_builtin1->G1,boot_isinstance->Gi,iadd_int->Gk,tail_any->Gr,IsTup->HG,bitAnd_m1->HU
open PySem.Value renaming ref->An,none->CQ,bool->EJ,int->Ep,type->Fx,str->GX,isStrOf->HA,isInt->HW,bytes->HX,float->HY
open PySem.Builtin renaming bitOr->Az,bitAnd->BH,bitXor->BR
open Ne renaming symm->BP
open PySem.Builtin.Tuple renaming tupleExact->BU,tupleItemsOf->Cp
open PySem.Builtin.Slice renaming slicePlaces->BZ,sliceApplied->CU,sliceAdjust->DB,sliceFields->E9,slicePartIndex->Gg
open PySem.Builtin.SmallTypes renaming nextOf->B0,ownedTupleIsFree->Bk,ownedTupleHandOut->DC
open PySem.PyData renaming eqv->Bd,canLay0->Cr,depth->DX,eqvAll->Dj,keyHash->EX,canLayAll0->Ei,depthAll->FR
open False renaming elim->Bn
open PySem.Challenge renaming rw_widewords_k47_whole_quotients_by_twos->CD,pw_widewords_k47_whole_quotients_by_twos->Dr
open Array renaming length_toList->CL,append_assoc->EK,getElem?_eq_some_iff->EV,toList->HK
open PySem.F renaming slot_tuple_iterator_next->CV,args_tuple_add_2->DF,entry_tuple_add->DM,slot_tuple_add->DQ,slot_dict_get->D6,args_tuple_iterator_next_1->Dx,slot_zip_next->EA,entry_tuple_iterator_next->EH,slot_dict_getitem->Ed,args_dict_get_3->Ey,entry_dict_get->FL,slot_list_append->FV,args_zip_next_1->GW,entry_zip_next->G9
open PySem.Heap.FunFrames renaming mem->CY
open True renaming intro->Cf
open PySem.NameKind renaming free->Ck,cell->Fp
open PySem.Value.type renaming inj->Cq
open Eq renaming refl->DW
open Prod.mk renaming injEq->Dn,inj->Hb
open PySem.Builtin.Str renaming strSliceIndices->EI,occurrences->Et
open PySem.Calls renaming Name_function_global->EL,spliced_cons->ER,callWith_builtin->FK,evalArgs_plain->F0,spliced_nil->GN
open PySem.Heap.IsSliceOf renaming new->EU
open PySem.Paired renaming length->El,snoc->Ha
open PySem.Obj renaming mapSeq->FJ,data_mapFields->GA
open Sum renaming inl->F8,inr->F9
open PyProof.Rows.IsTup renaming new->Fa
open PySem.Heap.SameBut renaming update->Fe
open PySem.SeqAt.EqAt renaming int_str->Fv,str_int->Fw
open PySem.ScopeKind renaming function->GE
open PySem.Around renaming under->GL
open PySem.Code renaming isFrame->GM,frames->HZ
open PySem.WalksT renaming enumerateD->GQ
open PySem.Shared renaming heap->Ge
open ForInStep renaming yield->Gh
open PySem.Builtin.Range renaming rangeSize->HH
open PySem.Heap.UpToSlots renaming of_keeps->HI
open And renaming intro->HJ
open PySem.SeqAt renaming shaped->HQ,EqAt->Hf
open PySem.W.Looks renaming here->He
open PySem.W.WShape renaming has->Hg
open PySem.Within renaming cons->Hh
open List.Pairwise renaming nil->Hi
open PySem.W.WData renaming int->Hj
noncomputable section
open Lean in
def cnvP:Nat->Syntax->MacroM (TSyntax `rcasesPat)
 |0,_=>Macro.throwUnsupported
 |n+1,s=>do
  if s.isOfKind ``Lean.Parser.Term.anonymousCtor then `(rcasesPat| ⟨$[$(← s[1].getSepArgs.mapM (cnvP n)):rcasesPat],*⟩)
  else if s.isIdent then `(rcasesPat| $(⟨s⟩):ident)
  else if s.isOfKind ``Lean.Parser.Term.hole then `(rcasesPat| _)
  else Macro.throwUnsupported
local macro_rules | `(tactic| let $p:term := $e)=>do `(tactic| obtain $(← cnvP 9 p):rcasesPat := $e)
local macro_rules | `(tactic| erw [$rs,*] $(l)?)=>do
 let t<-rs.getElems.mapM λ|`(Lean.Parser.Tactic.rwRule| $t:term)=>`(Lean.Parser.Tactic.simpLemma| $t:term)|_=>Lean.Macro.throwUnsupported
 `(tactic| simp only[$t,*] $(l)?)
local macro_rules | `(fun $bs* => $b)=>do
 if !(bs.any λx=>x.raw.isOfKind ``Lean.Parser.Term.anonymousCtor)||(b.raw.find? λx=>x.isOfKind ``Lean.Parser.Term.syntheticHole).isSome then Lean.Macro.throwUnsupported
 `(by rintro $[$(← bs.mapM λx=>cnvP 9 x.raw):rcasesPat]*;exact $b)
set_option backward.eqns.nonrecursive false
namespace L2
open PySem PySem.Spec PyProof.Rows
abbrev Key:=Sum Int AS
def ybX:Key->AG->Bool
 |.inl k,v=>HW k v
 |.inr x,v=>HA x v
def ygd(w:Ao):Key->Int
 |.inl k=>hashInt k
 |.inr x=>hashStr w x
theorem zJ:∀{k:Key} {v:AG},ybX k v=AB->(∃i t,k=F8 i/\v=Ep i t) \/ (∃x t,k=F9 x/\v=GX x t)
 |.inl i,v,h=>by
  let⟨t,e⟩:=Value.isInt_shape (k:=i) (v:=v) h;exact .inl ⟨i,t,rfl,e⟩
 |.inr x,v,h=>by
  let⟨t,e⟩:=Value.isStrOf_shape (x:=x) (v:=v) h;exact .inr ⟨x,t,rfl,e⟩
theorem ziT(i:Int)(t:Hd):ybX (.inl i) (.int i t)=true:=by simp[ybX,HW]
theorem ziU(x:AS)(t:Hd):ybX (.inr x) (.str x t)=true:=by simp[ybX,HA]
theorem zoQ(a b:Int):decide ((F8 a:Key)=F8 b)=(a==b):=by
 by_cases e:a=b
 .subst e;simp
 .have h:¬(F8 a:Key)=F8 b:=λq=>e (Sum.inl.inj q);rw[decide_eq_false h];exact(beq_eq_false_iff_ne.mpr e).symm
theorem zon(a b:AS):decide ((F9 a:Key)=F9 b)=decide (a=b):=by
 by_cases e:a=b
 .subst e;simp
 .have h:¬(F9 a:Key)=F9 b:=λq=>e (Sum.inr.inj q);rw[decide_eq_false h,decide_eq_false e]
theorem zpz(a:Int)(b:AS):decide ((F8 a:Key)=F9 b)=false:=decide_eq_false (λq=>nomatch q)
theorem zps(a:AS)(b:Int):decide ((F9 a:Key)=F8 b)=false:=decide_eq_false (λq=>nomatch q)
def yW(prog:Aa)(w:Ao):PySem.KeyKind prog w Key where
 is:=ybX
 hash:=ygd w
 inj:=λv a b ha hb=>by
  rcases zJ ha with⟨i,t,rfl,rfl⟩|⟨x,t,rfl,rfl⟩
  .rcases zJ hb with⟨j,u,rfl,e⟩|⟨y,u,rfl,e⟩
   .injection e with e1 _;rw[e1]
   .exact nomatch e
  .rcases zJ hb with⟨j,u,rfl,e⟩|⟨y,u,rfl,e⟩
   .exact nomatch e
   .injection e with e1 _;rw[e1]
 byValue:=λk v h=>by
  rcases zJ h with⟨i,t,rfl,rfl⟩|⟨x,t,rfl,rfl⟩<;>rfl
 pyHash:=λhv h=>by
  rcases zJ hv with⟨i,t,rfl,rfl⟩|⟨x,t,rfl,rfl⟩
  .exact wpAny_pyHash_int h
  .exact wpAny_pyHash_str h
 eqBool:=λhu hv h=>by
  rcases zJ hu with⟨i,t,rfl,rfl⟩|⟨x,t,rfl,rfl⟩
  .rcases zJ hv with⟨j,u,rfl,rfl⟩|⟨y,u,rfl,rfl⟩
   .rw[zoQ]at h;exact wpAny_eqBool_int h
   .rw[zpz]at h;exact Fv i t y u _ _ _ _ h
  .rcases zJ hv with⟨j,u,rfl,rfl⟩|⟨y,u,rfl,rfl⟩
   .rw[zps]at h;exact Fw x t j u _ _ _ _ h
   .rw[zon]at h;exact wpAny_eqBool_str h
 «strs»:=λk x t v h=>by
  rcases zJ h with⟨i,u,rfl,e⟩|⟨y,u,rfl,e⟩
  .exact nomatch e
  .injection e with e1 _;subst e1
   cases v<;>rfl
theorem zfO(prog:Aa)(w:Ao)(i:Int)(t:Hd):(yW prog w).is (.inl i) (.int i t)=true:=ziT i t
theorem zfB(prog:Aa)(w:Ao)(x:AS)(t:Hd):(yW prog w).is (.inr x) (.str x t)=true:=ziU x t
inductive V where
 |non|bl (b:Bool)|int (i:Int)|str (x:AS)|byt (b:Array UInt8)|flt (b:UInt64)|ref (a:AI)|ty (n:String)
 deriving DecidableEq
def RelV:V->AG->Prop
 |.non,u=>u=CQ
 |.bl b,u=>u=EJ b
 |.int i,u=>∃t,u=Ep i t
 |.str x,u=>∃t,u=GX x t
 |.byt b,u=>∃t,u=HX b t
 |.flt b,u=>∃t,u=HY b t
 |.ref a,u=>u=An a
 |.ty n,u=>u=Fx n
abbrev Vals:List V->List AG->Prop:=Gn RelV
theorem Vals.length{xs:List V}{us:List AG}(r:Vals xs us):xs.length=us.length:=El r
theorem Vals.get:∀{xs:List V} {us:List AG} {i:Nat} {x:V},Vals xs us->xs[i]?=AA x->∃u,us[i]?=AA u/\RelV x u
 |_,_,_,_,.nil,e=>by simp at e
 |_,_,0,_,.cons r _,e=>by simp at e;subst e;exact⟨_,rfl,r⟩
 |_,_,i+1,x,.cons _ t,e=>by
  let⟨u,h1,h2⟩:=Vals.get (i:=i) (x:=x) t (by simpa using e);exact⟨u,by simpa using h1,h2⟩
theorem Vals.set{x:V}{u:AG}(r:RelV x u):∀{xs:List V} {us:List AG} (i:Nat),Vals xs us->Vals (xs.set i x) (us.set i u)
 |_,_,_,.nil=>.nil
 |_,_,0,.cons _ t=>.cons r t
 |_,_,i+1,.cons q t=>.cons q (Vals.set r i t)
theorem Vals.append:∀{xs ys:List V} {us ws:List AG},Vals xs us->Vals ys ws->Vals (xs++ys) (us++ws)
 |_,_,_,_,.nil,s=>s
 |_,_,_,_,.cons r t,s=>.cons r (Vals.append t s)
theorem Vals.take:∀{xs:List V} {us:List AG} (n:Nat),Vals xs us->Vals (xs.take n) (us.take n)
 |_,_,0,_=>.nil
 |_,_,_+1,.nil=>.nil
 |_,_,n+1,.cons r t=>.cons r (Vals.take n t)
theorem Vals.drop:∀{xs:List V} {us:List AG} (n:Nat),Vals xs us->Vals (xs.drop n) (us.drop n)
 |_,_,0,r=>r
 |_,_,_+1,.nil=>.nil
 |_,_,n+1,.cons _ t=>Vals.drop n t
theorem Vals.none_of:∀{xs:List V} {us:List AG} {i:Nat},Vals xs us->xs[i]?=AD->us[i]?=none:=λ{xs us i} r e=>by
 have h1:=r.length;have h2:xs.length<=i:=E8.mp e;exact E8.mpr (by lia)
def ybx:Option V->Option AG->Prop
 |some v,AA u=>RelV v u
 |none,AD=>True
 |_,_=>False
def KV{κ:Type}:List (κ×V)->List (κ×AG)->Prop:=Gn λ(p:κ×V) (q:κ×AG)=>p.1=q.1/\RelV p.2 q.2
def kV:Key->V
 |.inl i=>.int i
 |.inr x=>.str x
inductive HO where
 |lst (xs:List V)
 |tup (xs:List V)
 |dK (kvs:List (Key×V))|dT (kvs:List (List Key×V))
 |set (S:Int->Bool) (n:Nat)
 |ins (C dx:AI) (fs:List (AS×V))
 |own (x:AI)
 |xd (fs:List (AS×V))
 |met (f x:AI)
 |rng (lo hi:Int)
 |frz (o:CK) (u:HO)
 |tbl (ps:Array AG)
 |ext (φ:BI->Prop)
abbrev Hp:=AI->Option HO
def upd(H:Hp)(a:AI)(o:HO):Hp:=λb=>if b=a then AA o else H b
theorem zu{H:Hp}{a:AI}{o:HO}:upd H a o a=AA o:=by unfold upd;rw[if_pos rfl]
theorem zk{H:Hp}{a b:AI}{o:HO}(h:b≠a):upd H a o b=H b:=by unfold upd;rw[if_neg h]
theorem zqu{H:Hp}{a b:AI}{o u:HO}(h:H a=AA o)(h':H b=AA u)(d:o≠u):a≠b:=by
 intro e;subst e;rw[h]at h';exact d (AZ h')
theorem zq{H:Hp}{a b:AI}{o:HO}(h:H a=AA o)(h':H b=AD):a≠b:=by
 intro e;subst e;rw[h]at h';cases h'
section
variable (P:Aa)(w:Ao)
def yag(H:Hp)(h:BI)(a:AI):HO->Prop
 |.lst xs=>xs.length<=sizeLine/\∃(its:List AG) (n:Nat),Vals xs its/\h.get? a=AA {cls:=.type "list",data:=.seq its.toArray n}
 |.tup xs=>xs.length<=sizeLine/\∃its:List AG,Vals xs its/\HG h a its.toArray
 |.dK kvs=>kvs.length<=sizeLine/\(a==sysModules)=AC/\∃vs,KV kvs vs/\h.DictOf (yW P w) a vs
 |.dT kvs=>kvs.length<=sizeLine/\(a==sysModules)=AC/\∃xs:List (List Key×AI×AG),
   Gn (λ(p:List Key×V) (q:List Key×AI×AG)=>p.1=q.1/\H q.2.1=AA (.tup (p.1.map kV))/\RelV p.2 q.2.2) kvs xs /\
   ∃o es ep,h.get? a=AA o/\o.ExactDict/\o.data=.dict es ep/\es.toList=xs.map (entryOfKey (tupleKind (yW P w)))/\(xs.map (·.1)).Nodup
 |.set S n=>h.SetOf (intKind P w) a S n
 |.ins C dx fs=>H dx=AA (.own a)/\fs.length<=1000/\dx≠a/\h.get? a=AA (CH C dx) /\
   ∃mA,h.Ns1 dx mA/\(∀f,ybx (fs.lookup f) (mA f))/\GI mA (fs.map (·.1))
 |.own _=>∃o,h.get? a=AA o
 |.xd fs=>∃mA,h.Ns1 a mA/\∀f,ybx (fs.lookup f) (mA f)
 |.rng lo hi=>∃t u v,h.get? a=AA {cls:=.type "range",data:=.fields #[.int lo t,.int hi u,.int 1 v]}
 |.frz o u=>h.get? a=AA o/\yag H h a u
 |.tbl ps=>h.get? a=AA {cls:=.none,data:=.fields ps}
 |.met f x=>h.get? a=AA (Ee (.ref f) (.ref x))
 |.ext φ=>φ h/\(∃o,h.get? a=AA o)/\∀h1 h2:BI,φ h1->(∀o,h1.get? a=AA o->h2.get? a=AA o)->φ h2
def HOk(H:Hp)(h:BI):Prop:=∀a o,H a=AA o->yag P w H h a o
end
section
variable {P:Aa}{w:Ao}{H H':Hp}{h h':BI}{a:AI}{o:HO}
theorem yag.lt(x:yag P w H h a o):a<h.objs.size:=by
 cases o with
 |lst xs=>let⟨_,_,_,_,e⟩:=x;exact A1 e
 |tup xs=>let⟨_,_,_,p⟩:=x;exact p.lt
 |dK kvs=>let⟨_,_,_,_,o,_,_,e,_⟩:=x;exact A1 e
 |dT kvs=>let⟨_,_,_,_,o,_,_,e,_⟩:=x;exact A1 e
 |set S n=>let⟨o,_,_,_,e,_⟩:=x;exact A1 e
 |ins C dx fs=>let⟨_,_,_,e,_⟩:=x;exact A1 e
 |own y=>let⟨_,e⟩:=x;exact A1 e
 |xd fs=>let⟨_,⟨_,_,_,e,_⟩,_⟩:=x;exact A1 e
 |rng lo hi=>let⟨_,_,_,e⟩:=x;exact A1 e
 |frz ob u=>let⟨e,_⟩:=x;exact A1 e
 |tbl ps=>exact A1 (show h.get? a=AA _ from x)
 |met f y=>exact A1 (show h.get? a=AA _ from x)
 |ext φ=>let⟨_,⟨_,e⟩,_⟩:=x;exact A1 e
theorem Paired.mapP{α β:Type}{F G:α->β->Prop}:∀{l₁:List α} {l₂:List β},Gn F l₁ l₂->(∀a b,F a b->G a b)->Gn G l₁ l₂
 |_,_,.nil,_=>.nil
 |_,_,.cons r t,f=>.cons (f _ _ r) (Paired.mapP t f)
theorem yag.stay(x:yag P w H h a o)(k:∀b u,(b=a \/ H b=AA (.own a))->h.get? b=AA u->h'.get? b=AA u)
  (ho:∀b,H b=AA (.own a)->H' b=AA (.own a)) (ht:∀b xs,H b=AA (.tup xs)->H' b=AA (.tup xs)):yag P w H' h' a o:=by
 induction o with
 |lst xs=>let⟨z,its,n,r,e⟩:=x;exact⟨z,its,n,r,k _ _ (.inl rfl) e⟩
 |tup xs=>let⟨z,its,r,ob,e,c⟩:=x;exact⟨z,its,r,ob,k _ _ (.inl rfl) e,c⟩
 |dK kvs=>let⟨z,y,vs,r,ob,es,ep,e,c⟩:=x;exact⟨z,y,vs,r,ob,es,ep,k _ _ (.inl rfl) e,c⟩
 |dT kvs=>
  let⟨z,y,xs,r,ob,es,ep,e,c⟩:=x;exact⟨z,y,xs,Paired.mapP r λp q z=>⟨z.1,ht _ _ z.2.1,z.2.2⟩,ob,es,ep,k _ _ (.inl rfl) e,c⟩
 |set S n=>let⟨ob,es,ep,t,e,c⟩:=x;exact⟨ob,es,ep,t,k _ _ (.inl rfl) e,c⟩
 |ins C dx fs=>
  let⟨d,z,ne,e,mA,⟨od,es,ep,e2,c⟩,r⟩:=x;exact⟨ho _ d,z,ne,k _ _ (.inl rfl) e,mA,⟨od,es,ep,k _ _ (.inr d) e2,c⟩,r⟩
 |own y=>let⟨ob,e⟩:=x;exact⟨ob,k _ _ (.inl rfl) e⟩
 |xd fs=>let⟨mA,⟨od,es,ep,e,c⟩,r⟩:=x;exact⟨mA,⟨od,es,ep,k _ _ (.inl rfl) e,c⟩,r⟩
 |rng lo hi=>let⟨t,u,v,e⟩:=x;exact⟨t,u,v,k _ _ (.inl rfl) e⟩
 |frz ob u ih=>let⟨e,q⟩:=x;exact⟨k _ _ (.inl rfl) e,ih q⟩
 |tbl ps=>
  have e:h.get? a=AA {cls:=.none,data:=.fields ps}:=x;show h'.get? a=AA {cls:=.none,data:=.fields ps};exact k a _ (.inl rfl) e
 |met f y=>
  have e:h.get? a=AA (Ee (.ref f) (.ref y)):=x;show h'.get? a=AA (Ee (.ref f) (.ref y));exact k a _ (.inl rfl) e
 |ext φ=>let⟨p,⟨o,e⟩,st⟩:=x;exact⟨st _ _ p λo q=>k _ _ (.inl rfl) q,⟨o,k _ _ (.inl rfl) e⟩,st⟩
theorem HOk.lt(x:HOk P w H h)(e:H a=AA o):a<h.objs.size:=(x a o e).lt
theorem HOk.fresh(x:HOk P w H h)(e:h.objs.size<=a):H a=none:=by
 cases q:H a with
 |none=>rfl
 |some u=>exact absurd (A7 (x.lt q) e) (DD _)
theorem HOk.kept(x:HOk P w H h)(k:∀b u,h.get? b=AA u->h'.get? b=AA u):HOk P w H h':=λa o e=>
 (x a o e).stay (λb u _ q=>k b u q) (λ_ q=>q) λ_ _ q=>q
theorem HOk.laid(x:HOk P w H h)(k:∀b u,h.get? b=AA u->h'.get? b=AA u)(hp:h.objs.size<=a)(new:yag P w (upd H a o) h' a o):HOk P w (upd H a o) h':=λb u e=>by
 have hn:=x.fresh hp
 by_cases hb:b=a
 .subst hb;rw[zu]at e;cases e;exact new
 .rw[zk hb]at e;exact(x b u e).stay (λc v _ q=>k c v q) (λc q=>by rw[zk (zq q hn)];exact q) λc xs q=>by rw[zk (zq q hn)];exact q
end
def Rd(H:Hp)(a:AI)(u:HO):Prop:=H a=AA u \/ ∃o,H a=AA (.frz o u)
theorem Rd.of{H:Hp}{a:AI}{u:HO}(h:H a=AA u):Rd H a u:=.inl h
theorem Rd.ok{P:Aa}{w:Ao}{H:Hp}{h:BI}{a:AI}{u:HO}(r:Rd H a u)(x:HOk P w H h):yag P w H h a u:=by
 rcases r with r|⟨o,r⟩
 .exact x a u r
 .let⟨_,q⟩:=x a _ r;exact q
def Mut:Option HO->Prop
 |some (.lst _)=>True
 |some (.dK _)=>True
 |some (.dT _)=>True
 |some (.set _ _)=>True
 |some (.ins _ _ _)=>True
 |some (.ext _)=>True
 |_=>False
section
variable {P:Aa}{w:Ao}{H:Hp}{h h':BI}{x e:AI}{o':HO}
theorem HOk.write(ok:HOk P w H h)(mu:Mut (H x))(he:e=x \/ H e=AA (.own x))(k:∀b u,b≠e->h.get? b=AA u->h'.get? b=AA u)(heo:∃u,h'.get? e=AA u)
  (new:yag P w (upd H x o') h' x o'):HOk P w (upd H x o') h':=λb u q=>by
 have nown:∀c y,H c=AA (.own y)->c≠x:=λc y r z=>by subst z;rw[r]at mu;exact mu
 have ntup:∀c xs,H c=AA (.tup xs)->c≠x:=λc xs r z=>by subst z;rw[r]at mu;exact mu
 by_cases hb:b=x
 .subst hb;rw[zu]at q;cases q;exact new
 .rw[zk hb]at q
  by_cases hbe:b=e
  .have q':H b=AA (.own x):=by
    rcases he with z|z
    .exact absurd (hbe.trans z) hb
    .rw[hbe];exact z
   rw[q]at q';cases q';let⟨v,hv⟩:=heo;exact⟨v,by rw[hbe];exact hv⟩
  .refine(ok b u q).stay (λc v hc r=>k c v ?_ r) (λc r=>by rw[zk (nown c b r)];exact r) λc xs r=>by rw[zk (ntup c xs r)];exact r
   rcases hc with rfl|hc
   .exact hbe
   .rintro rfl
    rcases he with z|z
    .exact nown c b hc z
    .rw[hc]at z;cases z;exact hb rfl
end
structure Un(fs ex:List AI)(H H':Hp)(h h':BI):Prop where
 keep:∀b o,h.get? b=AA o->H b=AD->b∉fs->b∉ex->h'.get? b=AA o
 slot:∀b o,h.get? b=AA o->H b=AD->b∈fs->b∉ex->∃sl,h'.get? b=AA {o with slots:=sl}
 free:∀b o,h.get? b=AA o->H b=AD->b∉ex->H' b=AD
 there:∀b o,h.get? b=AA o->b∉ex->∃o',h'.get? b=AA o'
 tups:∀b xs,H b=AA (.tup xs)->H' b=AA (.tup xs)
 frzs:∀b o u,H b=AA (.frz o u)->H' b=AA (.frz o u)
 tbls:∀b ps,H b=AA (.tbl ps)->∃more,H' b=AA (.tbl (ps++more))
section
variable {fs fs' ex ex':List AI}{H H1 H2:Hp}{h h1 h2 h':BI}{a x e:AI}{o:HO}
theorem Un.any(u:Un fs ex H H1 h h1){b:AI}{ob:CK}(q:h.get? b=AA ob)(n:H b=AD)(hx:b∉ex):∃sl,h1.get? b=AA {ob with slots:=sl}:=by
 by_cases hb:b∈fs
 .exact u.slot b ob q n hb hx
 .exact⟨ob.slots,u.keep b ob q n hb hx⟩
theorem Un.kept(k:∀b u,h.get? b=AA u->h'.get? b=AA u):Un fs ex H H h h':=
 ⟨λb ob q _ _ _=>k b ob q,λb ob q _ _ _=>⟨ob.slots,k b ob q⟩,λ_ _ _ n _=>n,λb ob q _=>⟨ob,k b ob q⟩,λ_ _ q=>q,λ_ _ _ q=>q,λ_ ps q=>⟨#[],by rw[q];simp⟩⟩
theorem Un.refl:Un fs ex H H h h:=Un.kept λ_ _ q=>q
theorem Un.laid(k:∀b u,h.get? b=AA u->h'.get? b=AA u)(hp:h.objs.size<=a)(hn:H a=AD):Un fs ex H (upd H a o) h h' where
 keep:=λb u q _ _ _=>k b u q
 slot:=λb u q _ _ _=>⟨u.slots,k b u q⟩
 free:=λb u q n _=>by rw[zk (Ar (A7 (A1 q) hp))];exact n
 there:=λb u q _=>⟨u,k b u q⟩
 tups:=λb xs q=>by rw[zk (zq q hn)];exact q
 frzs:=λb u xs q=>by rw[zk (zq q hn)];exact q
 tbls:=λb ps q=>⟨#[],by rw[zk (zq q hn),q];simp⟩
theorem Un.write(mu:Mut (H x))(he:e=x \/ H e=AA (.own x))(k:∀b u,b≠e->h.get? b=AA u->h'.get? b=AA u)(heo:∃u,h'.get? e=AA u):Un fs ex H (upd H x o) h h':=by
 have hx:∀b,H b=AD->b≠x:=λb n z=>by subst z;rw[n]at mu;exact mu
 have hb:∀b,H b=AD->b≠e:=λb n z=>by
  subst z;rcases he with r|r
  .exact hx b n r
  .rw[n]at r;cases r
 have hm:∀b u,H b=AA u->¬Mut (AA u)->b≠x:=λb u q nm z=>by subst z;rw[q]at mu;exact nm mu
 refine⟨λb u q n _ _=>k b u (hb b n) q,λb u q n _ _=>⟨u.slots,k b u (hb b n) q⟩,λb u q n _=>by rw[zk (hx b n)];exact n,λb u q _=>?_,
  λb xs q=>by rw[zk (hm b _ q λz=>z)];exact q,λb u xs q=>by rw[zk (hm b _ q λz=>z)];exact q,λb ps q=>⟨#[],by rw[zk (hm b _ q λz=>z),q];simp⟩⟩
 by_cases hbe:b=e
 .subst hbe;exact heo
 .exact⟨u,k b u hbe q⟩
end
def trk(h:BI)(H:Hp):List Addr:=(CS h.objs.size).filter λa=>(H a).isSome
def yck(h:BI)(H:Hp):Heap:=DG h (trk h H)
theorem ziX(h:BI)(H:Hp):(yck h H).objs.size=h.objs.size:=PySem.W.hideAll_size _ _
theorem zkd{h:BI}{H:Hp}{b:AI}{o:CK}(e:h.get? b=AA o)(n:H b=AD):(yck h H).get? b=AA o:=
 Fc _ e λhm=>by
  have q:(H b).isSome=true:=(Gf.mp hm).2;rw[n]at q;simp at q
theorem zmc{h:BI}{H:Hp}{b:AI}{o:CK}(e:(yck h H).get? b=AA o):h.get? b=AA o/\H b=none:=by
 have e':h.get? b=AA o:=Fy (trk h H) e;refine⟨e',?_⟩
 cases q:H b with
 |none=>rfl
 |some x=>
  have hm:b∈trk h H:=Gf.mpr ⟨FY.mpr (A1 e'),by simp[q]⟩;have z:(yck h H).get? b=none:=PySem.W.hideAll_none (trk h H) hm;rw[z]at e;cases e
structure Mod(K:AE)(mg:AS->Option AG)(base:BI):Prop where
 kin:K.In base
 glob:base.Ns mainGlobals mg
 blt:∃mb,base.Ns builtinsNs mb/\∀x:AS,x ≠ "__name__"->mb x=bootBuiltins x
 nolimit:base.NoLimit
structure Cx where
 prog:Aa
 w:Ao
 K:AE
 mg:AS->Option AG
 base:BI
 A:Ay
 N:List AS
 s₀:AJ
 H₀:Hp
 env:Env
 outer:List Env
 stack:List Env
 ex:List AI
 fn:AS->Bool
 calm:Bool
 pn:List (AI×CK)
 xe:AG->AJ->Prop
def frs(l:List Env):List Addr:=l.filterMap (·.frame)
abbrev Cx.fs(X:Cx):List Addr:=frs X.outer
def Vis(sc:Br)(x:AS):Prop:=sc.names.lookup x=AA .local \/ sc.names.lookup x=AA .cell \/ sc.names.lookup x=AA .free
def Loc(sc:Br)(x:AS):Prop:=sc.names.lookup x=AA .local \/ sc.names.lookup x=AA .cell
def Look(env:Env)(h:BI)(m:AS->Option AG)(x:AS)(u:AG):Prop:=
 (env.kindOf x=AA .local/\m x=AA u) \/ ((env.kindOf x=AA .cell \/ env.kindOf x=AA .free)/\∃c,env.cells.lookup x=AA c/\h.IsCell c (AA u))
structure Cx.Ok(X:Cx):Prop where
 mod:Mod X.K X.mg X.base
 kind:X.env.scope.kind=.function
 glob:X.env.globals=mainGlobals
 blt:X.env.builtins=builtinsNs
 above:X.s₀.heap.objs.size<=X.env.locals
 inj:∀x y c,X.env.cells.lookup x=AA c->X.env.cells.lookup y=AA c->x=y
 has:∀x,(X.env.kindOf x=AA .cell \/ X.env.kindOf x=AA .free)->∃c,X.env.cells.lookup x=AA c
 cab:∀x c,X.fn x=AB->X.env.cells.lookup x=AA c->X.s₀.heap.objs.size<=c
 hd:X.calm=AB->X.A.handled=AD
 frames:X.A.frames=AA X.stack
 stk:X.stack=X.outer \/ (X.stack=X.env::X.outer/\X.env.frame=AA X.env.locals)
 exf:∀b∈X.ex,b≠X.env.locals/\∀x c,X.env.cells.lookup x=AA c->c≠b
 bs:∀b o,X.base.get? b=AA o->X.s₀.heap.get? b=AA o/\X.H₀ b=AD
 bsz:X.base.objs.size<=X.s₀.heap.objs.size
 noex:∀b o,X.base.get? b=AA o->b∉X.ex
 exfs:∀b∈X.ex,b∉X.fs
 funs:X.s₀.heap.FunFrames X.base X.outer
 frf:∀b∈X.fs,X.H₀ b=AD
structure Inv(X:Cx)(pins:List (AI×CK))(σ:List (Option V))(H:Hp)(s:AJ):Prop where
 ok:X.Ok
 os:s.os=X.s₀.os
 bare:Dh s.gens
 base:Un X.fs X.ex X.H₀ H X.s₀.heap s.heap
 loc:∃m,s.heap.Ns X.env.locals m/\∀(i:Nat) (x:AS) (v:V),X.N[i]?=AA x->σ[i]?=AA (AA v)->Vis X.env.scope x->∃u,RelV v u/\Look X.env s.heap m x u
 cell:∀x c,X.env.cells.lookup x=AA c->∃v,s.heap.IsCell c v
 free:H X.env.locals=AD
 freeC:∀x c,X.env.cells.lookup x=AA c->H c=AD
 pin:∀p∈X.pn++pins,s.heap.get? p.1=AA p.2/\H p.1=AD/\p.1≠X.env.locals/\p.1∉X.fs/\∀v,p.2.data ≠ .cell v
 hok:HOk X.prog X.w H s.heap
 len:σ.length=X.N.length
section
variable {X:Cx}{pins:List (AI×CK)}{σ:List (Option V)}{H H':Hp}{s:AJ}{h':BI}
theorem Cx.Ok.nofr(ok:X.Ok){b:AI}{o:CK}(e:X.base.get? b=AA o):b∉X.fs:=λhb=>by
 have:=(ok.funs.mem hb).1;rw[e]at this;cases this
theorem Inv.bs(I:Inv X pins σ H s):∀b o,X.base.get? b=AA o->s.heap.get? b=AA o/\H b=none:=λb o e=>
 ⟨I.base.keep b o (I.ok.bs b o e).1 (I.ok.bs b o e).2 (I.ok.nofr e) (I.ok.noex b o e),I.base.free b o (I.ok.bs b o e).1 (I.ok.bs b o e).2 (I.ok.noex b o e)⟩
theorem Inv.bk(I:Inv X pins σ H s):∀b o,X.base.get? b=AA o->s.heap.get? b=AA o:=λb o e=>(I.bs b o e).1
theorem Inv.mod(I:Inv X pins σ H s):Mod X.K X.mg X.base:=I.ok.mod
theorem Inv.kIn(I:Inv X pins σ H s):X.K.In s.heap:=I.ok.mod.kin.keeps I.bk
theorem Inv.lt(I:Inv X pins σ H s):X.env.locals<s.heap.objs.size:=let ⟨_,hn,_⟩:=I.loc;hn.lt
theorem Inv.sz(I:Inv X pins σ H s):X.s₀.heap.objs.size<=s.heap.objs.size:=B1 I.ok.above (FB I.lt)
theorem Inv.nofs(I:Inv X pins σ H s){a:AI}(h:s.heap.objs.size<=a):a∉X.fs:=λhb=>by
 let⟨_,o,ho,_⟩:=I.ok.funs.mem hb;exact absurd (A7 (A1 ho) (B1 I.sz h)) (DD _)
theorem Inv.cne(I:Inv X pins σ H s):∀x c,X.env.cells.lookup x=AA c->c≠X.env.locals:=λx c e z=>by
 let⟨v,o,ho,hd⟩:=I.cell x c e;let⟨m,⟨o',es,ep,ho',hd',_⟩,_⟩:=I.loc;rw[z,ho']at ho;cases ho;rw[hd']at hd;cases hd
theorem Inv.funs(I:Inv X pins σ H s):s.heap.FunFrames X.base X.outer:=by
 have all:∀(l:List Env),(∀b∈frs l,b∈X.fs)->X.s₀.heap.FunFrames X.base l->s.heap.FunFrames X.base l:=by
  intro l
  induction l with
  |nil=>intro _ _;trivial
  |cons env r ih=>
   intro hs hl;let⟨hk,⟨L,o,hf,hn,ho,hd⟩,hr⟩:=hl;have hL:L∈X.fs:=hs L (by unfold frs;rw[Bv,hf];exact As);let⟨sl,e⟩:=I.base.slot L o ho (I.ok.frf L hL) hL λz=>I.ok.exfs L z hL;exact⟨hk,⟨L,_,hf,hn,e,hd⟩,ih (λb hb=>hs b (by unfold frs;rw[Bv,hf];exact AV _ hb)) hr⟩
 exact all X.outer (λ_ hb=>hb) I.ok.funs
theorem Inv.stack(I:Inv X pins σ H s):s.heap.FunFrames X.base X.stack:=by
 rcases I.ok.stk with e|⟨e,hf⟩
 .rw[e];exact I.funs
 .rw[e];let⟨m,hn,_⟩:=I.loc;refine .cons (by rw[I.ok.kind];decide) hf hn ?_ I.funs;exact Heap.get?_none_of_le (B1 I.ok.bsz I.ok.above)
theorem Inv.stkSub(I:Inv X pins σ H s):∀b∈frs X.stack,b∈X.env.locals::X.fs:=λb hb=>by
 rcases I.ok.stk with e|⟨e,hf⟩
 .rw[e]at hb;exact AV _ hb
 .rw[e]at hb;unfold frs at hb;rw[Bv,hf]at hb;exact hb
theorem Inv.stkFree(I:Inv X pins σ H s):∀b∈frs X.stack,H b=none:=λb hb=>by
 rcases AO.mp (I.stkSub b hb)with e|hb
 .rw[e];exact I.free
 .let⟨_,o,ho,_⟩:=I.ok.funs.mem hb;exact I.base.free b o ho (I.ok.frf b hb) λz=>I.ok.exfs b z hb
theorem Inv.step{g':Array GenState}{t':Nat}{d':Drawn}{ch:List AI}(I:Inv X pins σ H s)
  (hch:∀b∈ch,(b∈X.ex \/ X.s₀.heap.objs.size<=b)/\b≠X.env.locals/\(∀x c,X.env.cells.lookup x=AA c->c≠b)/\∀p∈X.pn++pins,p.1≠b)
  (keep:∀b o,b≠X.env.locals->b∉X.fs->b∉ch->s.heap.get? b=AA o->H b=AD->h'.get? b=AA o)
  (slot:∀b o,b≠X.env.locals->b∈X.fs->b∉ch->s.heap.get? b=AA o->H b=AD->∃sl,h'.get? b=AA {o with slots:=sl}) (free:∀b o,b∉ch->s.heap.get? b=AA o->H b=AD->H' b=AD)
  (there:∀b o,b∉ch->s.heap.get? b=AA o->∃o',h'.get? b=AA o')
  (tups:∀b xs,H b=AA (.tup xs)->H' b=AA (.tup xs)) (frzs:∀b o u,H b=AA (.frz o u)->H' b=AA (.frz o u)) (tbls:∀b ps,H b=AA (.tbl ps)->∃more,H' b=AA (.tbl (ps++more)))
  (ns:∀m,s.heap.Ns X.env.locals m->h'.Ns X.env.locals m) (hok:HOk X.prog X.w H' h') (hg:Dh g'):
  Inv X pins σ H' {s with heap:=h',gens:=g',drawn:=d',toks:=t'}:=by
 have neL:∀b o,X.s₀.heap.get? b=AA o->b≠X.env.locals:=λb o e=>Ar (A7 (A1 e) I.ok.above);have neC:∀b o,X.s₀.heap.get? b=AA o->b∉X.ex->b∉ch:=λb o e hx hb=>by
  rcases (hch b hb).1 with z|z
  .exact hx z
  .exact absurd (A7 (A1 e) z) (DD _)
 have cellK:∀x c,X.env.cells.lookup x=AA c->∀v,s.heap.IsCell c v->h'.IsCell c v:=λx c e v ⟨o,ho,hd⟩=>by
  have nch:c∉ch:=λz=>(hch c z).2.2.1 x c e rfl
  by_cases hc:c∈X.fs
  .let⟨sl,q⟩:=slot c o (I.cne x c e) hc nch ho (I.freeC x c e);exact⟨_,q,hd⟩
  .exact⟨o,keep c o (I.cne x c e) hc nch ho (I.freeC x c e),hd⟩
 refine⟨I.ok,I.os,hg,⟨λb o e n hb hx=>?_,λb o e n hb hx=>?_,λb o e n hx=>?_,λb o e hx=>?_,λb xs e=>tups b xs (I.base.tups b xs e),λb o xs e=>frzs b o xs (I.base.frzs b o xs e),λb ps e=>?_⟩,?_,λx c e=>?_,?_,λx c e=>?_,λp hp=>?_,hok,I.len⟩
 .exact keep b o (neL b o e) hb (neC b o e hx) (I.base.keep b o e n hb hx) (I.base.free b o e n hx)
 .let⟨sl,e1⟩:=I.base.slot b o e n hb hx;let⟨sl',e2⟩:=slot b _ (neL b o e) hb (neC b o e hx) e1 (I.base.free b o e n hx);exact⟨sl',e2⟩
 .let⟨o',e1⟩:=I.base.there b o e hx;exact free b o' (neC b o e hx) e1 (I.base.free b o e n hx)
 .let⟨o',e1⟩:=I.base.there b o e hx;exact there b o' (neC b o e hx) e1
 .let⟨m1,e1⟩:=I.base.tbls b ps e;let⟨m2,e2⟩:=tbls b _ e1;exact⟨m1++m2,by rw[e2,EK]⟩
 .let⟨m,hn,hl⟩:=I.loc;refine⟨m,ns m hn,λi x v e1 e2 e3=>?_⟩;let⟨u,r,l⟩:=hl i x v e1 e2 e3;refine⟨u,r,?_⟩;rcases l with l|⟨k,c,e,z⟩
  .exact .inl l
  .exact .inr ⟨k,c,e,cellK x c e _ z⟩
 .let⟨v,z⟩:=I.cell x c e;exact⟨v,cellK x c e v z⟩
 .let⟨m,⟨o,_,_,ho,_⟩,_⟩:=I.loc;exact free _ o (λz=>(hch _ z).2.1 rfl) ho I.free
 .let⟨v,o,ho,hd⟩:=I.cell x c e;exact free c o (λz=>(hch c z).2.2.1 x c e rfl) ho (I.freeC x c e)
 .let⟨e,n,ne,nf,d⟩:=I.pin p hp;have nch:p.1∉ch:=λz=>(hch p.1 z).2.2.2 p hp rfl;exact⟨keep p.1 p.2 ne nf nch e n,free p.1 p.2 nch e n,ne,nf,d⟩
theorem Inv.un{t':Nat}(I:Inv X pins σ H s)(u:Un X.fs [] H H' s.heap h')(hok:HOk X.prog X.w H' h'):Inv X pins σ H' {s with heap:=h',toks:=t'}:=by
 let⟨m,⟨o,es,ep,ho,r⟩,_⟩:=id I.loc;let⟨sl,hL⟩:=u.any ho I.free (by simp);exact I.step (g':=s.gens) (d':=s.drawn) (ch:=[]) (λ_ z=>nomatch z) (λb o _ hb _ e n=>u.keep b o e n hb (by simp)) (λb o _ hb _ e n=>u.slot b o e n hb (by simp)) (λb o _ e n=>u.free b o e n (by simp)) (λb o _ e=>u.there b o e (by simp)) u.tups u.frzs u.tbls (λm' hm=>by
  let⟨o',es',ep',ho',r'⟩:=hm;rw[ho]at ho';cases ho';exact⟨_,es',ep',hL,r'⟩) hok I.bare
theorem Inv.call{g':Array GenState}{t':Nat}{d':Drawn}{ch:List AI}(I:Inv X pins σ H s)(u:Un (frs X.stack) ch H H' s.heap h')(hok:HOk X.prog X.w H' h')(hg:Dh g')
  (hch:∀b∈ch,(b∈X.ex \/ X.s₀.heap.objs.size<=b)/\b≠X.env.locals/\(∀x c,X.env.cells.lookup x=AA c->c≠b)/\∀p∈X.pn++pins,p.1≠b):
  Inv X pins σ H' {s with heap:=h',gens:=g',drawn:=d',toks:=t'}:=by
 let⟨m,⟨o,es,ep,ho,r⟩,_⟩:=id I.loc;let⟨sl,hL⟩:=u.any ho I.free λz=>(hch _ z).2.1 rfl;exact I.step (ch:=ch) hch (λb o hL hb hc e n=>u.keep b o e n (λz=>(AO.mp (I.stkSub b z)).elim hL hb) hc) (λb o _ _ hc e n=>u.any e n hc) (λb o hc e n=>u.free b o e n hc) (λb o hc e=>u.there b o e hc) u.tups u.frzs u.tbls (λm' hm=>by
  let⟨o',es',ep',ho',r'⟩:=hm;rw[ho]at ho';cases ho';exact⟨_,es',ep',hL,r'⟩) hok hg
theorem Inv.turned{t':Nat}{it:AI}(I:Inv X pins σ H s)(k:∀b o,b≠it->s.heap.get? b=AA o->h'.get? b=AA o)(hn:H it=AD)(hL:it≠X.env.locals)
  (h1:it∈X.ex \/ X.s₀.heap.objs.size<=it) (h2:∀x c,X.env.cells.lookup x=AA c->c≠it) (h3:∀p∈X.pn++pins,p.1≠it):Inv X pins σ H {s with heap:=h',toks:=t'}:=by
 have nit:∀b u,H b=AA u->b≠it:=λb u e z=>by rw[z,hn]at e;cases e
 refine I.step (g':=s.gens) (d':=s.drawn) (ch:=[it]) (λb hb=>?_) (λb o _ _ hc e _=>k b o (λz=>hc (by simp[z])) e) (λb o _ _ hc e _=>⟨o.slots,k b o (λz=>hc (by simp[z])) e⟩) (λ_ _ _ _ n=>n)
  (λb o hc e=>⟨o,k b o (λz=>hc (by simp[z])) e⟩) (λ_ _ e=>e) (λ_ _ _ e=>e) (λb ps e=>⟨#[],by rw[e];simp⟩) (λm hm=>?_) (λb u e=>?_) I.bare
 .have e:b=it:=by simpa using hb
  subst e;exact⟨h1,hL,h2,h3⟩
 .let⟨o,es,ep,ho,r⟩:=hm;exact⟨o,es,ep,k _ o (BP hL) ho,r⟩
 .refine(I.hok b u e).stay (λc v hc q=>k c v ?_ q) (λ_ q=>q) λ_ _ q=>q;rcases hc with z|z
  .rw[z];exact nit b u e
  .exact nit c _ z
theorem Inv.tok(I:Inv X pins σ H s)(t:Nat):Inv X pins σ H {s with toks:=t}:=I.un (h':=s.heap) (t':=t) Un.refl I.hok
theorem Inv.kept{t':Nat}(I:Inv X pins σ H s)(k:∀b u,s.heap.get? b=AA u->h'.get? b=AA u):Inv X pins σ H {s with heap:=h',toks:=t'}:=I.un (Un.kept k) (I.hok.kept k)
theorem Inv.laid{a:AI}{o:HO}{t':Nat}(I:Inv X pins σ H s)(k:∀b u,s.heap.get? b=AA u->h'.get? b=AA u)(hp:s.heap.objs.size<=a)(new:yag X.prog X.w (upd H a o) h' a o):
  Inv X pins σ (upd H a o) {s with heap:=h',toks:=t'}:=I.un (Un.laid k hp (I.hok.fresh hp)) (I.hok.laid k hp new)
theorem Inv.write{x e:AI}{o:HO}{t':Nat}(I:Inv X pins σ H s)(mu:Mut (H x))(he:e=x \/ H e=AA (.own x))(k:∀b u,b≠e->s.heap.get? b=AA u->h'.get? b=AA u)(heo:∃u,h'.get? e=AA u)
  (new:yag X.prog X.w (upd H x o) h' x o):Inv X pins σ (upd H x o) {s with heap:=h',toks:=t'}:=I.un (Un.write mu he k heo) (I.hok.write mu he k heo new)
theorem Inv.pins_of{pins':List (AI×CK)}(I:Inv X pins σ H s)(h:∀p∈pins',s.heap.get? p.1=AA p.2/\H p.1=AD/\p.1≠X.env.locals/\p.1∉X.fs/\∀v,p.2.data ≠ .cell v):Inv X pins' σ H s:=
 ⟨I.ok,I.os,I.bare,I.base,I.loc,I.cell,I.free,I.freeC,λp hp=>(Ax.mp hp).elim (λz=>I.pin p (Do _ z)) (h p),I.hok,I.len⟩
theorem zf2{N:List AS}(hN:N.Nodup){i j:Nat}{x:AS}(a:N[i]?=AA x)(b:N[j]?=AA x):i=j:=by
 let⟨h1,e1⟩:=BO.mp a;let⟨h2,e2⟩:=BO.mp b;exact(List.getElem_inj hN).mp (e1.trans e2.symm)
theorem zi7{M:Model}{A:Ay}{E:AG->AJ->Prop}{i:Nat}{x:AS}{v:V}{u:AG}{Q:Unit->AJ->Prop}(I:Inv X pins σ H s)(hN:X.N.Nodup)(hi:X.N[i]?=AA x)(hx:Loc X.env.scope x)(r:RelV v u)
  (h:∀s',Inv X pins (σ.set i (AA v)) H s'->(∃a,Cd a s.heap s'.heap/\(a=X.env.locals \/ X.env.cells.lookup x=AA a))->Q () s') (hf:X.fn x=AB \/ X.env.scope.names.lookup x=AA .local:=by first|exact .inl rfl|exact .inr rfl|assumption):A3 M A (storeName X.env x u) Q E s:=by
 let⟨m,hn,hl⟩:=id I.loc;have hcls:(X.env.scope.kind==.class || (X.env.scope.kind==.module&&X.env.locals != X.env.globals))=false:=by rw[I.ok.kind];rfl
 have hiσ:i<σ.length:=by rw[I.len];exact(BO.mp hi).1
 have cne:=I.cne;have tracked:∀{a:AI} {h':BI},(∃o,s.heap.get? a=AA o/\H a=AD)->Cd a s.heap h'->HOk X.prog X.w H h':=λ{a h'} ha hs b ob e=>by
  let⟨_,_,hfree⟩:=ha;refine(I.hok b ob e).stay (λc w' hc q=>(hs.2 c ?_).trans q) (λ_ q=>q) λ_ _ q=>q
  rintro rfl
  rcases hc with rfl|hc
  .rw[hfree]at e;cases e
  .rw[hfree]at hc;cases hc
 rcases hx with hk|hk
 .refine wpAny_storeName_local hk hn (λh' hn' hs=>?_) hcls;let⟨oL,_,_,hoL,_⟩:=id hn;refine h _ ⟨I.ok,I.os,I.bare,⟨λb o e n hb hx=>?_,λb o e n hb hx=>?_,I.base.free,λb o e hx=>?_,I.base.tups,I.base.frzs,I.base.tbls⟩,⟨_,hn',λj y v' e1 e2 e3=>?_⟩,λy c e=>?_,I.free,I.freeC,λp hp=>?_,tracked ⟨oL,hoL,I.free⟩ hs,by simpa using I.len⟩ ⟨_,hs,.inl rfl⟩
  .exact(hs.2 b (Ar (A7 (A1 e) I.ok.above))).trans (I.base.keep b o e n hb hx)
  .let⟨sl,e1⟩:=I.base.slot b o e n hb hx;exact⟨sl,(hs.2 b (Ar (A7 (A1 e) I.ok.above))).trans e1⟩
  .let⟨o',e1⟩:=I.base.there b o e hx;exact⟨o',(hs.2 b (Ar (A7 (A1 e) I.ok.above))).trans e1⟩
  .by_cases hj:j=i
   .subst hj;rw[hi]at e1;cases e1;rw[Ab hiσ]at e2
    cases e2
    exact⟨u,r,.inl ⟨hk,by simp⟩⟩
   .rw[AR (BP hj)]at e2;let⟨u',r',q⟩:=hl j y v' e1 e2 e3;refine⟨u',r',?_⟩;rcases q with⟨k,e⟩|⟨k,c,e,z⟩
    .refine .inl ⟨k,?_⟩;have:y≠x:=λe=>hj (zf2 hN e1 (e ▸ hi));simp[this,e]
    .exact .inr ⟨k,c,e,z.sameBut hs (cne y c e)⟩
  .let⟨w',z⟩:=I.cell y c e;exact⟨w',z.sameBut hs (cne y c e)⟩
  .let⟨e,n,ne,nf,d⟩:=I.pin p hp;exact⟨(hs.2 p.1 ne).trans e,n,ne,nf,d⟩
 .have hfn:X.fn x=true:=by
   rcases hf with z|z
   .exact z
   .rw[z]at hk;cases hk
  let⟨c,hc⟩:=I.ok.has x (.inl hk);let⟨w',z⟩:=I.cell x c hc;refine wpAny_storeName_cell I.ok.kind hk hc z (λh' hc' hs=>?_);let⟨oc,hoc,hocd⟩:=id z;refine h {s with heap:=h'} ⟨I.ok,I.os,I.bare,⟨λb o e n hb hx=>?_,λb o e n hb hx=>?_,I.base.free,λb o e hx=>?_,I.base.tups,I.base.frzs,I.base.tbls⟩,⟨m,hn.sameBut hs (BP (cne x c hc)),λj y v' e1 e2 e3=>?_⟩,λy c' e=>?_,I.free,I.freeC,λp hp=>?_,tracked ⟨oc,hoc,I.freeC x c hc⟩ hs,by simpa using I.len⟩ ⟨c,hs,.inr hc⟩
  .exact(hs.2 b (Ar (A7 (A1 e) (I.ok.cab x c hfn hc)))).trans (I.base.keep b o e n hb hx)
  .let⟨sl,e1⟩:=I.base.slot b o e n hb hx;exact⟨sl,(hs.2 b (Ar (A7 (A1 e) (I.ok.cab x c hfn hc)))).trans e1⟩
  .let⟨o',e1⟩:=I.base.there b o e hx;exact⟨o',(hs.2 b (Ar (A7 (A1 e) (I.ok.cab x c hfn hc)))).trans e1⟩
  .by_cases hj:j=i
   .subst hj;rw[hi]at e1;cases e1;rw[Ab hiσ]at e2
    cases e2
    exact⟨u,r,.inr ⟨.inl hk,c,hc,hc'⟩⟩
   .rw[AR (BP hj)]at e2;let⟨u',r',q⟩:=hl j y v' e1 e2 e3;refine⟨u',r',?_⟩;rcases q with q|⟨k,c',e,z'⟩
    .exact .inl q
    .refine .inr ⟨k,c',e,z'.sameBut hs ?_⟩
     rintro rfl
     exact hj (zf2 hN e1 (I.ok.inj _ _ _ e hc ▸ hi))
  .by_cases hcc:c'=c
   .subst hcc;exact⟨_,hc'⟩
   .let⟨w2,z2⟩:=I.cell y c' e;exact⟨w2,z2.sameBut hs hcc⟩
  .let⟨e,n,ne,nf,d⟩:=I.pin p hp;refine⟨(hs.2 p.1 ?_).trans e,n,ne,nf,d⟩;intro q;rw[q,hoc]at e;have q':oc=p.2:=AZ e;exact d w' (by rw[<-q'];exact hocd)
theorem zco{M:Model}{A:Ay}{E:AG->AJ->Prop}{i:Nat}{x:AS}{v:V}{u:AG}{Q:Unit->AJ->Prop}(I:Inv X pins σ H s)(hN:X.N.Nodup)(hi:X.N[i]?=AA x)(hx:Loc X.env.scope x)(r:RelV v u)
  (h:∀s',Inv X pins (σ.set i (AA v)) H s'->Q () s') (hf:X.fn x=AB \/ X.env.scope.names.lookup x=AA .local:=by first|exact .inl rfl|exact .inr rfl|assumption):A3 M A (storeName X.env x u) Q E s:=
 zi7 I hN hi hx r (λs' I' _=>h s' I') hf
theorem Inv.call'{s':AJ}{ch:List AI}(I:Inv X pins σ H s)(ho:s'.os=s.os)(u:Un (frs X.stack) ch H H' s.heap s'.heap)(hok:HOk X.prog X.w H' s'.heap)(hg:Dh s'.gens)
  (hch:∀b∈ch,(b∈X.ex \/ X.s₀.heap.objs.size<=b)/\b≠X.env.locals/\(∀x c,X.env.cells.lookup x=AA c->c≠b)/\∀p∈X.pn++pins,p.1≠b):Inv X pins σ H' s':=by
 let⟨h',g',d',t',o'⟩:=s';have e:o'=s.os:=ho;subst e;exact I.call (g':=g') (t':=t') (d':=d') u hok hg hch
end
abbrev XK:=AG->Option AI->Hp->Prop
abbrev St:=List (Option V)
abbrev VK:=V->Hp->Prop
abbrev TE:=St->Hp->VK->Prop
abbrev TT:=St->Hp->(Bool->Hp->Prop)->Prop
abbrev TA:=St->Hp->(List V->Hp->Prop)->Prop
structure Ends where
 nx:St->Hp->Prop
 rt:VK
 bk:St->Hp->Prop:=λ_ _=>False
 ct:St->Hp->Prop:=λ_ _=>False
abbrev TS:=Ends->St->Hp->Prop
def EP(X:Cx)(pins:List (AI×CK))(σ:St)(Q:VK)(u:AG)(s':AJ):Prop:=∃v H',Inv X pins σ H' s'/\RelV v u/\Q v H'
def TP(X:Cx)(pins:List (AI×CK))(σ:St)(Q:Bool->Hp->Prop)(b:Bool)(s':AJ):Prop:=∃H',Inv X pins σ H' s'/\Q b H'
def AP(X:Cx)(pins:List (AI×CK))(σ:St)(Q:List V->Hp->Prop)(us:List AG)(s':AJ):Prop:=∃vs H',Inv X pins σ H' s'/\Vals vs us/\Q vs H'
def SP(X:Cx)(pins:List (AI×CK))(D:Ends)(f:Flow)(s':AJ):Prop:=
 match f with
 |.next=>∃σ' H',Inv X pins σ' H' s'/\D.nx σ' H'
 |.brk=>∃σ' H',Inv X pins σ' H' s'/\D.bk σ' H'
 |.cont=>∃σ' H',Inv X pins σ' H' s'/\D.ct σ' H'
 |.ret u=>∃v σ' H',Inv X pins σ' H' s'/\RelV v u/\D.rt v H'
def PE(X:Cx)(e:AW)(t:TE):Prop:=
 ∀(pins:List (AI×CK)) (s:AJ) (σ:St) (H:Hp) (Q:VK),Inv X pins σ H s->t σ H Q->A3 (model X.prog X.w) X.A (eval e X.env) (EP X pins σ Q) X.xe s
def PT(X:Cx)(e:AW)(t:TT):Prop:=
 ∀(pins:List (AI×CK)) (s:AJ) (σ:St) (H:Hp) (Q:Bool->Hp->Prop),Inv X pins σ H s->t σ H Q->A3 (model X.prog X.w) X.A (isTrue e X.env (eval e X.env)) (TP X pins σ Q) X.xe s
def PW(X:Cx)(e:AW)(t:TT):Prop:=
 ∀(whole:HB AG) (pins:List (AI×CK)) (s:AJ) (σ:St) (H:Hp) (Q:Bool->Hp->Prop),Inv X pins σ H s->t σ H Q->A3 (model X.prog X.w) X.A (isTrue e X.env whole) (TP X pins σ Q) X.xe s
theorem PW.pt{X:Cx}{e:AW}{t:TT}(h:PW X e t):PT X e t:=h _
def PA(X:Cx)(es:List AW)(t:TA):Prop:=
 ∀(pos:C1) (pins:List (AI×CK)) (s:AJ) (σ:St) (H:Hp) (Q:List V->Hp->Prop),Inv X pins σ H s->t σ H Q->A3 (model X.prog X.w) X.A (spliced (backTo pos (starEach es X.env))) (AP X pins σ Q) X.xe s
def PS(X:Cx)(st:CF)(t:TS):Prop:=
 ∀(pins:List (AI×CK)) (s:AJ) (σ:St) (H:Hp) (D:Ends),Inv X pins σ H s->t D σ H->A3 (model X.prog X.w) X.A (exec st X.env) (SP X pins D) X.xe s
def PSs(X:Cx)(st:List CF)(t:TS):Prop:=
 ∀(pins:List (AI×CK)) (s:AJ) (σ:St) (H:Hp) (D:Ends),Inv X pins σ H s->t D σ H->A3 (model X.prog X.w) X.A (execs st X.env) (SP X pins D) X.xe s
theorem thn{α:Type}{t:HB α}{Q Q':α->AJ->Prop}{M:Model}{A:Ay}{E:AG->AJ->Prop}{s:AJ}(h:A3 M A t Q E s)(hQ:∀a s,Q a s->Q' a s):A3 M A t Q' E s:=C4 h hQ λ_ _ x=>x
section
variable {X:Cx}
theorem bin{a b:AW}{ta tb:TE}(ha:PE X a ta)(hb:PE X b tb){pins:List (AI×CK)}{s:AJ}{σ:St}{H:Hp}{R:V->V->Hp->Prop}(I:Inv X pins σ H s)(h:ta σ H λx H1=>tb σ H1 λy H2=>R x y H2)
  {α:Type} {Q:α->AJ->Prop} {f:AG->AG->HB α}
  (hf:∀v u s2 x y H2,Inv X pins σ H2 s2->RelV x v->RelV y u->R x y H2->A3 (model X.prog X.w) X.A (f v u) Q X.xe s2):
  A3 (model X.prog X.w) X.A (eval a X.env) (λv s₁=>A3 (model X.prog X.w) X.A (eval b X.env) (λu s₂=>A3 (model X.prog X.w) X.A (f v u) Q X.xe s₂) X.xe s₁) X.xe s:=by
 refine thn (ha pins s σ H _ I h) λv s1 kq=>?_;let⟨x,H1,I1,r1,q1⟩:=kq;refine thn (hb pins s1 σ H1 _ I1 q1) λu s2 kq=>?_;let⟨y,H2,I2,r2,q2⟩:=kq;exact hf v u s2 x y H2 I2 r1 r2 q2
def yg1(i:Nat):TE:=λσ H Q=>∃v,σ[i]?=AA (AA v)/\Q v H
def tC(v:V):TE:=λ_ H Q=>Q v H
theorem zkQ{i:Nat}{x:AS}{pos:C1}(hN:X.N[i]?=AA x)(hv:Vis X.env.scope x)(hd:(x==("__debug__":AS))=false:=by decide)(hcd:(x==("__classdict__":AS))=false:=by decide):PE X (.Name x pos) (yg1 i):=by
 intro pins s σ H Q I h;let⟨v,e,h⟩:=h;let⟨m,hn,hl⟩:=I.loc;let⟨u,r,l⟩:=hl i x v hN e hv;have fin:EP X pins σ Q u s:=⟨v,H,I,r,h⟩;rcases l with⟨hk,hm⟩|⟨hk,c,hc,hcell⟩
 .exact Go (FZ I.ok.kind hk hn hm fin) hd
 .rcases hk with hk|hk
  .exact Go (Fd I.ok.kind hk hc hcell fin) hd
  .exact Go (wpAny_loadName_free I.ok.kind hk hc hcell fin hcd) hd
theorem ydA{i j pos}:PE X (.Constant (.int i) j pos) (tC (.int i)):=λ_ _ _ H _ I h=>wpAny_Constant_int ⟨.int i,H,I.tok _,⟨_,rfl⟩,h⟩
theorem yeZ{b j pos}:PE X (.Constant (.bool b) j pos) (tC (.bl b)):=λ_ _ _ H _ I h=>Constant_bool ⟨.bl b,H,I,rfl,h⟩
theorem ydz{j pos}:PE X (.Constant .none j pos) (tC .non):=λ_ _ _ H _ I h=>Constant_none ⟨.non,H,I,rfl,h⟩
theorem ydP{x j pos}:PE X (.Constant (.str x) j pos) (tC (.str x)):=λ_ _ _ H _ I h=>Calls.Constant_str ⟨.str x,H,I.tok _,⟨_,rfl⟩,h⟩
def Gl(X:Cx)(x:AS):Prop:=X.env.kindOf x=AA .globalImplicit
theorem zdG{E:AG->AJ->Prop}{pins:List (AI×CK)}{s:AJ}{σ:St}{H:Hp}{x:AS}{u:AG}{pos:C1}{Q:AG->AJ->Prop}(I:Inv X pins σ H s)(hg:Gl X x)(hm:X.mg x=AA u)(h:Q u s)
  (hd:(x==("__debug__":AS))=false:=by decide):A3 (model X.prog X.w) X.A (eval (.Name x pos) X.env) Q E s:=
 EL I.ok.kind hg (Calls.loadGlobal_global (by rw[I.ok.glob];exact I.mod.glob.keeps I.bk) hm h) hd
theorem zdZ{E:AG->AJ->Prop}{pins:List (AI×CK)}{s:AJ}{σ:St}{H:Hp}{x:AS}{u:AG}{pos:C1}{Q:AG->AJ->Prop}(I:Inv X pins σ H s)(hg:Gl X x)(hm:X.mg x=AD)(hv:bootBuiltins x=AA u)(h:Q u s)
  (hn:x ≠ "__name__":=by decide) (hd:(x==("__debug__":AS))=false:=by decide):A3 (model X.prog X.w) X.A (eval (.Name x pos) X.env) Q E s:=by
 let⟨mb,h1,h2⟩:=I.mod.blt;exact EL I.ok.kind hg (Calls.loadGlobal_builtin (by rw[I.ok.glob];exact I.mod.glob.keeps I.bk) hm (by rw[I.ok.blt];exact h1.keeps I.bk) ((h2 x hn).trans hv) h) hd
theorem zdy{x:AS}{v:V}{u:AG}{pos:C1}(hg:Gl X x)(hm:X.mg x=AA u)(r:RelV v u)(hd:(x==("__debug__":AS))=false:=by decide):PE X (.Name x pos) (tC v):=
 λ_ _ _ H _ I h=>zdG I hg hm ⟨v,H,I,r,h⟩ hd
theorem zlE{x:AS}{v:V}{u:AG}{pos:C1}(hg:Gl X x)(hm:X.mg x=AD)(hv:bootBuiltins x=AA u)(r:RelV v u)(hn:x ≠ "__name__":=by decide)(hd:(x==("__debug__":AS))=false:=by decide):PE X (.Name x pos) (tC v):=
 λ_ _ _ H _ I h=>zdZ I hg hm hv ⟨v,H,I,r,h⟩ hn hd
variable {a b:AW}{ta tb:TE}{pos:C1}
variable {tA tB':TT}{rest:List AW}
def ygR(t u:TT):TT:=λσ H Q=>t σ H λc H1=>if c=AB then u σ H1 Q else Q AC H1
def tOr(t u:TT):TT:=λσ H Q=>t σ H λc H1=>if c=AB then Q AB H1 else u σ H1 Q
def yfV(t:TT):TT:=λσ H Q=>t σ H λc H1=>Q (!c) H1
theorem zlF(ha:PT X a tA):PW X (.BoolOp .And [a] pos) tA:=by
 intro wh pins s σ H Q I h;refine isTrue_and (thn (ha pins s σ H Q I h) λc s1 e=>?_)
 cases c with
 |true=>exact isTrue_and_nil e
 |false=>exact e
theorem znX(ha:PT X a tA):PW X (.BoolOp .Or [a] pos) tA:=by
 intro wh pins s σ H Q I h;refine isTrue_or (thn (ha pins s σ H Q I h) λc s1 e=>?_)
 cases c with
 |false=>exact isTrue_or_nil e
 |true=>exact e
theorem zo6(ha:PT X a tA)(hb:PW X (.BoolOp .And (b::rest) pos) tB'):PW X (.BoolOp .And (a::b::rest) pos) (ygR tA tB'):=by
 intro wh pins s σ H Q I h;refine isTrue_and (thn (ha pins s σ H _ I h) λc s1 kq=>?_);let⟨H1,I1,q1⟩:=kq
 cases c with
 |true=>exact hb wh pins s1 σ H1 Q I1 q1
 |false=>exact⟨H1,I1,q1⟩
theorem zp9(ha:PT X a tA)(hb:PW X (.BoolOp .Or (b::rest) pos) tB'):PW X (.BoolOp .Or (a::b::rest) pos) (tOr tA tB'):=by
 intro wh pins s σ H Q I h;refine isTrue_or (thn (ha pins s σ H _ I h) λc s1 kq=>?_);let⟨H1,I1,q1⟩:=kq
 cases c with
 |true=>exact⟨H1,I1,q1⟩
 |false=>exact hb wh pins s1 σ H1 Q I1 q1
theorem znH(ha:PT X a tA):PT X (.UnaryOp .Not a pos) (yfV tA):=by
 intro pins s σ H Q I h;exact isTrue_not (ha pins s σ H (λc H1=>Q (!c) H1) I h)
def yey(ta tb:TE):TE:=λσ H Q=>ta σ H λx H1=>∃c,x=.bl c/\if c=AB then tb σ H1 Q else Q (.bl AC) H1
def ygU(ta tb:TE):TE:=λσ H Q=>ta σ H λx H1=>∃c,x=.bl c/\if c=AB then Q (.bl AB) H1 else tb σ H1 Q
def yep(ta:TE):TE:=λσ H Q=>ta σ H λx H1=>∃c,x=.bl c/\Q (.bl (!c)) H1
theorem zph{op}{t:TE}(h:PE X a t):PE X (.BoolOp op [a] pos) t:=λpins s σ H Q I hw=>BoolOp_one (h pins s σ H Q I hw)
theorem zn9(ha:PE X a ta)(hb:PE X (.BoolOp .And (b::rest) pos) tb):PE X (.BoolOp .And (a::b::rest) pos) (yey ta tb):=by
 intro pins s σ H Q I h;refine BoolOp_and (thn (ha pins s σ H _ I h) λv s1 kq=>?_);let⟨x,H1,I1,r1,q1⟩:=kq;let⟨c,rfl,q1⟩:=q1
 cases r1
 refine Be ?_
 cases c with
 |true=>exact hb pins s1 σ H1 Q I1 q1
 |false=>exact⟨.bl AC,H1,I1,rfl,q1⟩
theorem zpW(ha:PE X a ta)(hb:PE X (.BoolOp .Or (b::rest) pos) tb):PE X (.BoolOp .Or (a::b::rest) pos) (ygU ta tb):=by
 intro pins s σ H Q I h;refine BoolOp_or (thn (ha pins s σ H _ I h) λv s1 kq=>?_);let⟨x,H1,I1,r1,q1⟩:=kq;let⟨c,rfl,q1⟩:=q1
 cases r1
 refine Be ?_
 cases c with
 |false=>exact hb pins s1 σ H1 Q I1 q1
 |true=>exact⟨.bl AB,H1,I1,rfl,q1⟩
theorem znG(ha:PE X a ta):PE X (.UnaryOp .Not a pos) (yep ta):=by
 intro pins s σ H Q I h;refine UnaryOp_ (thn (ha pins s σ H _ I h) λv s1 kq=>?_);let⟨x,H1,I1,r1,q1⟩:=kq;let⟨c,rfl,q1⟩:=q1
 cases r1
 exact not_of (Be ⟨.bl (!c),H1,I1,rfl,q1⟩)
def tIf(t:TT)(ta tb:TE):TE:=λσ H Q=>t σ H λc H1=>if c=AB then ta σ H1 Q else tb σ H1 Q
theorem zka{c:AW}(hc:PT X c tA)(ha:PE X a ta)(hb:PE X b tb):PE X (.IfExp c a b pos) (tIf tA ta tb):=by
 intro pins s σ H Q I h;refine wpAny_IfExp (thn (hc pins s σ H _ I h) λd s1 kq=>?_);let⟨H1,I1,q1⟩:=kq
 cases d with
 |true=>exact ha pins s1 σ H1 Q I1 q1
 |false=>exact hb pins s1 σ H1 Q I1 q1
end
def SqL(K:AE)(H:Hp)(a:AI)(xs:List V):Prop:=
 Rd H a (.lst xs) \/
  ∃(o:CK) (its:Array AG) (n:Nat),K.lookup a=AA o/\o.cls=.type "list"/\o.dict=AD/\o.data=.seq its n/\its.size<=sizeLine/\Vals xs its.toList
def SqT(K:AE)(H:Hp)(a:AI)(xs:List V):Prop:=
 Rd H a (.tup xs) \/
  ∃(o:CK) (its:Array AG) (n:Nat),K.lookup a=AA o/\o.cls=.type "tuple"/\o.data=.seq its n/\its.size<=sizeLine/\Vals xs its.toList
def ygV:AG->Option V
 |.none=>AA .non
 |.bool b=>AA (.bl b)
 |.int i _=>AA (.int i)
 |.str x _=>AA (.str x)
 |.bytes b _=>AA (.byt b)
 |.float b _=>AA (.flt b)
 |.ref a=>AA (.ref a)
 |.type n=>AA (.ty n)
 |_=>AD
theorem RelV.abs{x:V}{u:AG}(r:RelV x u):ygV u=AA x:=by
 cases x with
 |non=>cases r;rfl
 |bl _=>cases r;rfl
 |int _=>let⟨t,rfl⟩:=r;rfl
 |str _=>let⟨t,rfl⟩:=r;rfl
 |byt _=>let⟨t,rfl⟩:=r;rfl
 |flt _=>let⟨t,rfl⟩:=r;rfl
 |ref _=>cases r;rfl
 |ty _=>cases r;rfl
theorem RelV.inj{x y:V}{u:AG}(r:RelV x u)(q:RelV y u):x=y:=AZ (r.abs.symm.trans q.abs)
theorem Vals.inj:∀{xs ys:List V} {us:List AG},Vals xs us->Vals ys us->xs=ys
 |_,_,_,.nil,.nil=>rfl
 |_,_,_,.cons r t,.cons r' t'=>by rw[r.inj r',Vals.inj t t']
section
variable {X:Cx}{pins:List (AI×CK)}{σ:St}{H:Hp}{s:AJ}{a:AI}{xs ys:List V}
theorem SqL.of{K:AE}(h:H a=AA (.lst xs)):SqL K H a xs:=.inl (.inl h)
theorem Inv.list(I:Inv X pins σ H s)(h:SqL X.K H a xs):∃its:List AG,Vals xs its/\PlainL s.heap a its.toArray/\xs.length<=sizeLine:=by
 rcases h with h|⟨o,its,n,hk,hc,hd,hs,hz,r⟩
 .let⟨z,its,n,r,e⟩:=h.ok I.hok;exact⟨its,r,⟨_,n,e,rfl,rfl,rfl⟩,z⟩
 .refine⟨its.toList,r,⟨o,n,I.kIn a o hk,hc,hd,by simpa using hs⟩,?_⟩;have e:=r.length;erw[CL]at e;lia
theorem Inv.tuple(I:Inv X pins σ H s)(h:SqT X.K H a xs):∃its:List AG,Vals xs its/\HG s.heap a its.toArray/\xs.length<=sizeLine:=by
 rcases h with h|⟨o,its,n,hk,hc,hs,hz,r⟩
 .let⟨z,its,r,p⟩:=h.ok I.hok;exact⟨its,r,p,z⟩
 .refine⟨its.toList,r,⟨o,I.kIn a o hk,hc,n,by simpa using hs⟩,?_⟩;have e:=r.length;erw[CL]at e;lia
theorem Inv.list_inj(I:Inv X pins σ H s)(h:SqL X.K H a xs)(h':SqL X.K H a ys):xs=ys:=by
 let⟨its,r,⟨o,n,e,_,_,d⟩,_⟩:=I.list h;let⟨its',r',⟨o',n',e',_,_,d'⟩,_⟩:=I.list h';rw[e]at e';cases e';rw[d]at d';injection d' with d1 _;have:its=its':=by simpa using congrArg HK d1
 subst this;exact r.inj r'
theorem Inv.tuple_inj(I:Inv X pins σ H s)(h:SqT X.K H a xs)(h':SqT X.K H a ys):xs=ys:=by
 let⟨its,r,⟨o,e,_,n,d⟩,_⟩:=I.tuple h;let⟨its',r',⟨o',e',_,n',d'⟩,_⟩:=I.tuple h';rw[e]at e';cases e';rw[d]at d';injection d' with d1 _;have:its=its':=by simpa using congrArg HK d1
 subst this;exact r.inj r'
end
section
variable {X:Cx}{pins:List (AI×CK)}{σ:St}{H:Hp}{s:AJ}{E:AG->AJ->Prop}
end
section
variable {X:Cx}{st:CF}{rest:List CF}{t u:TS}{e:AW}{te:TE}{pos:C1}
def ye2:TS:=λD σ H=>D.nx σ H
def ygG(t u:TS):TS:=λD σ H=>t {D with nx:=u D} σ H
theorem yc2:PSs X [] ye2:=λ_ _ σ H _ I h=>Dt ⟨σ,H,I,h⟩
theorem zgn(h1:PS X st t)(h2:PSs X rest u):PSs X (st::rest) (ygG t u):=by
 intro pins s σ H D I h;refine GY (thn (h1 pins s σ H {D with nx:=u D} I h) λf s1 q=>?_)
 cases f with
 |next=>
  let⟨σ',H',I',q⟩:=q;exact h2 pins s1 σ' H' D I' q
 |ret v=>exact q
 |brk=>exact q
 |cont=>exact q
theorem zmS(h1:PS X st t):PSs X [st] t:=by
 intro pins s σ H D I h;refine GY (thn (h1 pins s σ H D I h) λf s1 q=>?_)
 cases f with
 |next=>exact Dt q
 |ret v=>exact q
 |brk=>exact q
 |cont=>exact q
theorem Inv.quiet{pins:List (AI×CK)}{σ:St}{H:Hp}{s:AJ}(I:Inv X pins σ H s):interactive X.env=false:=by simp[interactive,I.ok.kind]
def yez(te:TE):TS:=λD σ H=>te σ H λ_ H1=>D.nx σ H1
theorem zmj(he:PE X e te)(hs:swapsWith e AD pos.line X.env=pure false:=by rfl):PS X (.Expr e pos) (yez te):=by
 intro pins s σ H D I h;exact wpAny_Expr_any (thn (he pins s σ H _ I h) λv s1 ⟨x,H1,I1,r1,q1⟩=>⟨σ,H1,I1,q1⟩) I.quiet hs
def ygv(te:TE):TS:=λD σ H=>te σ H D.rt
theorem zk7(he:PE X e te):PS X (.Return (AA e) pos) (ygv te):=by
 intro pins s σ H D I h;exact wpAny_Return_some (thn (he pins s σ H _ I h) λv s1 ⟨x,H1,I1,r1,q1⟩=>⟨x,σ,H1,I1,r1,q1⟩)
def yeV:TS:=λD _ H=>D.rt .non H
theorem ycV:PS X (.Return AD pos) yeV:=λ_ _ σ H _ I h=>wpAny_Return_none ⟨.non,σ,H,I,rfl,h⟩
def yf8(c:TT)(t u:TS):TS:=λD σ H=>c σ H λb H1=>if b=AB then t D σ H1 else u D σ H1
theorem zqt{c:AW}{a b:List CF}{tc:TT}(hc:PT X c tc)(ha:PSs X a t)(hb:PSs X b u):PS X (.If c a b pos) (yf8 tc t u):=by
 intro pins s σ H D I h;refine wpAny_If (thn (hc pins s σ H _ I h) λd s1 kq=>?_);let⟨H1,I1,q1⟩:=kq
 cases d with
 |true=>exact ha pins s1 σ H1 D I1 q1
 |false=>exact hb pins s1 σ H1 D I1 q1
end
abbrev TG:=V->St->Hp->(St->Hp->Prop)->Prop
abbrev TGs:=List V->St->Hp->(St->Hp->Prop)->Prop
def PG(X:Cx)(target:AW)(t:TG):Prop:=
 ∀(pins:List (AI×CK)) (s:AJ) (σ:St) (H:Hp) (v:V) (u:AG) (Q:St->Hp->Prop),Inv X pins σ H s->RelV v u->t v σ H Q ->
  A3 (model X.prog X.w) X.A (assign target X.env u) (λ_ s'=>∃σ' H',Inv X pins σ' H' s'/\Q σ' H') X.xe s
def PGs(X:Cx)(ts:List AW)(t:TGs):Prop:=
 ∀(pins:List (AI×CK)) (s:AJ) (σ:St) (H:Hp) (vs:List V) (us:List AG) (Q:St->Hp->Prop),Inv X pins σ H s->Vals vs us->t vs σ H Q ->
  A3 (model X.prog X.w) X.A (assignInOrder ((assignEach ts X.env).map (·.2)) us) (λ_ s'=>∃σ' H',Inv X pins σ' H' s'/\Q σ' H') X.xe s
abbrev yed:=V->V->V->Hp->(Hp->Prop)->Prop
def ye5(X:Cx)(t:yed):Prop:=
 ∀(pins:List (AI×CK)) (s:AJ) (σ:St) (H:Hp) (o i v:V) (ov iv u:AG) (Q:Hp->Prop),Inv X pins σ H s->RelV o ov->RelV i iv->RelV v u->t o i v H Q ->
  A3 (model X.prog X.w) X.A (setItem ov iv u) (λ_ s'=>∃H',Inv X pins σ H' s'/\Q H') X.xe s
abbrev TIp:=V->V->Hp->VK->Prop
def PIp(X:Cx)(op:Dp)(t:TIp):Prop:=
 ∀(pins:List (AI×CK)) (s:AJ) (σ:St) (H:Hp) (x y:V) (v u:AG) (Q:VK),Inv X pins σ H s->RelV x v->RelV y u->t x y H Q ->
  A3 (model X.prog X.w) X.A (inplaceOp op v u) (EP X pins σ Q) X.xe s
section
variable {X:Cx}{pos:C1}
def ydC(i:Nat):TG:=λv σ H Q=>Q (σ.set i (AA v)) H
theorem ziu{i:Nat}{x:AS}(hN:X.N.Nodup)(hi:X.N[i]?=AA x)(hx:Loc X.env.scope x)(hf:X.fn x=AB \/ X.env.scope.names.lookup x=AA .local:=by first|exact .inl rfl|exact .inr rfl|assumption):PG X (.Name x pos) (ydC i):=by
 intro pins s σ H v u Q I r h;exact wpAny_assign_Name (zco I hN hi hx r (λs' I'=>⟨_,H,I',h⟩) hf)
def yhi:TGs:=λvs σ H Q=>vs=[]/\Q σ H
def yeu(t:TG)(u:TGs):TGs:=λvs σ H Q=>∃v r,vs=v::r/\t v σ H λσ' H'=>u r σ' H' Q
theorem yc1:PGs X [] yhi:=by
 intro pins s σ H vs us Q I r h;let⟨e,h⟩:=h;subst e
 cases r
 exact GJ ⟨σ,H,I,h⟩
theorem zkp{e:AW}{es:List AW}{t:TG}{u:TGs}(h1:PG X e t)(h2:PGs X es u)
  (hs:(assignEach (e::es) X.env).map (·.2)=assign e X.env::(assignEach es X.env).map (·.2):=by rfl):PGs X (e::es) (yeu t u):=by
 intro pins s σ H vs us Q I r h;let⟨v,vr,e1,h⟩:=h;subst e1
 cases r with
 |cons r rr=>
  rw[hs];refine EM (thn (h1 pins s σ H _ _ _ I r h) λ_ s1 kq=>?_);let⟨σ1,H1,I1,q1⟩:=kq;exact h2 pins s1 σ1 H1 _ _ Q I1 rr q1
def ygH(K:AE)(n:Nat)(t:TGs):TG:=λv σ H Q=>∃a xs,v=.ref a/\SqT K H a xs/\xs.length=n/\t xs σ H Q
theorem znY{es:List AW}{k:Nat}{t:TGs}{n:Nat}(hc:X.calm=AB)(h:PGs X es t)
  (hn:(assignEach es X.env).length=n:=by rfl) (hst:(assignEach es X.env).findIdx? (·.1)=none:=by rfl):PG X (.Tuple es k pos) (ygH X.K n t):=by
 intro pins s σ H v u Q I r hw;let⟨a,xs,e1,hq,hl,hw⟩:=hw;subst e1
 cases r
 let⟨its,rv,ht,hz⟩:=I.tuple hq;refine assign_Tuple_tuple (I.ok.hd hc) ht (by simp[hn,<-hl,rv.length]) hst λh' hx=>?_;have I1:Inv X pins σ H {s with heap:=h'}:=I.kept (t':=s.toks) λb o e=>hx b o (Ar (A1 e)) e;exact h pins _ σ H xs _ Q I1 (by simpa using rv) hw
def yfl(to ti:TE)(t:yed):TG:=λv σ H Q=>to σ H λo H1=>ti σ H1 λi H2=>t o i v H2 λH3=>Q σ H3
theorem zk0{o i:AW}{to ti:TE}{t:yed}(ho:PE X o to)(hi:PE X i ti)(hs:ye5 X t)
  (ha:∀v,assign (.Subscript o i pos) X.env v=(do
   let ov <-holding [v] (eval o X.env)
   let iv <-holding [v,ov] (eval i X.env)
   standAt pos
   holding [v,ov,iv] (setItem ov iv v)
   release [v,ov,iv] []):=by intro _;rfl):PG X (.Subscript o i pos) (yfl to ti t):=by
 intro pins s σ H v u Q I r h;rw[ha];refine AH (DE (thn (ho pins s σ H _ I h) λov s1 kq=>?_));let⟨x,H1,I1,r1,q1⟩:=kq;refine AH (DE (thn (hi pins s1 σ H1 _ I1 q1) λiv s2 kq=>?_));let⟨y,H2,I2,r2,q2⟩:=kq;refine AH (Em (AH (DE (thn (hs pins s2 σ H2 x y v ov iv u _ I2 r1 r2 r q2) λ_ s3 kq=>?_))));let⟨H3,I3,q3⟩:=kq;exact wpAny_release ⟨σ,H3,I3,q3⟩
def yfb(te:TE)(g:TG):TS:=λD σ H=>te σ H λx H1=>g x σ H1 D.nx
theorem zkU{tg e:AW}{te:TE}{g:TG}(he:PE X e te)(hg:PG X tg g)(hs:swapsWithSole [tg] e pos.line X.env=pure false:=by rfl)(hw:swappedStores [tg] e X.env=pure none:=by rfl)
  (h1:(assignEach [tg] X.env).map (·.2)=[assign tg X.env]:=by rfl):PS X (.Assign [tg] e pos) (yfb te g):=by
 intro pins s σ H D I h;refine wpAny_Assign_stores (thn (he pins s σ H _ I h) λv s1 kq=>?_) hs hw;let⟨x,H1,I1,r1,q1⟩:=kq;rw[h1];exact thn (hg pins s1 σ H1 x v _ I1 r1 q1) λ_ s2 q=>q
theorem zli{i:Nat}{x:AS}{e:AW}{te:TE}{pos':C1}(hN:X.N.Nodup)(hi:X.N[i]?=AA x)(hx:Loc X.env.scope x)(he:PE X e te)(hs:swapsWith e (AA (.Name x pos')) pos.line X.env=pure false:=by rfl)(hf:X.fn x=AB \/ X.env.scope.names.lookup x=AA .local:=by first|exact .inl rfl|exact .inr rfl|assumption):
  PS X (.Assign [.Name x pos'] e pos) (yfb te (ydC i)):=by
 intro pins s σ H D I h;refine wpAny_Assign_Name (thn (he pins s σ H _ I h) λv s1 kq=>?_) hs;let⟨y,H1,I1,r1,q1⟩:=kq;exact zco I1 hN hi hx r1 (λs2 I2=>⟨_,H1,I2,q1⟩) hf
def yfp(i j:Nat)(ta:TA):TS:=λD σ H=>ta σ H λvs H1=>∃v w,vs=[v,w]/\D.nx ((σ.set i (AA v)).set j (AA w)) H1
theorem zpE{i j:Nat}{x y:AS}{a b:AW}{ta:TA}{px py pt:C1}{kt k2 pt2}(hc:X.calm=AB)(hN:X.N.Nodup)(hi:X.N[i]?=AA x)(hj:X.N[j]?=AA y)(hij:i≠j)
  (hx:X.env.scope.names.lookup x=AA .local) (hy:X.env.scope.names.lookup y=AA .local) (ha:PA X [a,b] ta)
  (hw:swappedStores [.Tuple [.Name x px,.Name y py] kt pt] (.Tuple [a,b] k2 pt2) X.env=pure (AA [x,y]))
  (hs:swapsWithSole [.Tuple [.Name x px,.Name y py] kt pt] (.Tuple [a,b] k2 pt2) pos.line X.env=pure false:=by rfl):
  PS X (.Assign [.Tuple [.Name x px,.Name y py] kt pt] (.Tuple [a,b] k2 pt2) pos) (yfp i j ta):=by
 intro pins s σ H D I h;rw[exec_Assign_arm];refine AH (Em ?_);rw[hs];refine AH (AN ?_);rw[if_neg (by decide)];refine AH (Tuple_ (thn (ha _ pins s σ H _ I h) λus s1 kq=>?_));let⟨vs,H1,I1,r1,q1⟩:=kq;let⟨v,w,e1,q1⟩:=q1;subst e1;obtain⟨u1,u2,rfl,rv,rw'⟩:∃u1 u2,us=[u1,u2]/\RelV v u1/\RelV w u2:=by
  cases r1 with
  |cons p q=>
   cases q with
   |cons p' q'=>
    cases q'
    exact⟨_,_,rfl,p,p'⟩
 refine BQ ?_ (by show 2<=sizeLine;decide);have I2:Inv X pins σ H1 {s1 with heap:=s1.heap.push {cls:=.type "tuple",data:=.seq [u1,u2].toArray} }:=I1.kept (t':=s1.toks) λb o e=>AM _ e;rw[hw];refine AH (AN ?_);show A3 (model X.prog X.w) X.A (do rule "assign.swapped-stores";let items <-unpackItems (.ref s1.heap.objs.size) 2 AD;assignInOrder [λv=>bindName X.env y v,λv=>bindName X.env x v] items.reverse;pure Flow.next) _ _ _;refine AH (FC (AH (unpackItems_tuple (items:=#[u1,u2]) (I.ok.hd hc) (Fa s1.heap _) λh' hx'=>?_)));have I3:=I2.kept (h':=h') (t':=s1.toks) λb o e=>hx' b o (Ar (A1 e)) e;show A3 _ _ (assignInOrder [λv=>bindName X.env y v,λv=>bindName X.env x v] [u2,u1] >>= λ_=>pure Flow.next) _ _ _;refine AH (EM (wpAny_bindName (zco I3 hN hj (.inl hy) rw' (λs2 I4=>?_) (.inr hy))));refine EM (wpAny_bindName (zco I4 hN hi (.inl hx) rv (λs3 I5=>GJ (AN ?_)) (.inr hx)));rw[HC _ _ (BP hij)]at I5;exact⟨_,H1,I5,q1⟩
def ygI(i:Nat)(te:TE)(ti:TIp):TS:=λD σ H=>∃x,σ[i]?=AA (AA x)/\te σ H λy H1=>ti x y H1 λz H2=>D.nx (σ.set i (AA z)) H2
theorem zkR{i:Nat}{x:AS}{e:AW}{te:TE}{op:Dp}{ti:TIp}{pos':C1}(hN:X.N.Nodup)(hi:X.N[i]?=AA x)(hx:Loc X.env.scope x)(he:PE X e te)(ho:PIp X op ti)(hf:X.fn x=AB \/ X.env.scope.names.lookup x=AA .local:=by first|exact .inl rfl|exact .inr rfl|assumption):
  PS X (.AugAssign (.Name x pos') op e pos) (ygI i te ti):=by
 intro pins s σ H D I h;let⟨v,e1,h⟩:=h;let⟨m,hn,hl⟩:=I.loc;have vis:Vis X.env.scope x:=by rcases hx with k|k;exact .inl k;exact .inr (.inl k)
 let⟨u,r,l⟩:=hl i x v hi e1 vis;refine wpAny_AugAssign_Name ?_;have go:A3 (model X.prog X.w) X.A (eval e X.env) (λw s₂=>A3 (model X.prog X.w) X.A (inplaceOp op u w) (λr s₃=>A3 (model X.prog X.w) X.A (storeName X.env x r) (λ_=>SP X pins D .next) X.xe s₃) X.xe s₂) X.xe s:=by
  refine thn (he pins s σ H _ I h) λw s1 kq=>?_;let⟨y,H1,I1,r1,q1⟩:=kq;refine thn (ho pins s1 σ H1 v y u w _ I1 r r1 q1) λz s2 kq=>?_;let⟨zv,H2,I2,r2,q2⟩:=kq;exact zco I2 hN hi hx r2 (λs3 I3=>⟨_,H2,I3,q2⟩) hf
 rcases l with⟨hk,hm⟩|⟨hk,c,hc,hcell⟩
 .exact FZ I.ok.kind hk hn hm go
 .rcases hk with hk|hk
  .exact Fd I.ok.kind hk hc hcell go
  .rcases hx with k|k
   .have:X.env.scope.names.lookup x=AA .free:=hk;rw[k]at this;cases this
   .have:X.env.scope.names.lookup x=AA .free:=hk;rw[k]at this;cases this
def ipI(f:Int->Int->Int):TIp:=λx y H Q=>∃i j,x=.int i/\y=.int j/\Q (.int (f i j)) H
theorem zod:PIp X .Add (ipI λi j=>i+j):=by
 intro pins s σ H x y v u Q I r1 r2 h;let⟨i,j,e1,e2,q⟩:=h;subst e1;subst e2;let⟨t,rfl⟩:=r1;let⟨t',rfl⟩:=r2;exact Gk ⟨.int _,H,I.tok _,⟨_,rfl⟩,q⟩
end
section
variable {X:Cx}{pos:C1}
def ydj(c:TT)(tb:TS):TS:=λD σ H=>∃W:Nat->St->Hp->Prop,(∃m,W m σ H)/\∀m σ H,W m σ H ->
 c σ H λb H1=>if b=AB then ∃N:St->Hp->Prop,(∀σ' H',N σ' H'->∃m',m' < m/\W m' σ' H')/\tb {D with nx:=N,ct:=N,bk:=D.nx} σ H1 else D.nx σ H1
theorem zkk{c:AW}{body:List CF}{tc:TT}{tb:TS}(hp:Es (model X.prog X.w) X.A X.env X.xe)(hc:PT X c tc)(hb:PSs X body tb):PS X (.While c body [] pos) (ydj tc tb):=by
 intro pins s σ H D I h;let⟨W,⟨m0,w0⟩,turn⟩:=h;refine wpAny_While (codeAny_whileLoop (λn s'=>∃σ' H',Inv X pins σ' H' s'/\W n σ' H') ?_ m0 ⟨σ,H,I,w0⟩)
 rintro n s1 ⟨σ1,H1,I1,w1⟩
 refine CZ hp (thn (hc pins s1 σ1 H1 _ I1 (turn n σ1 H1 w1)) λb s2 kq=>?_);let⟨H2,I2,q2⟩:=kq
 cases b with
 |true=>
  let⟨N,hN,q2⟩:=q2;rw[if_pos rfl];refine CZ hp (thn (hb pins s2 σ1 H2 _ I2 q2) λf s3 q3=>?_)
  cases f with
  |next=>
   let⟨σ3,H3,I3,n3⟩:=q3;let⟨m',hm,w3⟩:=hN σ3 H3 n3;exact⟨m',hm,σ3,H3,I3,w3⟩
  |cont=>
   let⟨σ3,H3,I3,n3⟩:=q3;let⟨m',hm,w3⟩:=hN σ3 H3 n3;exact⟨m',hm,σ3,H3,I3,w3⟩
  |brk=>exact q3
  |ret v=>exact q3
 |false=>
  rw[if_neg BG];exact Dt ⟨σ1,H2,I2,q2⟩
end
structure It where
 go:Nat->Hp->Prop
 yld:Nat->Hp->V->Hp->Prop
 stop:Nat->Hp->Prop
def ybv(X:Cx)(pins:List (AI×CK))(H:Hp)(b:AI):Prop:=
 H b=AD/\b≠X.env.locals/\b∉X.fs/\(b∈X.ex \/ X.s₀.heap.objs.size<=b)/\(∀x c,X.env.cells.lookup x=AA c->c≠b)/\∀p∈X.pn++pins,p.1≠b
theorem Inv.fpOk{X:Cx}{pins:List (AI×CK)}{σ:St}{H H':Hp}{s:AJ}{b:AI}(I:Inv X pins σ H s)(hb:s.heap.objs.size<=b)(hn:H' b=AD):ybv X pins H' b:=by
 refine⟨hn,FD (A7 I.lt hb),I.nofs hb,.inr (B1 I.sz hb),λx c e z=>?_,λp hp z=>?_⟩
 .let⟨v,q⟩:=I.cell x c e;exact absurd (A7 q.lt (by rw[z];exact hb)) (DD _)
 .exact absurd (A7 (A1 (I.pin p hp).1) (by rw[z];exact hb)) (DD _)
structure Turn(P:Aa)(w:Ao)(K:AE)(tg:AW)(J:It)(fp:List AI)(it:AI)(tn:Nat->BI->Prop):Prop where
 mem:it∈fp
 obj:∀i h,tn i h->∀b∈fp,∃o,h.get? b=AA o/\∀v,o.data ≠ .cell v
 keep:∀i h h',tn i h->(∀b∈fp,∀o,h.get? b=AA o->h'.get? b=AA o)->tn i h'
 item:∀(X:Cx),X.prog=P->X.w=w->X.K=K->X.calm=AB->∀(i:Nat) (pins:List (AI×CK)) (s:AJ) (σ:St) (H:Hp) (E:AG->AJ->Prop),Inv X pins σ H s->(∀b∈fp,ybv X pins H b)->tn i s.heap->J.go i H ->
  A3 (model P w) X.A (pyNext (.ref it)) (λr s1=>∃u,r=AA u /\
   A3 (model P w) X.A (letOwnedTupleGo tg (.ref it) u) (λ_ s2=>∃x H',Inv X pins σ H' s2/\RelV x u/\J.yld i H x H'/\tn (i+1) s2.heap/\∀b∈fp,H' b=AD) E s1) E s
 done:∀(X:Cx),X.prog=P->X.w=w->X.K=K->X.calm=AB->∀(i:Nat) (pins:List (AI×CK)) (s:AJ) (σ:St) (H:Hp) (E:AG->AJ->Prop),Inv X pins σ H s->(∀b∈fp,ybv X pins H b)->tn i s.heap->J.stop i H ->
  A3 (model P w) X.A (pyNext (.ref it)) (λr s1=>r=AD/\Inv X pins σ H s1) E s
 self:∀(A:Ay) (i:Nat) (s:AJ) (Q:AG->AJ->Prop) (E:AG->AJ->Prop),tn i s.heap->Q (.ref it) s->A3 (model P w) A (pyIter (.ref it)) Q E s
abbrev TI:=St->Hp->(It->Hp->Prop)->Prop
def PIE(X:Cx)(pins:List (AI×CK))(σ:St)(tg:AW)(R:It->Hp->Prop)(itv:AG)(s2:AJ):Prop:=
 ∃(it:AI) (fp:List AI) (tn:Nat->BI->Prop) (J:It) (H':Hp),itv=.ref it/\Inv X pins σ H' s2/\Turn X.prog X.w X.K tg J fp it tn/\tn 0 s2.heap/\(∀b∈fp,ybv X pins H' b)/\R J H'
def PI(X:Cx)(tg iter:AW)(wi:TI):Prop:=
 ∀(pins:List (AI×CK)) (s:AJ) (σ:St) (H:Hp) (R:It->Hp->Prop),Inv X pins σ H s->wi σ H R ->
  A3 (model X.prog X.w) X.A (eval iter X.env) (λv s1=>A3 (model X.prog X.w) X.A (pyIter v) (PIE X pins σ tg R) X.xe s1) X.xe s
theorem zmb{M:Model}{A:Ay}{E:AG->AJ->Prop}{s:AJ}{tg:AW}{it:AI}{u:AG}{o:CK}{n:String}{vs:Array AG}{Q:Unit->AJ->Prop}(ho:s.heap.get? it=AA o)(hc:o.cls=.type n)(hd:o.data=.fields vs)
  (hn:["enumerate","zip","dict_itemiterator","dict_reverseitemiterator","odict_iterator","itertools.zip_longest","itertools.pairwise"].contains n=AC) (hQ:Q () s):A3 M A (letOwnedTupleGo tg (.ref it) u) Q E s:=by
 unfold letOwnedTupleGo
 cases tg<;>first
  |exact AN hQ
  | (cases u<;>first
    |exact AN hQ
    | (refine AH (wpAny_load ho ?_)
       rw[hc,hd];show A3 M A (if (["enumerate","zip","dict_itemiterator","dict_reverseitemiterator","odict_iterator","itertools.zip_longest","itertools.pairwise"].contains n&&vs[0]? == AA (rawInt _))=AB then _ else _) Q E s;rw[if_neg (by intro h;rw[hn,Bool.false_and]at h;cases h)];exact AN hQ))
def Itl(K:AE)(a:AI):It:=
 ⟨λi H=>∃xs x,SqL K H a xs/\xs[i]?=AA x,λi H x H'=>H'=H/\∀xs,SqL K H a xs->xs[i]?=AA x,λi H=>∃xs,SqL K H a xs/\xs.length<=i⟩
def Itt(K:AE)(a:AI):It:=
 ⟨λi H=>∃xs x,SqT K H a xs/\xs[i]?=AA x,λi H x H'=>H'=H/\∀xs,SqT K H a xs->xs[i]?=AA x,λi H=>∃xs,SqT K H a xs/\xs.length<=i⟩
def Itr(lo:Int)(n:Nat):It:=⟨λi _=>i<n,λi H x H'=>H'=H/\x=.int (lo+i),λi _=>n<=i⟩
theorem ziw{P:Aa}{w:Ao}{K:AE}{tg:AW}(a it:AI):Turn P w K tg (Itl K a) [it] it (λi h=>h.IsListIter it a i) where
 mem:=by simp
 obj:=λi h st b hb=>by
  have e:b=it:=by simpa using hb
  subst e;let⟨o,e,c,d⟩:=st;exact⟨o,e,λv z=>by rw[d]at z;cases z⟩
 keep:=λi h h' st k=>st.at λo e=>k it (by simp) o e
 item:=by
  intro X hP hw hK hc i pins s σ H E I hf st hg;subst hP hw hK;let⟨xs,x,hq,hx⟩:=hg;let⟨its,rv,p,hz⟩:=I.list hq;let⟨u,hu,ru⟩:=rv.get hx;let⟨f0,f1,f2,f3,f4,f5⟩:=hf it (by simp);refine wpAny_pyNext_list_item st p.isList (x:=u) (by simpa using hu) λh' st' sb=>?_;have I1:Inv X pins σ H {s with heap:=h'}:=I.turned (t':=s.toks) (λb o hb e=>(sb.2 b hb).trans e) f0 f1 f3 f4 f5;let⟨o,e,c,d⟩:=id st';exact⟨u,rfl,zmb (s:={s with heap:=h'}) e c d (by decide) ⟨x,H,I1,ru,⟨rfl,λys hy=>by rw[I.list_inj hy hq];exact hx⟩,st',λb hb=>(hf b hb).1⟩⟩
 done:=by
  intro X hP hw hK hc i pins s σ H E I hf st hg;subst hP hw hK;let⟨xs,hq,hx⟩:=hg;let⟨its,rv,p,hz⟩:=I.list hq;let⟨f0,f1,f2,f3,f4,f5⟩:=hf it (by simp);have hl:=rv.length;exact wpAny_pyNext_list_end (I.ok.hd hc) st p.isList (by simp;lia) λh' eb=>⟨rfl,I.turned (t':=s.toks) (λb o hb e=>eb b o hb e) f0 f1 f3 f4 f5⟩
 self:=λ_ _ _ _ _ st h=>wpAny_pyIter_listiter st h
theorem zg5{P:Aa}{w:Ao}{K:AE}{tg:AW}(a it:AI):Turn P w K tg (Itt K a) [it] it (λi h=>h.IsTupleIter it a i) where
 mem:=by simp
 obj:=λi h st b hb=>by
  have e:b=it:=by simpa using hb
  subst e;let⟨o,e,c,d⟩:=st;exact⟨o,e,λv z=>by rw[d]at z;cases z⟩
 keep:=λi h h' st k=>st.at λo e=>k it (by simp) o e
 item:=by
  intro X hP hw hK hc i pins s σ H E I hf st hg;subst hP hw hK;let⟨xs,x,hq,hx⟩:=hg;let⟨its,rv,p,hz⟩:=I.tuple hq;let⟨u,hu,ru⟩:=rv.get hx;let⟨f0,f1,f2,f3,f4,f5⟩:=hf it (by simp);refine wpAny_pyNext_tuple_item st (show s.heap.IsTuple a its.toArray from p) (x:=u) (by simpa using hu) λh' st' sb=>?_;have I1:Inv X pins σ H {s with heap:=h'}:=I.turned (t':=s.toks) (λb o hb e=>(sb.2 b hb).trans e) f0 f1 f3 f4 f5;let⟨o,e,c,d⟩:=id st';exact⟨u,rfl,zmb (s:={s with heap:=h'}) e c d (by decide) ⟨x,H,I1,ru,⟨rfl,λys hy=>by rw[I.tuple_inj hy hq];exact hx⟩,st',λb hb=>(hf b hb).1⟩⟩
 done:=by
  intro X hP hw hK hc i pins s σ H E I hf st hg;subst hP hw hK;let⟨xs,hq,hx⟩:=hg;let⟨its,rv,p,hz⟩:=I.tuple hq;let⟨f0,f1,f2,f3,f4,f5⟩:=hf it (by simp);have hl:=rv.length;exact wpAny_pyNext_tuple_end (I.ok.hd hc) st (show s.heap.IsTuple a its.toArray from p) (by simp;lia) λh' eb=>⟨rfl,I.turned (t':=s.toks) (λb o hb e=>eb b o hb e) f0 f1 f3 f4 f5⟩
 self:=λ_ _ _ _ _ st h=>wpAny_pyIter_tupleiter st h
theorem zgX{P:Aa}{w:Ao}{K:AE}{tg:AW}(it:AI)(lo:Int)(n:Nat):Turn P w K tg (Itr lo n) [it] it (λi h=>IsRangeIter h it (lo+(i:Nat)*1) ((n:Int)-(i:Nat)) 1) where
 mem:=by simp
 obj:=λi h st b hb=>by
  have e:b=it:=by simpa using hb
  subst e;exact⟨_,st,λv z=>by
   have z':Data.fields _=Data.cell v:=z
   cases z'⟩
 keep:=λi h h' st k=>k it (by simp) _ st
 item:=by
  intro X hP hw hK hc i pins s σ H E I hf st hg;subst hP hw hK;let⟨f0,f1,f2,f3,f4,f5⟩:=hf it (by simp);have W:=Walks.range (prog:=X.prog) (w:=X.w) (I.ok.hd hc) it lo 1 n;refine W.item i s _ _ hg st λv h' tk hv st' kk=>?_;let⟨t,rfl⟩:=hv;have I1:Inv X pins σ H {s with heap:=h',toks:=tk}:=I.turned (λb o hb e=>kk b o (by simpa using hb) e) f0 f1 f3 f4 f5;refine⟨_,rfl,zmb (s:={s with heap:=h',toks:=tk}) (n:="range_iterator") st' rfl rfl (by decide) ⟨.int (lo+i),H,I1,⟨t,?_⟩,⟨rfl,rfl⟩,st',λb hb=>(hf b hb).1⟩⟩;rw[C2]
 done:=by
  intro X hP hw hK hc i pins s σ H E I hf st hg;subst hP hw hK;let⟨f0,f1,f2,f3,f4,f5⟩:=hf it (by simp);exact wpAny_pyNext_range_end (I.ok.hd hc) st (by have:n<=i:=hg;lia) λh' eb=>⟨rfl,I.turned (t':=s.toks) (λb o hb e=>eb b o hb e) f0 f1 f3 f4 f5⟩
 self:=λ_ _ _ _ _ st h=>wpAny_pyIter_rangeiter st h
section
variable {X:Cx}{tg:AW}
theorem zjt{pins:List (AI×CK)}{σ:St}{H:Hp}{s:AJ}{R:It->Hp->Prop}{E:AG->AJ->Prop}{lo hi:Int}{t u v:Hd}{tk:Nat}(I:Inv X pins σ H s)(h1:-(2^62)<=lo)(h2:lo<2^62)(h3:-(2^62)<=hi)(h4:hi<2^62)
  (q:R (Itr lo (hi-lo).toNat) H):A3 (model X.prog X.w) X.A (pyIter (.ref s.heap.objs.size)) (PIE X pins σ tg R) E {s with heap:=s.heap.push {cls:=.type "range",data:=.fields #[.int lo t,.int hi u,.int 1 v]},toks:=tk}:=by
 refine wpAny_pyIter_range (IsRange.new ..) (small_one h1 h2 h3 h4) ?_;have I1:Inv X pins σ H {s with heap:=s.heap.push {cls:=.type "range",data:=.fields #[.int lo t,.int hi u,.int 1 v]},toks:=tk}:=I.kept λb o e=>AM _ e;refine⟨(s.heap.push {cls:=.type "range",data:=.fields #[.int lo t,.int hi u,.int 1 v]}).objs.size,[(s.heap.push {cls:=.type "range",data:=.fields #[.int lo t,.int hi u,.int 1 v]}).objs.size],_,_,H,rfl,
  I1.kept (t':=tk) λb o e=>AM _ e,zgX _ lo (hi-lo).toNat,?_,λb hb=>?_,q⟩
 .have e1:lo+((0:Nat):Int)*1=lo:=by simp
  have e2:(((hi-lo).toNat:Nat):Int)-((0:Nat):Int)=HH lo hi 1:=by rw[rangeSize_one];split<;>lia
  show IsRangeIter _ _ (lo+((0:Nat):Int)*1) ((((hi-lo).toNat:Nat):Int)-((0:Nat):Int)) 1;rw[e1,e2];exact A6 _ rfl
 .have e:b=(s.heap.push {cls:=.type "range",data:=.fields #[.int lo t,.int hi u,.int 1 v]}).objs.size:=by simpa using hb
  subst e;exact I1.fpOk (AT _) (I1.hok.fresh (AT _))
def ye4(ta:TA):TI:=λσ H R=>ta σ H λvs H1=>∃j:Int,vs=[.int j]/\-(2^62)<=j/\j<2^62/\R (Itr 0 j.toNat) H1
theorem ziy{a:AW}{ta:TA}{p pos:C1}(hg:Gl X "range")(hm:X.mg "range"=AD)(ha:PA X [a] ta)(hs:starEach [a] X.env=[(AC,eval a X.env)]:=by rfl):PI X tg (.Call (.Name "range" p) [a] [] pos) (ye4 ta):=by
 intro pins s σ H R I h;refine Call_ (zdZ I hg hm boot_range (CM (thn (ha pos pins s σ H _ I h) λus s1 kq=>?_) hs rfl));let⟨vs,H1,I1,r1,q1⟩:=kq;let⟨j,e,q1,q2,q⟩:=q1;subst e
 cases r1 with
 |cons r rr=>
  cases rr
  let⟨t,rfl⟩:=r;exact call_range_1 (zjt I1 (by lia) (by lia) q1 q2 (by simpa using q))
def ygf(wi:TI)(g:TG)(tb:TS):TS:=λD σ H=>wi σ H λJ H1=>∃W:Nat->Nat->St->Hp->Prop,(∃m,W 0 m σ H1)/\∀i m σ H,W i m σ H ->
 (J.stop i H/\D.nx σ H) \/ (J.go i H/\∃N:St->Hp->Prop,(∀σ' H',N σ' H'->∃m',m' < m/\W (i+1) m' σ' H')/\∀x H',J.yld i H x H'->g x σ H' λσ2 H2=>tb {D with nx:=N,ct:=N,bk:=D.nx} σ2 H2)
def ybq(fp:List AI)(h:BI):List (AI×CK):=fp.filterMap λb=>(h.get? b).map λo=>(b,o)
theorem zbA{fp:List AI}{h:BI}{b:AI}{o:CK}(hb:b∈fp)(e:h.get? b=AA o):(b,o)∈ybq fp h:=EN.mpr ⟨b,hb,by rw[e];rfl⟩
theorem zi5{fp:List AI}{h:BI}{p:AI×CK}(hp:p∈ybq fp h):p.1∈fp/\h.get? p.1=AA p.2:=by
 let⟨b,hb,e⟩:=EN.mp hp
 cases q:h.get? b with
 |none=>rw[q]at e;cases e
 |some o=>
  rw[q]at e;have e':(b,o)=p:=AZ e;subst e';exact⟨hb,q⟩
theorem Inv.pinned{pins:List (AI×CK)}{σ:St}{H:Hp}{s:AJ}{fp:List AI}(I:Inv X pins σ H s)(hf:∀b∈fp,ybv X pins H b)(ho:∀b∈fp,∃o,s.heap.get? b=AA o/\∀v,o.data ≠ .cell v):Inv X (pins++ybq fp s.heap) σ H s:=
 I.pins_of λp hp=>(Ax.mp hp).elim (λz=>I.pin p (BM _ z)) λz=>by
  let⟨hb,e⟩:=zi5 z;let⟨f0,f1,f2,_⟩:=hf p.1 hb;let⟨o,e',d⟩:=ho p.1 hb;rw[e]at e';cases e';exact⟨e,f0,f1,f2,d⟩
theorem Inv.unpinned{pins pl:List (AI×CK)}{σ:St}{H:Hp}{s:AJ}(I:Inv X (pins++pl) σ H s):Inv X pins σ H s:=I.pins_of λp hp=>I.pin p (BM _ (Do _ hp))
theorem zos{iter:AW}{body:List CF}{wi:TI}{g:TG}{tb:TS}{pos:C1}(hp:Es (model X.prog X.w) X.A X.env X.xe)(hc:X.calm=AB)(hi:PI X tg iter wi)(hg:PG X tg g)(hb:PSs X body tb)
  (hs:∀x,foldedSetIterable iter X.env x=pure x:=by intro _;rfl):PS X (.For tg iter body [] pos) (ygf wi g tb):=by
 intro pins s σ H D I h;refine wpAny_For (thn (hi pins s σ H _ I h) λv s1 h1=>thn h1 λitv s2 h2=>?_) hs;let⟨it,fp,tn,J,H2,e,I2,T,st2,f2,W,⟨m0,w0⟩,turn⟩:=h2;subst e;have stat:∀{H':Hp},(∀b∈fp,H' b=AD)->∀b∈fp,ybv X pins H' b:=λhn b hb=>⟨hn b hb,(f2 b hb).2⟩;refine codeAny_forLoop_any (λn s'=>∃i σ' H',Inv X pins σ' H' s'/\tn i s'.heap/\(∀b∈fp,H' b=AD)/\W i n σ' H') ?_ m0 ⟨0,σ,H2,I2,st2,λb hb=>(f2 b hb).1,w0⟩
 rintro n s3 ⟨i,σ3,H3,I3,st3,fr3,w3⟩
 rcases turn i n σ3 H3 w3 with⟨stop,qn⟩|⟨go,N,hN,step⟩
 .refine CZ hp (thn (T.done X rfl rfl rfl hc i pins s3 σ3 H3 X.xe I3 (stat fr3) st3 stop) λr s4 kq=>?_);let⟨hr,I4⟩:=kq;subst hr;exact Dt ⟨σ3,H3,I4,qn⟩
 .refine CZ hp (thn (T.item X rfl rfl rfl hc i pins s3 σ3 H3 X.xe I3 (stat fr3) st3 go) λr s4 kq=>?_);let⟨u,hr,h4⟩:=kq;subst hr;refine CZ hp (thn h4 λ_ s5 kq=>?_);let⟨x,H5,I5,r5,y5,st5,fr5⟩:=kq;have I5':=I5.pinned (stat fr5) (T.obj _ _ st5);refine CZ hp (thn (hg _ s5 σ3 H5 x u _ I5' r5 (step x H5 y5)) λ_ s6 kq=>?_);let⟨σ6,H6,I6,q6⟩:=kq;refine CZ hp (thn (hb _ s6 σ6 H6 _ I6 q6) λf s7 q7=>?_);have again:∀{σ7:St} {H7:Hp},Inv X (pins++ybq fp s5.heap) σ7 H7 s7->N σ7 H7->∃m,m<n/\∃i σ' H',Inv X pins σ' H' s7/\tn i s7.heap/\(∀b∈fp,H' b=AD)/\W i m σ' H':=λ{σ7 H7} I7 n7=>by
   let⟨m',hm,w7⟩:=hN σ7 H7 n7;refine⟨m',hm,i+1,σ7,H7,I7.unpinned,T.keep _ _ _ st5 λb hb o e=>(I7.pin (b,o) (BM _ (BM _ (zbA hb e)))).1,λb hb=>?_,w7⟩;let⟨o,e,d⟩:=T.obj _ _ st5 b hb;exact(I7.pin (b,o) (BM _ (BM _ (zbA hb e)))).2.1
  cases f with
  |next=>let⟨σ7,H7,I7,n7⟩:=q7;exact again I7 n7
  |cont=>let⟨σ7,H7,I7,n7⟩:=q7;exact again I7 n7
  |brk=>let⟨σ7,H7,I7,q7⟩:=q7;exact⟨σ7,H7,I7.unpinned,q7⟩
  |ret v=>let⟨x7,σ7,H7,I7,r7,q7⟩:=q7;exact⟨x7,σ7,H7,I7.unpinned,r7,q7⟩
end
abbrev R2:=V->V->Hp->VK->Prop
def OpR(X:Cx)(f:AG->AG->HB AG)(r:R2):Prop:=
 ∀(pins:List (AI×CK)) (s:AJ) (σ:St) (H:Hp) (x y:V) (v u:AG) (Q:VK),Inv X pins σ H s->RelV x v->RelV y u->r x y H Q ->
  A3 (model X.prog X.w) X.A (f v u) (EP X pins σ Q) X.xe s
def UnR(X:Cx)(f:AG->HB AG)(r:V->Hp->VK->Prop):Prop:=
 ∀(pins:List (AI×CK)) (s:AJ) (σ:St) (H:Hp) (x:V) (v:AG) (Q:VK),Inv X pins σ H s->RelV x v->r x H Q ->
  A3 (model X.prog X.w) X.A (f v) (EP X pins σ Q) X.xe s
def yat(X:Cx)(f:AG)(r:List V->Hp->VK->Prop):Prop:=
 ∀(pins:List (AI×CK)) (s:AJ) (σ:St) (H:Hp) (xs:List V) (us:List AG) (Q:VK),Inv X pins σ H s->Vals xs us->r xs H Q ->
  A3 (model X.prog X.w) X.A (call f us) (EP X pins σ Q) X.xe s
def yfA(X:Cx)(r:V->Hp->(Bool->Hp->Prop)->Prop):Prop:=
 ∀(pins:List (AI×CK)) (s:AJ) (σ:St) (H:Hp) (x:V) (v:AG) (Q:Bool->Hp->Prop),Inv X pins σ H s->RelV x v->r x H Q ->
  A3 (model X.prog X.w) X.A (truthy v) (TP X pins σ Q) X.xe s
def tOp(r:R2)(ta tb:TE):TE:=λσ H Q=>ta σ H λx H1=>tb σ H1 λy H2=>r x y H2 Q
def tUn(r:V->Hp->VK->Prop)(ta:TE):TE:=λσ H Q=>ta σ H λx H1=>r x H1 Q
def rI(C:Int->Int->Prop)(g:Int->Int->V):R2:=λx y H Q=>∃i j,x=.int i/\y=.int j/\C i j/\Q (g i j) H
def rI0(g:Int->Int->V):R2:=λx y H Q=>∃i j,x=.int i/\y=.int j/\Q (g i j) H
def rU(g:Int->V):V->Hp->VK->Prop:=λx H Q=>∃i,x=.int i/\Q (g i) H
section
variable {X:Cx}{a b c:AW}{ta tb tc:TE}{pos:C1}
theorem yeY(ha:PE X a ta)(hb:PE X b tb){pins:List (AI×CK)}{s:AJ}{σ:St}{H:Hp}{R:V->V->Hp->Prop}(I:Inv X pins σ H s)
  (h:ta σ H λx H1=>tb σ H1 λy H2=>R x y H2) {Q:AG->AJ->Prop} {f:AG->AG->HB AG}
  (hf:∀v u s2 x y H2,Inv X pins σ H2 s2->RelV x v->RelV y u->R x y H2->A3 (model X.prog X.w) X.A (f v u) Q X.xe s2):
  A3 (model X.prog X.w) X.A (eval a X.env) (λv s₁=>A3 (model X.prog X.w) X.A (eval b X.env) (λu s₂=>A3 (model X.prog X.w) X.A (f v u) Q X.xe s₂) X.xe s₁) X.xe s:=by
 refine thn (ha pins s σ H _ I h) λv s1 kq=>?_;let⟨x,H1,I1,r1,q1⟩:=kq;refine thn (hb pins s1 σ H1 _ I1 q1) λu s2 kq=>?_;let⟨y,H2,I2,r2,q2⟩:=kq;exact hf v u s2 x y H2 I2 r1 r2 q2
theorem zqw{op:Dp}{r:R2}(ho:OpR X (binaryOp op) r)(ha:PE X a ta)(hb:PE X b tb):PE X (.BinOp a op b pos) (tOp r ta tb):=by
 intro pins s σ H Q I h;exact wpAny_BinOp (yeY ha hb I h λv u s2 x y H2 I2 rx ry q=>ho pins s2 σ H2 x y v u Q I2 rx ry q)
theorem zpQ{op:UnaryOp}{r:V->Hp->VK->Prop}(ho:UnR X (unaryOp op) r)(ha:PE X a ta):PE X (.UnaryOp op a pos) (tUn r ta):=by
 intro pins s σ H Q I h;exact UnaryOp_ (thn (ha pins s σ H _ I h) λv s1 ⟨x,H1,I1,r1,q1⟩=>ho pins s1 σ H1 x v Q I1 r1 q1)
theorem opI{f:AG->AG->HB AG}{C:Int->Int->Prop}{g:Int->Int->Int}
  (rule:∀(i j:Int) (t u:Hd) (s:AJ) (Q:AG->AJ->Prop) (E:AG->AJ->Prop),C i j->Q (.int (g i j) s.toks) {s with toks:=s.toks+1}->A3 (model X.prog X.w) X.A (f (.int i t) (.int j u)) Q E s):
  OpR X f (rI C λi j=>.int (g i j)):=by
 intro pins s σ H x y v u Q I rx ry h;let⟨i,j,rfl,rfl,hc,q⟩:=h;let⟨t,rfl⟩:=rx;let⟨t',rfl⟩:=ry;exact rule i j t t' s _ _ hc ⟨.int (g i j),H,I.tok _,⟨_,rfl⟩,q⟩
theorem ydE{f:AG->AG->HB AG}{g:Int->Int->Int}
  (rule:∀(i j:Int) (t u:Hd) (s:AJ) (Q:AG->AJ->Prop) (E:AG->AJ->Prop),Q (.int (g i j) s.toks) {s with toks:=s.toks+1}->A3 (model X.prog X.w) X.A (f (.int i t) (.int j u)) Q E s):
  OpR X f (rI0 λi j=>.int (g i j)):=by
 intro pins s σ H x y v u Q I rx ry h;let⟨i,j,rfl,rfl,q⟩:=h;let⟨t,rfl⟩:=rx;let⟨t',rfl⟩:=ry;exact rule i j t t' s _ _ ⟨.int (g i j),H,I.tok _,⟨_,rfl⟩,q⟩
theorem yd2{f:AG->AG->HB AG}{g:Int->Int->Bool}
  (rule:∀(i j:Int) (t u:Hd) (s:AJ) (Q:AG->AJ->Prop) (E:AG->AJ->Prop),Q (.bool (g i j)) s->A3 (model X.prog X.w) X.A (f (.int i t) (.int j u)) Q E s):
  OpR X f (rI0 λi j=>.bl (g i j)):=by
 intro pins s σ H x y v u Q I rx ry h;let⟨i,j,rfl,rfl,q⟩:=h;let⟨t,rfl⟩:=rx;let⟨t',rfl⟩:=ry;exact rule i j t t' s _ _ ⟨.bl (g i j),H,I,rfl,q⟩
def ydZ(i j:Int):Prop:=0<=j/\j<=1000000/\i.natAbs<2^64
def yde(i j:Int):Prop:=(-(2^64)<i/\i<2^64) \/ (-(2^64)<j/\j<2^64)
theorem yde.ok{i j:Int}(h:yde i j):IntMulOk i j:=by
 rcases h with⟨h1,h2⟩|⟨h1,h2⟩
 .exact .of_left (intBits_le_64 h1 h2)
 .exact .of_right (intBits_le_64 h1 h2)
theorem zgY(k:Nat):(0:Int)<=2^k:=by
 rw[two_pow_cast];exact Int.natCast_nonneg _
theorem zoZ:OpR X (binaryOp .Add) (rI0 λi j=>.int (i+j)):=ydE λ_ _ _ _ _ _ _ q=>add_int q
theorem zno:OpR X (binaryOp .Sub) (rI0 λi j=>.int (i-j)):=ydE λ_ _ _ _ _ _ _ q=>sub_int q
theorem znU:OpR X (binaryOp .Mult) (rI yde λi j=>.int (i*j)):=opI λ_ _ _ _ _ _ _ hc q=>mul_int q hc.ok
theorem znD:OpR X (binaryOp .Mod) (rI (λ_ j=>0<j) λi j=>.int (i%j)):=opI λi j _ _ _ _ _ hc q=>by
 have h1:(0:Int)<j:=hc;exact mod_int' (by lia) (by rw[Int.fmod_eq_emod_of_nonneg i (by lia)];exact q)
theorem znz:OpR X (binaryOp .Pow) (rI ydZ λi j=>.int (i^j.toNat)):=opI λ_ _ _ _ _ _ _ hc q=>pow_int_small hc.1 hc.2.1 hc.2.2 q
theorem zn5:OpR X (binaryOp .LShift) (rI ydZ λi j=>.int (i*2^j.toNat)):=opI λ_ _ _ _ _ _ _ hc q=>lshift_int_small hc.1 hc.2.1 hc.2.2 q
theorem zob:OpR X (binaryOp .RShift) (rI (λ_ j=>0<=j) λi j=>.int (i/2^j.toNat)):=opI λi j _ _ _ _ _ hc q=>
 rshift_int hc (by rw[EO i (zgY _)];exact q)
theorem zpC:OpR X (binaryOp .BitAnd) (rI0 λi j=>.int (BH i j)):=ydE λ_ _ _ _ _ _ _ q=>and_int q
theorem zqb:OpR X (binaryOp .BitOr) (rI0 λi j=>.int (Az i j)):=ydE λ_ _ _ _ _ _ _ q=>or_int q
theorem zpB:OpR X (binaryOp .BitXor) (rI0 λi j=>.int (BR i j)):=ydE λ_ _ _ _ _ _ _ q=>xor_int q
theorem unI{f:AG->HB AG}{g:Int->Int}
  (rule:∀(i:Int) (t:Hd) (s:AJ) (Q:AG->AJ->Prop) (E:AG->AJ->Prop),Q (.int (g i) s.toks) {s with toks:=s.toks+1}->A3 (model X.prog X.w) X.A (f (.int i t)) Q E s):
  UnR X f (rU λi=>.int (g i)):=by
 intro pins s σ H x v Q I rx h;let⟨i,rfl,q⟩:=h;let⟨t,rfl⟩:=rx;exact rule i t s _ _ ⟨.int (g i),H,I.tok _,⟨_,rfl⟩,q⟩
theorem zou:UnR X (unaryOp .USub) (rU λi=>.int (-i)):=unI λ_ _ _ _ _ q=>neg_int q
theorem zh6:OpR X (binaryOp .Add) (λx y H Q=>∃i k,x=.int i/\y=.bl k/\Q (.int (i+b2i k)) H):=by
 intro pins s σ H x y v u Q I rx ry h;let⟨i,k,rfl,rfl,q⟩:=h;let⟨t,rfl⟩:=rx
 cases ry
 exact add_int_bool ⟨.int (i+b2i k),H,I.tok _,⟨_,rfl⟩,q⟩
end
section
variable {X:Cx}{a b c:AW}{ta tb tc:TE}{pos:C1}
theorem zik{pins:List (AI×CK)}{σ:St}{H:Hp}{s:AJ}{Q:VK}{k k':Bool}(I:Inv X pins σ H s)(q:Q (.bl k) H)(e:k=k'):EP X pins σ Q (.bool k') s:=by
 subst e;exact⟨.bl k,H,I,rfl,q⟩
theorem zp5:OpR X (compareOp .Lt) (rI0 λi j=>.bl (decide (i<j))):=yd2 λ_ _ _ _ _ _ _ q=>lt_int q
theorem zqr:OpR X (compareOp .LtE) (rI0 λi j=>.bl (decide (i<=j))):=yd2 λ_ _ _ _ _ _ _ q=>le_int q
theorem zpO:OpR X (compareOp .Gt) (rI0 λi j=>.bl (decide (j<i))):=yd2 λ_ _ _ _ _ _ _ q=>gt_int q
theorem zpU:OpR X (compareOp .GtE) (rI0 λi j=>.bl (decide (j<=i))):=yd2 λ_ _ _ _ _ _ _ q=>ge_int q
theorem zhx:OpR X (compareOp .Lt) (λx y H Q=>∃i j,x=.str i/\y=.str j/\Q (.bl (decide (i.cps.toList<j.cps.toList))) H):=by
 intro pins s σ H x y v u Q I rx ry h;let⟨i,j,rfl,rfl,q⟩:=h;let⟨t,rfl⟩:=rx;let⟨t',rfl⟩:=ry;exact lt_str (zik I q rfl)
theorem ziV:OpR X (compareOp .In) (λx y H Q=>∃i j,x=.str i/\y=.str j/\Q (.bl (!(Et j i 0 j.length 1).isEmpty)) H):=by
 intro pins s σ H x y v u Q I rx ry h;let⟨i,j,rfl,rfl,q⟩:=h;let⟨t,rfl⟩:=rx;let⟨t',rfl⟩:=ry;exact in_str (zik I q rfl)
theorem ziA{op:Fj}{r:R2}(ho:OpR X (compareOp op) r)(ha:PE X a ta)(hb:PE X b tb)(hm:behindInMarks op b=AC):PE X (.Compare a [op] [b] pos) (tOp r ta tb):=by
 intro pins s σ H Q I h;exact wpAny_Compare1 (yeY ha hb I h λv u s2 x y H2 I2 rx ry q=>ho pins s2 σ H2 x y v u Q I2 rx ry q) hm
def ydH(t:TE):TT:=λσ H Q=>t σ H λx H'=>∃k,x=.bl k/\Q k H'
theorem zls{op:Fj}{r:R2}(ho:OpR X (compareOp op) r)(ha:PE X a ta)(hb:PE X b tb)(hm:behindInMarks op b=AC):PT X (.Compare a [op] [b] pos) (ydH (tOp r ta tb)):=by
 intro pins s σ H Q I h;refine wpAny_isTrue_Compare1 (thn (ha pins s σ H _ I h) λv s1 ⟨x,H1,I1,r1,q1⟩=>thn (hb pins s1 σ H1 _ I1 q1) λu s2 ⟨y,H2,I2,r2,q2⟩=>
  thn (ho pins s2 σ H2 x y v u _ I2 r1 r2 q2) λc s3 ⟨z,H3,I3,r3,k,e,q3⟩=>?_) hm
 subst e
 cases r3
 exact Be ⟨H3,I3,q3⟩
def ycy(r r':R2)(ta tb tc:TE):TE:=λσ H Q=>ta σ H λx H1=>tb σ H1 λy H2=>r x y H2 λz H3=>∃k,z=.bl k /\
 (if k=AB then tc σ H3 λw' H4=>r' y w' H4 Q else Q (.bl AC) H3)
theorem zjz{op op':Fj}{r r':R2}(ho:OpR X (compareOp op) r)(ho':OpR X (compareOp op') r')(ha:PE X a ta)(hb:PE X b tb)(hc:PE X c tc)
  (hm:lastMarks [op,op'] [b,c]=false:=by ac_rfl):PE X (.Compare a [op,op'] [b,c] pos) (ycy r r' ta tb tc):=by
 intro pins s σ H Q I h;refine Compare_chain (thn (ha pins s σ H _ I h) λv s1 ⟨x,H1,I1,r1,q1⟩=>chain_link (thn (hb pins s1 σ H1 _ I1 q1) λu s2 ⟨y,H2,I2,r2,q2⟩=>
  thn (ho pins s2 σ H2 x y v u _ I2 r1 r2 q2) λd s3 ⟨z,H3,I3,r3,k,e,q3⟩=>?_)) hm
 subst e
 cases r3
 refine Be ?_
 cases k with
 |false=>exact ite_ff ⟨.bl AC,H3,I3,rfl,q3⟩
 |true=>exact ite_tt (chain_last (thn (hc pins s3 σ H3 _ I3 q3) λw' s4 ⟨z',H4,I4,r4,q4⟩=>ho' pins s4 σ H4 y z' u w' Q I4 r2 r4 q4))
theorem zjY{op op':Fj}{r r':R2}(ho:OpR X (compareOp op) r)(ho':OpR X (compareOp op') r')(ha:PE X a ta)(hb:PE X b tb)(hc:PE X c tc)
  (hm:lastMarks [op,op'] [b,c]=false:=by ac_rfl):PT X (.Compare a [op,op'] [b,c] pos) (ydH (ycy r r' ta tb tc)):=by
 intro pins s σ H Q I h;refine isTrue_chain (thn (ha pins s σ H _ I h) λv s1 ⟨x,H1,I1,r1,q1⟩=>test_link (thn (hb pins s1 σ H1 _ I1 q1) λu s2 ⟨y,H2,I2,r2,q2⟩=>
  thn (ho pins s2 σ H2 x y v u _ I2 r1 r2 q2) λd s3 ⟨z,H3,I3,r3,k,e,q3⟩=>?_)) hm
 subst e
 cases r3
 refine Be ?_
 cases k with
 |false=>
  let⟨k',e',q'⟩:=q3
  cases e'
  exact ite_ff ⟨H3,I3,q'⟩
 |true=>
  refine ite_tt (test_last (thn (hc pins s3 σ H3 _ I3 q3) λw' s4 kq=>?_));let⟨z',H4,I4,r4,q4⟩:=kq;refine thn (ho' pins s4 σ H4 y z' u w' _ I4 r2 r4 q4) λd' s5 kq=>?_;let⟨z2,H5,I5,r5,k2,e2,q5⟩:=kq;subst e2
  cases r5
  exact Be ⟨H5,I5,q5⟩
def yea(K:AE)(x:V)(H:Hp)(k:Bool):Prop:=
 match x with
 |.non=>k=AC
 |.bl b=>k=b
 |.int i=>k=(i != 0)
 |.str y=>y.length<=sizeLine/\k=((y.length:Int) != 0)
 |.byt y=>y.size<=sizeLine/\k=((y.size:Int) != 0)
 |.ref p=>(∃xs,SqL K H p xs/\k=!xs.isEmpty) \/ (∃xs,SqT K H p xs/\k=!xs.isEmpty) \/ ∃kvs,H p=AA (.dK kvs)/\k=!kvs.isEmpty
 |_=>False
theorem zgV{κ:Type}{kvs:List (κ×V)}{vs:List (κ×AG)}(r:KV kvs vs):(!vs.isEmpty)=!kvs.isEmpty:=by
 cases r<;>rfl
theorem zd4{xs:List V}{its:List AG}(r:Vals xs its):(!its.toArray.isEmpty)=!xs.isEmpty:=by
 cases r<;>simp
theorem yaU:(sizeLine:Nat)<2^63:=by rw[Dq];decide
theorem znk:yfA X (λx H Q=>∃k,yea X.K x H k/\Q k H):=by
 intro pins s σ H x v Q I rx h;let⟨k,e,q⟩:=h;have hl:=yaU;have hs:sizeLine=16777216:=Dq
 cases x with
 |non=>
  cases rx
  have e':k=false:=e;subst e';exact truthy_none ⟨H,I,q⟩
 |bl b=>
  cases rx
  have e':k=b:=e;subst e';exact Be ⟨H,I,q⟩
 |int i=>
  let⟨t,rfl⟩:=rx;have e':k=(i != 0):=e;subst e';exact PySem.P.truthy_int ⟨H,I,q⟩
 |str y=>
  let⟨t,rfl⟩:=rx;obtain⟨hy,e'⟩:y.length<=sizeLine/\k=((y.length:Int) != 0):=e;subst e';exact PySem.P.truthy_str (by lia) ⟨H,I.tok _,q⟩
 |byt y=>
  let⟨t,rfl⟩:=rx;obtain⟨hy,e'⟩:y.size<=sizeLine/\k=((y.size:Int) != 0):=e;subst e';exact PySem.W.truthy_bytes (by lia) ⟨H,I.tok _,q⟩
 |ref p=>
  cases rx
  have e':(∃xs,SqL X.K H p xs/\k=!xs.isEmpty) \/ (∃xs,SqT X.K H p xs/\k=!xs.isEmpty) \/ ∃kvs,H p=AA (.dK kvs)/\k=!kvs.isEmpty:=e;rcases e' with⟨xs,hx,e'⟩|⟨xs,hx,e'⟩|⟨kvs,hx,e'⟩
  .subst e';let⟨its,r,pl,hz⟩:=I.list hx;have hlen:=r.length;exact wpAny_truthy_list pl.isList (by erw[AY];lia) ⟨H,I.tok _,by rw[zd4 r];exact q⟩
  .subst e';let⟨its,r,pl,hz⟩:=I.tuple hx;have hlen:=r.length;exact truthy_tuple pl (by erw[AY];lia) ⟨H,I.tok _,by rw[zd4 r];exact q⟩
  .subst e';obtain⟨hz,hS,vs,r,m⟩:kvs.length<=sizeLine/\(p==sysModules)=AC/\∃vs,KV kvs vs/\s.heap.DictOf (yW X.prog X.w) p vs:=I.hok p _ hx;have hlen:kvs.length=vs.length:=El r;exact wpAny_truthy_dict hS m (by lia) ⟨H,I.tok _,by rw[zgV r];exact q⟩
 |_=>exact(show False from e).elim
theorem zjL(ha:PE X a ta)(he:∀whole,isTrue a X.env whole=(do let v <-whole;standAt a.pos;holding [v] (truthy v))):
  PT X a (λσ H Q=>ta σ H λx H'=>∃k,yea X.K x H' k/\Q k H'):=by
 intro pins s σ H Q I h;exact isTrue_plain (thn (ha pins s σ H _ I h) λv s1 ⟨x,H1,I1,r1,q1⟩=>znk pins s1 σ H1 x v Q I1 r1 q1) (he _)
theorem zhd:OpR X (binaryOp .Add) (λx y H Q=>∃i j,x=.str i/\y=.str j/\i.length+j.length<=sizeLine/\Q (.str (i++j)) H):=by
 intro pins s σ H x y v u Q I rx ry h;let⟨i,j,rfl,rfl,hz,q⟩:=h;let⟨t,rfl⟩:=rx;let⟨t',rfl⟩:=ry;exact add_str (λt' tk=>⟨.str (i++j),H,I.tok _,⟨_,rfl⟩,q⟩) hz
theorem vals1{x:V}{us:List AG}(r:Vals [x] us):∃u,us=[u]/\RelV x u:=by
 cases r with
 |cons r1 r2=>cases r2;exact⟨_,rfl,r1⟩
theorem vals2{x y:V}{us:List AG}(r:Vals [x,y] us):∃u w',us=[u,w']/\RelV x u/\RelV y w':=by
 cases r with
 |cons r1 r2=>
  cases r2 with
  |cons r3 r4=>cases r4;exact⟨_,_,rfl,r1,r3⟩
theorem zh9(hc:X.calm=AB):yat X (.builtin "max") (λxs H Q=>∃i j,xs=[.int i,.int j]/\Q (.int (if j > i then j else i)) H):=by
 intro pins s σ H xs us Q I r h;let⟨i,j,rfl,q⟩:=h;let⟨u,w',rfl,⟨t,rfl⟩,⟨t',rfl⟩⟩:=vals2 r;refine max_two_ints (I.ok.hd hc) λh' tk k=>⟨_,H,I.kept k,?_,q⟩
 by_cases hj:j > i
 .rw[if_pos hj,if_pos hj];exact⟨_,rfl⟩
 .rw[if_neg hj,if_neg hj];exact⟨_,rfl⟩
theorem ziO(hc:X.calm=AB):yat X (.builtin "min") (λxs H Q=>∃i j,xs=[.int i,.int j]/\Q (.int (if j<i then j else i)) H):=by
 intro pins s σ H xs us Q I r h;let⟨i,j,rfl,q⟩:=h;let⟨u,w',rfl,⟨t,rfl⟩,⟨t',rfl⟩⟩:=vals2 r;refine min_two_ints (I.ok.hd hc) λh' tk k=>⟨_,H,I.kept k,?_,q⟩
 by_cases hj:j<i
 .rw[if_pos hj,if_pos hj];exact⟨_,rfl⟩
 .rw[if_neg hj,if_neg hj];exact⟨_,rfl⟩
end
structure ycY(h:BI)(x dx C:AI)(mA:AS->Option AG):Prop where
 obj:h.get? x=AA (CH C dx)
 ns:h.Ns1 dx mA
 ne:dx≠x
theorem zii{h:BI}{dx:AI}{mA:AS->Option AG}(n:h.Ns1 dx mA):∃od,h.get? dx=AA od/\∀name,EQ name od=AA (mA name):=by
 let⟨o,es,ep,ho,hd,hk,_,hm⟩:=n;refine⟨o,ho,λname=>?_⟩;have e:=hm name;unfold nsFind findBy at e;rw[<-Array.find?_toList]at e;unfold EQ;rw[hd];dsimp only;split
 .rename_i y q;rw[q]at e;exact congrArg AA e
 .rename_i q;rw[q]at e;have a:es.toList.any (·.refKey)=false:=by
   rw[List.any_eq_false];intro y hy;let⟨z,t,hkey⟩:=hk y (Array.mem_toList_iff.mp hy);simp[DictEntry.refKey,hkey]
  have a':¬es.toList.any (·.refKey)=true:=by rw[a];exact BG
  rw[if_neg a'];exact congrArg AA e
theorem ycY.look{h:BI}{x dx C:AI}{mA:AS->Option AG}(I:ycY h x dx C mA):∃od,PySem.W.InstAt h x (CH C dx) C (AA od)/\∀name,EQ name od=AA (mA name):=
 let ⟨od,ho,hl⟩:=zii I.ns
 ⟨od,⟨I.obj,rfl,rfl,ho⟩,hl⟩
section
variable {prog:Aa}{w:Ao}{A:Ay}{E:AG->AJ->Prop}{s:AJ}{K:AE}{x dx C f:AI}{mA:AS->Option AG}{name:AS}{v:AG}
theorem zmA{expr:Bool}{Q:AG->AJ->Prop}(X:K.In s.heap)(I:ycY s.heap x dx C mA)(hg:Cv K C name=AB)(hh:DO K C=AB)
  (ha:BF K (.ref C) name=AA AD) (hv:mA name=AA v) (hv':GZ v=AB) (h:Q v {s with toks:=s.toks+1}):
  A3 (model prog w) A (getAttr (.ref x) name expr) Q E s:=by
 let⟨od,J,hl⟩:=I.look;exact PySem.W.get_value X J (EB hg).1 (PySem.W.findObj_own hh ha rfl (by rw[hl,hv])) hv' h
theorem zkF{pl:HB Bool}{Q:AG×List AG->AJ->Prop}(X:K.In s.heap)(I:ycY s.heap x dx C mA)(hg:Cv K C name=AB)
  (hf:BF K (.ref C) name=AA (AA (.ref f))) (ht:Cw K (.ref f)=AB) (hv:mA name=AD) (h:Q (.ref f,[.ref x]) s):
  A3 (model prog w) A (getMethod (.ref x) name pl) Q E s:=by
 let⟨od,J,hl⟩:=I.look;exact PySem.W.method_fn X J (EB hg).1 (EB hg).2 hf (beq_iff_eq.mp ht) (by show (EQ name od).map (·.isSome)=AA AC;rw[hl,hv];rfl) h
theorem zmf{ns:List AS}{Q:Unit->AJ->Prop}(X:K.In s.heap)(I:ycY s.heap x dx C mA)
  (hs:BF K (.ref C) "__setattr__"=AA (AA (.builtin "object.__setattr__"))) (hp:Ef K C=AB) (ht:FO K C name=AA AD) (hh:DO K C=AB)
  (hw:GI mA ns) (hsz:ns.length<=sizeLine)
  (h:∀h',ycY h' x dx C (λy=>if y=name then AA v else mA y)->Cd dx s.heap h'->Q () {s with heap:=h',toks:=s.toks+2}):
  A3 (model prog w) A (setAttr (.ref x) name v) Q E s:=by
 let⟨od,J,hl⟩:=I.look;refine PySem.W.set_plain X J hs (PySem.W.osa_open (s:={s with toks:=s.toks+1}) (r:=AD) X J hp ht λb=>?_);let⟨cd,hc,hd'⟩:=PySem.W.any_some hh;have hx:s.heap.get? x=AA ⟨.ref C,AA dx,.plain,#[]⟩:=I.obj;refine AH (AN (AH (AH (wpAny_loadPart hx (AH (He (s:={s with toks:=s.toks+1}) (PySem.W.looks_clsIn X hc) ?_))))));rw[hd'];refine AN (a:=AA dx) (AH (AN (AH ?_)));refine wpAny_nsSet1 (s:={s with toks:=s.toks+1}) I.ns λh' hn2 hs2=>?_;let⟨oD,esD,epD,hoD,hdD,hcD⟩:=hn2.count (Hh name v hw);refine AH (wpAny_lookBehind hoD (by rw[hdD];exact pastItsLine_dict (B1 hcD (by rw[AX];lia))) ?_);exact AN (h _ ⟨(hs2.2 _ (BP I.ne)).trans I.obj,hn2,I.ne⟩ hs2)
theorem zkg{R:Gp->AJ->Prop}{vs:List AG}{kw:List (AS×AG)}(X:K.In s.heap)(hm:Du K C=AB)
  (hi:BF K (.ref C) "__init__"=AA (AA (.ref f))) (hf:PySem.W.typeIn K (.ref f)=AA (.type "function"))
  (h:codeAny (model prog w) (A.under (.builtin "type.__call__" ⟨.ref C::vs,kw⟩)) (.call (.ref f) ⟨.ref (s.heap.objs.size+1)::vs,kw⟩) (PySem.W.InitBack (s.heap.objs.size+1) R)
   {s with heap:=(s.heap.push Bf).push (CH C s.heap.objs.size)}):
  codeAny (model prog w) A (.call (.ref C) ⟨vs,kw⟩) R s:=by
 let⟨hh,g,d,t,os⟩:=s;exact PySem.W.make_core (PySem.W.makes_of X hm) (PySem.W.looks_findIn X hi) (λself=>PySem.W.bind_fn X self hf) (.inl rfl) h
end
def ya9(f:AS)(v:V):List (AS×V)->List (AS×V)
 |[]=>[(f,v)]
 |(g,x)::r=>if g=f then(g,v)::r else(g,x)::ya9 f v r
theorem zdF(f g:AS)(v:V):∀fs:List (AS×V),(ya9 f v fs).lookup g=if g=f then AA v else fs.lookup g
 |[]=>by
  show Bz g [(f,v)]=_
  by_cases h:g=f
  .have hb:(g==f)=true:=beq_iff_eq.mpr h;erw[Bz,hb,if_pos h]
  .have hb:(g==f)=false:=beq_eq_false_iff_ne.mpr h;erw[Bz,hb,if_neg h]
 |(k,x)::r=>by
  have ih:=zdF f g v r;rw[show ya9 f v ((k,x)::r)=(if k=f then(k,v)::r else(k,x)::ya9 f v r)from rfl]
  by_cases hk:k=f
  .rw[if_pos hk]
   by_cases h:g=k
   .have hb:(g==k)=true:=beq_iff_eq.mpr h;erw[Bz,hb,if_pos (h.trans hk)]
   .have hb:(g==k)=false:=beq_eq_false_iff_ne.mpr h;erw[Bz,hb,if_neg (λe:g=f=>h (e.trans hk.symm))]
  .rw[if_neg hk]
   by_cases h:g=k
   .have hb:(g==k)=true:=beq_iff_eq.mpr h;erw[Bz,hb,if_neg (λe:g=f=>hk (h.symm.trans e))]
   .have hb:(g==k)=false:=beq_eq_false_iff_ne.mpr h;erw[Bz,hb];exact ih
theorem zdu(f:AS)(v:V):∀fs:List (AS×V),f∈(ya9 f v fs).map (·.1)/\∀g,g∈fs.map (·.1)->g∈(ya9 f v fs).map (·.1)
 |[]=>⟨by simp[ya9],λg h=>by simp at h⟩
 |(k,x)::r=>by
  let⟨i1,i2⟩:=zdu f v r;rw[show ya9 f v ((k,x)::r)=(if k=f then(k,v)::r else(k,x)::ya9 f v r)from rfl]
  by_cases hk:k=f
  .rw[if_pos hk];subst hk;exact⟨by simp,λg h=>by simpa using h⟩
  .rw[if_neg hk];refine⟨?_,λg h=>?_⟩
   .rw[AL];exact AV _ i1
   .rw[AL]at h ⊢;rcases AO.mp h with e|e
    .exact AO.mpr (.inl e)
    .exact AV _ (i2 g e)
theorem zdx(f:AS)(v:V):∀fs:List (AS×V),(ya9 f v fs).length<=fs.length+1
 |[]=>by simp[ya9]
 |(k,x)::r=>by
  have ih:=zdx f v r;rw[show ya9 f v ((k,x)::r)=(if k=f then(k,v)::r else(k,x)::ya9 f v r)from rfl]
  by_cases hk:k=f
  .rw[if_pos hk,AX,AX];lia
  .rw[if_neg hk,AX,AX];lia
theorem ybx.some_of{v:V}{o:Option AG}(r:ybx (AA v) o):∃u,o=AA u/\RelV v u:=by
 cases o with
 |none=>exact(show False from r).elim
 |some u=>exact⟨u,rfl,r⟩
theorem ybx.none_of{o:Option AG}(r:ybx AD o):o=none:=by
 cases o with
 |none=>rfl
 |some u=>exact(show False from r).elim
theorem zhk{v:V}{u:AG}(r:RelV v u):GZ u=true:=by
 cases v with
 |non=>cases (show u=CQ from r);rfl
 |bl b=>cases (show u=EJ b from r);rfl
 |int i=>let⟨t,e⟩:=(show ∃t,u=Ep i t from r);cases e;rfl
 |str x=>let⟨t,e⟩:=(show ∃t,u=GX x t from r);cases e;rfl
 |byt b=>let⟨t,e⟩:=(show ∃t,u=HX b t from r);cases e;rfl
 |flt b=>let⟨t,e⟩:=(show ∃t,u=HY b t from r);cases e;rfl
 |ref a=>cases (show u=An a from r);rfl
 |ty n=>cases (show u=Fx n from r);rfl
section
variable {P:Aa}{w:Ao}{H H':Hp}{h h':BI}{a C dx:AI}{fs fs':List (AS×V)}
theorem zfM(hok:HOk P w H h)(e:H a=AA (.ins C dx fs)):∃mA,ycY h a dx C mA/\(∀f,ybx (fs.lookup f) (mA f))/\GI mA (fs.map (·.1))/\fs.length<=1000/\H dx=AA (.own a):=by
 let⟨d,z,ne,ob,mA,n,r,q⟩:=(show yag P w H h a (.ins C dx fs)from hok a _ e);exact⟨mA,⟨ob,n,ne⟩,r,q,z,d⟩
end
structure Cls(K:AE)(C:AI):Prop where
 pg:Cv K C G0=AB
 hd:DO K C=AB
 po:Ef K C=AB
 sa:BF K (.ref C) "__setattr__"=AA (AA (.builtin "object.__setattr__"))
theorem Cls.get{K:AE}{C:AI}(c:Cls K C)(f:AS):Cv K C f=true:=c.pg
def yaz(K:AE)(C:AI)(f:AS):Prop:=BF K (.ref C) f=AA AD
theorem yaz.taker{K:AE}{C:AI}{f:AS}(n:yaz K C f):FO K C f=AA none:=by
 unfold FO;rw[show BF K (.ref C) f=AA AD from n];rfl
structure Con(K:AE)(C:AI)(f:AS)(v:V)(u:AG):Prop where
 at_:BF K (.ref C) f=AA (AA u)
 rel:RelV v u
 get:PySem.W.specialIn K u "__get__"=AA AD
 cp:PySem.W.copiedNames.contains f=AC
structure Meth(K:AE)(C:AI)(m:AS)(f:AI):Prop where
 at_:BF K (.ref C) m=AA (AA (.ref f))
 fn:Cw K (.ref f)=AB
 kp:BA K (.ref f)=AB
section
variable {X:Cx}{pins:List (AI×CK)}{σ:St}{H:Hp}{s:AJ}{a C dx:AI}{fs:List (AS×V)}{f:AS}{v:V}{A:Ay}{E:AG->AJ->Prop}
theorem zed{b:Bool}{Q:AG->AJ->Prop}(I:Inv X pins σ H s)(e:H a=AA (.ins C dx fs))(c:Cls X.K C)(n:yaz X.K C f)(l:fs.lookup f=AA v)
  (h:∀u s',Inv X pins σ H s'->RelV v u->Q u s'):A3 (model X.prog X.w) A (getAttr (.ref a) f b) Q E s:=by
 let⟨mA,O,r,_,_,_⟩:=zfM I.hok e;let⟨u,hu,ru⟩:=ybx.some_of (v:=v) (o:=mA f) (by rw[<-l];exact r f);exact zmA I.kIn O (c.get f) c.hd n hu (zhk ru) (h u _ (I.tok _) ru)
theorem zdX{m:AS}{g:AI}{pl:HB Bool}{Q:AG×List AG->AJ->Prop}(I:Inv X pins σ H s)(e:H a=AA (.ins C dx fs))(c:Cls X.K C)(k:Meth X.K C m g)(l:fs.lookup m=AD)
  (h:Q (.ref g,[.ref a]) s):A3 (model X.prog X.w) A (getMethod (.ref a) m pl) Q E s:=by
 let⟨mA,O,r,_,_,_⟩:=zfM I.hok e;have hn:mA m=none:=ybx.none_of (by rw[<-l];exact r m);exact zkF I.kIn O (c.get m) k.at_ k.fn hn h
theorem zd7{y:V}{u:AG}{Q:Unit->AJ->Prop}(I:Inv X pins σ H s)(e:H a=AA (.ins C dx fs))(c:Cls X.K C)(n:yaz X.K C f)(hl:fs.length<1000)(ry:RelV y u)
  (h:∀s',Inv X pins σ (upd H a (.ins C dx (ya9 f y fs))) s'->Q () s'):A3 (model X.prog X.w) A (setAttr (.ref a) f u) Q E s:=by
 let⟨mA,O,r,wi,_,ho⟩:=zfM I.hok e;have hz:(fs.map (·.1)).length<=sizeLine:=by rw[Ap,Dq];lia
 refine zmf I.kIn O c.sa c.po n.taker c.hd wi hz λh' O' sb=>h _ ?_;have hd:∃o,h'.get? dx=AA o:=let ⟨o,_,_,e',_⟩:=O'.ns;⟨o,e'⟩
 refine I.write (x:=a) (e:=dx) (by rw[e];exact Cf) (.inr ho) (λb q hb z=>(sb.2 b hb).trans z) hd ?_;refine⟨by rw[zk O.ne];exact ho,?_,O.ne,O'.obj,_,O'.ns,λg=>?_,λg hg=>?_⟩
 .have:=zdx f y fs;lia
 .show ybx ((ya9 f y fs).lookup g) (if g=f then AA u else mA g);rw[zdF]
  by_cases q:g=f
  .rw[if_pos q,if_pos q];exact ry
  .rw[if_neg q,if_neg q];exact r g
 .by_cases q:g=f
  .rw[q];exact(zdu f y fs).1
  .refine(zdu f y fs).2 g (wi g λz=>hg ?_);show (if g=f then AA u else mA g)=AD;rw[if_neg q];exact z
theorem Inv.made(I:Inv X pins σ H s):Inv X pins σ (upd (upd H s.heap.objs.size (.own (s.heap.objs.size+1))) (s.heap.objs.size+1) (.ins C s.heap.objs.size []))
  {s with heap:=(s.heap.push Bf).push (CH C s.heap.objs.size)}:=by
 have e1:(s.heap.push Bf).get? s.heap.objs.size=AA Bf:=A6 s.heap rfl;have e2:((s.heap.push Bf).push (CH C s.heap.objs.size)).get? (s.heap.objs.size+1)=AA (CH C s.heap.objs.size):=by
  have:=A6 (s.heap.push Bf) (o:=CH C s.heap.objs.size) rfl
  rwa [CA]at this
 have e3:(s.heap.push Bf).Ns s.heap.objs.size (λ_=>AD):=⟨Bf,#[],_,e1,rfl,(λe he=>absurd he (by simp)),λ_=>rfl⟩;have I1:=I.laid (a:=s.heap.objs.size) (o:=.own (s.heap.objs.size+1)) (h':=s.heap.push Bf) (t':=s.toks) (λb u q=>AM _ q) (AT _) ⟨_,e1⟩;refine I1.laid (a:=s.heap.objs.size+1) (o:=.ins C s.heap.objs.size []) (t':=s.toks) (λb u q=>AM _ q) (HL (CA _ _)) ?_;have ne:s.heap.objs.size≠s.heap.objs.size+1:=Ar (Da _);refine⟨by rw[zk ne,zu],DL _,ne,e2,λ_=>AD,(Heap.Ns1.of_empty e3).at λo q=>AM _ q,λ_=>Cf,λy hy=>absurd rfl hy⟩
theorem zlY{prog:Aa}{w:Ao}{env:Env}{e:AW}{f:AS}{pos:C1}{s:AJ}{Q:AG->AJ->Prop}(hb:attributeBase e f env (eval e env)=eval e env)
  (h:A3 (model prog w) A (eval e env) (λo s₁=>A3 (model prog w) A (getAttr o f AB) Q E s₁) E s):A3 (model prog w) A (eval (.Attribute e f pos) env) Q E s:=
 Attribute_any_ h (by rw[arm_eval_Attribute,hb])
end
def ygA(K:AE)(ta:TE)(f:AS):TE:=λσ H Q=>ta σ H λx H1=>∃a C dx fs v,x=.ref a/\H1 a=AA (.ins C dx fs)/\Cls K C/\yaz K C f/\fs.lookup f=AA v/\Q v H1
def ygK(K:AE)(ta tv:TE)(f:AS):TS:=λD σ H=>tv σ H λy H1=>ta σ H1 λx H2=>∃a C dx fs,x=.ref a/\H2 a=AA (.ins C dx fs)/\Cls K C/\yaz K C f/\fs.length<1000 /\
 D.nx σ (upd H2 a (.ins C dx (ya9 f y fs)))
def yfv(X:Cx)(op:Dp)(rd:V->V->Hp->VK->Prop):Prop:=
 ∀(pins:List (AI×CK)) (s:AJ) (σ:St) (H:Hp) (x y:V) (u v:AG) (Q:VK),Inv X pins σ H s->RelV x u->RelV y v->rd x y H Q->A3 (model X.prog X.w) X.A (inplaceOp op u v) (EP X pins σ Q) X.xe s
def ycJ(K:AE)(ta tv:TE)(rd:V->V->Hp->VK->Prop)(f:AS):TS:=λD σ H=>ta σ H λx H1=>∃a C dx fs v,x=.ref a/\H1 a=AA (.ins C dx fs)/\Cls K C/\yaz K C f/\fs.lookup f=AA v /\
 tv σ H1 λy H2=>rd v y H2 λz H3=>∃dx' fs',H3 a=AA (.ins C dx' fs')/\fs'.length<1000/\D.nx σ (upd H3 a (.ins C dx' (ya9 f z fs')))
section
variable {X:Cx}{o e value:AW}{f:AS}{pos pos' tpos:C1}{ta tv:TE}
theorem zny(he:PE X e ta)(hb:attributeBase e f X.env (eval e X.env)=eval e X.env):PE X (.Attribute e f pos) (ygA X.K ta f):=by
 intro pins s σ H Q I h;refine zlY hb (thn (he pins s σ H _ I h) λu s1 kq=>?_);let⟨x,H1,I1,rx,a,C,dx,fs,v,ex,ea,c,n,l,q⟩:=kq;subst ex;obtain rfl:u=An a:=rx;exact zed I1 ea c n l λu' s2 I2 ru=>⟨v,H1,I2,ru,q⟩
theorem zoh(ha:PE X o ta)(hv:PE X value tv)(hs:swapsWith value (AA (.Attribute o f pos')) pos.line X.env=pure AC):PS X (.Assign [.Attribute o f pos'] value pos) (ygK X.K ta tv f):=by
 intro pins s σ H D I h;refine plainObj_wpAny_Assign_Attribute (thn (hv pins s σ H _ I h) λu s1 kq=>?_) hs;let⟨y,H1,I1,ry,q⟩:=kq;refine thn (ha pins s1 σ H1 _ I1 q) λov s2 kq=>?_;let⟨x,H2,I2,rx,a,C,dx,fs,ex,ea,c,n,l,q2⟩:=kq;subst ex;obtain rfl:ov=An a:=rx;exact zd7 I2 ea c n l ry λs3 I3=>⟨σ,_,I3,q2⟩
theorem ziS{op:Dp}{rd:V->V->Hp->VK->Prop}(ha:PE X o ta)(hv:PE X value tv)(hop:yfv X op rd):PS X (.AugAssign (.Attribute o f tpos) op value pos) (ycJ X.K ta tv rd f):=by
 intro pins s σ H D I h;refine wpAny_AugAssign_AttributeAny (thn (ha pins s σ H _ I h) λov s1 kq=>?_);let⟨x,H1,I1,rx,a,C,dx,fs,v,ex,ea,c,n,l,q⟩:=kq;subst ex;obtain rfl:ov=An a:=rx;refine zed I1 ea c n l λu s2 I2 ru=>thn (hv pins s2 σ H1 _ I2 q) λw3 s3 kq=>?_;let⟨y,H2,I3,ry,q3⟩:=kq;refine thn (hop pins s3 σ H2 v y u w3 _ I3 ru ry q3) λw4 s4 kq=>?_;let⟨z,H3,I4,rz,dx',fs',ea',l',q4⟩:=kq;exact zd7 I4 ea' c n l' rz λs5 I5=>⟨σ,_,I5,q4⟩
def yfF:V->V->Hp->VK->Prop:=λx y H Q=>∃i j,x=.int i/\y=.int j/\Q (.int (i+j)) H
theorem zoc:yfv X .Add yfF:=by
 rintro pins s σ H x y u v Q I rx ry ⟨i,j,rfl,rfl,q⟩
 let⟨t,rfl⟩:=(show ∃t,u=Ep i t from rx);let⟨t',rfl⟩:=(show ∃t',v=Ep j t' from ry);exact Gk ⟨.int (i+j),H,I.tok _,⟨_,rfl⟩,q⟩
end
section
variable {X:Cx}{pins:List (AI×CK)}{σ:St}{H:Hp}{s:AJ}{A:Ay}{E:AG->AJ->Prop}{Q:AG->AJ->Prop}{c:AG}{b:Bool}
end
structure yaB(k:Nat)(A:Ay):Prop where
 hd:A.handled=AD
 dp:A.depth+3*k+5<recursionLimit
 un:A.units+16*k+200<cLine
theorem yaB.mono{j k:Nat}{A:Ay}(r:yaB k A)(h:j<=k):yaB j A:=⟨r.hd,by have:=r.dp;lia,by have:=r.un;lia⟩
theorem yaB.deeper{k:Nat}{A:Ay}(r:yaB (k+1) A)(env:Env):yaB k (A.deeper env):=
 ⟨r.hd,by have:=r.dp;show A.depth+1+3*k+5<_;lia,by have:=r.un;show A.units+3+16*k+200<_;lia⟩
theorem zgR{A:Ay}{C:AI}{us:List AG}{kw:List (AS×AG)}:(A.under (.builtin "type.__call__" ⟨.ref C::us,kw⟩)).depth=A.depth+1:=by
 first|rfl|simp[GL,Code.weight,Code.isCreation,Code.isGuard,Code.isCaller,HZ,GM,guardIds]
theorem zgS{A:Ay}{C:AI}{us:List AG}{kw:List (AS×AG)}:(A.under (.builtin "type.__call__" ⟨.ref C::us,kw⟩)).units=A.units+1:=by
 first|rfl|simp[GL,Code.cUnits,HZ,GM]
theorem yaB.make{k:Nat}{A:Ay}(r:yaB (k+1) A)(C:AI)(us:List AG)(kw:List (AS×AG)):yaB k (A.under (.builtin "type.__call__" ⟨.ref C::us,kw⟩)):=
 ⟨r.hd,by have:=r.dp;rw[zgR];lia,by have:=r.un;rw[zgS];lia⟩
theorem yaB.depth{k:Nat}{A:Ay}(r:yaB k A):A.depth<recursionLimit:=by have:=r.dp;lia
theorem yaB.units{k:Nat}{A:Ay}(r:yaB k A):A.units+64<cLine:=by have:=r.un;lia
def yds:TA:=λ_ H Q=>Q [] H
def ydD(ta:TE)(tr:TA):TA:=λσ H Q=>ta σ H λx H1=>tr σ H1 λxs H2=>Q (x::xs) H2
section
variable {X:Cx}{e:AW}{es:List AW}{te:TE}{t:TA}{pos:C1}
theorem ybr:PA X [] yds:=λ_ _ _ _ H Q I h=>GN ⟨[],H,I,.nil,h⟩
theorem zbO(ha:PE X e te)(hr:PA X es t)(hs:starEach (e::es) X.env=(AC,eval e X.env)::starEach es X.env:=by rfl):PA X (e::es) (ydD te t):=by
 intro pos pins s σ H Q I h;rw[hs];show A3 _ _ (spliced ((AC,eval e X.env)::backTo pos (starEach es X.env))) _ _ s;refine ER (thn (ha pins s σ H _ I h) λu s1 kq=>?_);let⟨x,H1,I1,r1,q1⟩:=kq;exact thn (hr pos pins s1 σ H1 _ I1 q1) λus s2 ⟨xs,H2,I2,r2,q2⟩=>⟨x::xs,H2,I2,.cons r1 r2,q2⟩
def ygp(t:TA):TE:=λσ H Q=>t σ H λxs H1=>xs.length<=sizeLine/\∀p,H1 p=AD->Q (.ref p) (upd H1 p (.tup xs))
def yf0(t:TA):TE:=λσ H Q=>t σ H λxs H1=>xs.length<=sizeLine/\∀p,H1 p=AD->Q (.ref p) (upd H1 p (.lst xs))
theorem zn4{x1}(h:PA X es t):PE X (.Tuple es x1 pos) (ygp t):=by
 intro pins s σ H Q I hq;refine wpAny_Tuple_spliced (thn (h pos pins s σ H _ I hq) λus s1 kq=>?_);let⟨xs,H1,I1,r,z,q⟩:=kq;refine ⟨by rw[<-r.length];exact z,?_⟩;have hf:H1 s1.heap.objs.size=none:=I1.hok.fresh (AT _);refine⟨.ref s1.heap.objs.size,upd H1 s1.heap.objs.size (.tup xs),I1.laid (t':=s1.toks) (λb u e=>AM _ e) (AT _) ?_,rfl,q _ hf⟩;exact⟨z,us,r,⟨_,A6 _ rfl,rfl,_,rfl⟩⟩
theorem zkS(h:PA X es t):PE X (.List es pos) (yf0 t):=by
 intro pins s σ H Q I hq;refine wpAny_List_spliced (thn (h pos pins s σ H _ I hq) λus s1 kq=>?_);let⟨xs,H1,I1,r,z,q⟩:=kq;refine ⟨by rw[<-r.length];exact z,?_⟩;have hf:H1 s1.heap.objs.size=none:=I1.hok.fresh (AT _);refine⟨.ref s1.heap.objs.size,upd H1 s1.heap.objs.size (.lst xs),I1.laid (t':=s1.toks) (λb u e=>AM _ e) (AT _) ?_,rfl,q _ hf⟩;exact⟨z,us,0,r,A6 _ rfl⟩
end
abbrev Sp:=List V->Hp->VK->XK->Prop
abbrev CXT:=List Env->Hp->AJ->XK->AG->AJ->Prop
structure yc5(P:Aa)(w:Ao)(K:AE)(mg:AS->Option AG)(base:BI)(A:Ay)(outer:List Env)(s:AJ)(H:Hp):Prop where
 frames:A.frames=AA outer
 mod:Mod K mg base
 bs:∀b o,base.get? b=AA o->s.heap.get? b=AA o/\H b=AD
 bsz:base.objs.size<=s.heap.objs.size
 funs:s.heap.FunFrames base outer
 frf:∀b∈frs outer,H b=AD
 hok:HOk P w H s.heap
 bare:Dh s.gens
def CE(outer:List Env)(P:Aa)(w:Ao)(H:Hp)(s:AJ)(Q:VK)(u:AG)(s':AJ):Prop:=
 ∃v H',s'.os=s.os/\Dh s'.gens/\Un (frs outer) [] H H' s.heap s'.heap/\HOk P w H' s'.heap/\RelV v u/\Q v H'
def CR(CX:CXT)(outer:List Env)(P:Aa)(w:Ao)(H:Hp)(s:AJ)(Q:VK)(E:XK)(r:Gp)(s':AJ):Prop:=
 match r with
 |.ok (.ret u)=>CE outer P w H s Q u s'
 |.ok _=>False
 |.error e=>CX outer H s E e s'
structure yaO(P:Aa)(w:Ao)(K:AE)(mg:AS->Option AG)(base:BI)(CX:CXT)(k:Nat)(f:AI)(fd:BK)(ps:List AS)(sp:Sp):Prop where
 len:∀vs H Q E,sp vs H Q E->vs.length=ps.length
 run:∀(A:Ay) (outer:List Env) (s:AJ) (H:Hp) (args:Args) (us:List AG) (vs:List V) (Q:VK) (E:XK),yaB k A->yc5 P w K mg base A outer s H->Fb s fd args (ps.zip us)->Vals vs us->sp vs H Q E ->
  codeAny (model P w) A (.call (.ref f) args) (CR CX outer P w H s Q E) s
theorem yaO.imp{P:Aa}{w:Ao}{K:AE}{mg:AS->Option AG}{base:BI}{CX:CXT}{k:Nat}{f:AI}{fd:BK}{ps:List AS}{sp sp':Sp}(F:yaO P w K mg base CX k f fd ps sp)
  (h:∀vs H Q E,sp' vs H Q E->sp vs H Q E):yaO P w K mg base CX k f fd ps sp':=
 ⟨λvs H Q E q=>F.len vs H Q E (h _ _ _ _ q),λA outer s H args us vs Q E hr he hb hv hs=>F.run A outer s H args us vs Q E hr he hb hv (h _ _ _ _ hs)⟩
theorem yc5.make{P:Aa}{w:Ao}{K:AE}{mg:AS->Option AG}{base:BI}{A:Ay}{outer:List Env}{s:AJ}{H:Hp}(e:yc5 P w K mg base A outer s H)(C:AI)(us:List AG)(kw:List (AS×AG)):
  yc5 P w K mg base (A.under (.builtin "type.__call__" ⟨.ref C::us,kw⟩)) outer s H:=⟨by first|exact e.frames|(simpa [GL,Code.envs,GM,pushEnvs] using e.frames),e.mod,e.bs,e.bsz,e.funs,e.frf,e.hok,e.bare⟩
section
variable {X:Cx}{pins:List (AI×CK)}{σ:St}{H:Hp}{s s':AJ}
theorem Inv.env0(I:Inv X pins σ H s):yc5 X.prog X.w X.K X.mg X.base X.A X.stack s H:=
 ⟨I.ok.frames,I.ok.mod,I.bs,B1 I.ok.bsz I.sz,I.stack,I.stkFree,I.hok,I.bare⟩
theorem Inv.after{Q:VK}{u:AG}(I:Inv X pins σ H s)(h:CE X.stack X.prog X.w H s Q u s'):EP X pins σ Q u s':=by
 let⟨v,H',os,bare,un,hok,r,q⟩:=h;let⟨hh,g,d,t,os'⟩:=s';obtain rfl:os'=s.os:=os;exact⟨v,H',I.call (h':=hh) (g':=g) (d':=d) (t':=t) (ch:=[]) un hok bare (λb z=>absurd z (by simp)),r,q⟩
end
def yeX(C:AI)(sp:Sp)(dvs:List V)(E:XK)(t:TA):TE:=λσ H Q=>t σ H λvs H1=>∀x dx,H1 x=AD->H1 dx=AD->dx≠x ->
 sp (.ref x::(vs++dvs)) (upd (upd H1 dx (.own x)) x (.ins C dx [])) (λv H2=>v=.non/\Q (.ref x) H2) E
def Binds(K:AE)(fd:BK)(ps:List AS)(ds:List AG):Prop:=
 ∀(s:AJ) (us:List AG),K.In s.heap->(us++ds).length=ps.length->Fb s fd ⟨us,[]⟩ (ps.zip (us++ds))
theorem Binds.all{K:AE}{fd:BK}{ps:List AS}(h:∀us:List AG,us.length=ps.length->bindArgs fd ⟨us,[]⟩=pure (ps.zip us)):Binds K fd ps []:=λs us _ hl=>by
 rw[BD]at hl ⊢;exact .of_eq (h us hl)
def ybQ(CX:CXT)(X:Cx)(E:XK):Prop:=∀(pins:List (AI×CK)) (σ:St) (H:Hp) (s:AJ) (e:AG) (s':AJ),Inv X pins σ H s->CX X.stack H s E e s'->X.xe e s'
section
variable {X:Cx}{CX:CXT}{k:Nat}{f C:AI}{fd:BK}{ps:List AS}{sp:Sp}{dvs:List V}{ds:List AG}{E:XK}{x m:AS}{p pos apos:C1}{e o:AW}{es:List AW}{ta:TE}{t:TA}
structure Mk(K:AE)(C f:AI):Prop where
 makes:Du K C=AB
 init:BF K (.ref C) "__init__"=AA (AA (.ref f))
 fn:Cw K (.ref f)=AB
 kp:BA K (.ref C)=AB
theorem zkB{pins:List (AI×CK)}{σ:St}{H:Hp}{s:AJ}{Q:VK}{us:List AG}{vs:List V}(M:Mk X.K C f)(F:yaO X.prog X.w X.K X.mg X.base CX k f fd ps sp)(hr:yaB (k+1) X.A)(hb:Binds X.K fd ps ds)(hd:Vals dvs ds)
  (hx:ybQ CX X E) (I:Inv X pins σ H s) (r:Vals vs us)
  (h:∀x dx,H x=AD->H dx=AD->dx≠x->sp (.ref x::(vs++dvs)) (upd (upd H dx (.own x)) x (.ins C dx [])) (λv H2=>v=.non/\Q (.ref x) H2) E):
  A3 (model X.prog X.w) X.A (call (.ref C) us) (EP X pins σ Q) X.xe s:=by
 have hq:=h (s.heap.objs.size+1) s.heap.objs.size (I.hok.fresh (Co _)) (I.hok.fresh (AT _)) (Ar (Da _));have I2:=Inv.made (C:=C) I;have r2:Vals (V.ref (s.heap.objs.size+1)::(vs++dvs)) (An (s.heap.objs.size+1)::(us++ds)):=.cons rfl (r.append hd);have hl:(An (s.heap.objs.size+1)::us++ds).length=ps.length:=by
  have e:=r2.length;rw[F.len _ _ _ _ hq]at e;exact e.symm
 refine Gq (zkg (f:=f) I.kIn M.makes M.init (beq_iff_eq.mp M.fn) (EF (F.run _ X.stack _ _ ⟨An (s.heap.objs.size+1)::us,[]⟩ (An (s.heap.objs.size+1)::(us++ds)) _ _ E (hr.make C us [])
  (I2.env0.make C us []) (hb _ (An (s.heap.objs.size+1)::us) I2.kIn hl) r2 hq) λr s' hq'=>?_))
 cases r with
 |error e=>exact hx pins σ _ _ e s' I2 hq'
 |ok fl=>
  cases fl with
  |ret u=>
   let⟨v,H',I3,rv,ev,q3⟩:=I2.after hq';subst ev;exact⟨rv,⟨V.ref (s.heap.objs.size+1),H',I3,rfl,q3⟩⟩
  |next=>exact Bn hq'
  |brk=>exact Bn hq'
  |cont=>exact Bn hq'
theorem zmN(M:Mk X.K C f)(F:yaO X.prog X.w X.K X.mg X.base CX k f fd ps sp)(hr:yaB (k+1) X.A)(hg:Gl X x)(hm:X.mg x=AA (.ref C))(hb:Binds X.K fd ps ds)(hd:Vals dvs ds)(hx:ybQ CX X E)
  (ha:PA X (e::es) t) (hdb:(x==("__debug__":AS))=false:=by decide) (he:starEach (e::es) X.env=(AC,eval e X.env)::starEach es X.env:=by rfl) (hpl:(backTo pos (starEach es X.env)).any (·.1)=false:=by rfl):
  PE X (.Call (.Name x p) (e::es) [] pos) (yeX C sp dvs E t):=by
 intro pins s σ H Q I h;refine B8 (zdG I hg hm ?_ hdb);refine DJ (h₀:=X.base) I.ok.mod.kin M.kp (thn (ha pos pins s σ H _ I h) λus s1 kq=>?_) he hpl;let⟨vs,H1,I1,r,q⟩:=kq;refine ⟨I1.kIn,?_⟩;exact zkB M F hr hb hd hx I1 r q
end
def PK(X:Cx)(kws:List C8)(t:TA):Prop:=
 ∀(pos:C1) (pins:List (AI×CK)) (s:AJ) (σ:St) (H:Hp) (Q:List V->Hp->Prop),Inv X pins σ H s->t σ H Q->A3 (model X.prog X.w) X.A (evalAll ((backToKw pos (keywordEach kws X.env)).map (·.2))) (AP X pins σ Q) X.xe s
section
variable {X:Cx}{CX:CXT}{k:Nat}{f C:AI}{fd:BK}{ps ks:List AS}{sp:Sp}{E:XK}{x m:AS}{p pos apos kpos:C1}{e o:AW}{es:List AW}{kws:List C8}{te ta:TE}{t tk:TA}{nm:Option AS}
theorem ydx:PK X [] yds:=λ_ _ _ _ H Q I h=>wpAny_evalAll_nil ⟨[],H,I,.nil,h⟩
theorem zlG(ha:PE X e te)(hr:PK X kws t):PK X (⟨nm,e,kpos⟩ :: kws) (ydD te t):=by
 intro pos pins s σ H Q I h;show A3 _ _ (evalAll ((do let v <-eval e X.env;standAt pos;pure v)::(backToKw pos (keywordEach kws X.env)).map (·.2))) _ _ s;refine wpAny_evalAll_cons (AH (thn (ha pins s σ H _ I h) λu s1 kq=>?_));let⟨x,H1,I1,r1,q1⟩:=kq;refine AH (Em (AN ?_));exact thn (hr pos pins s1 σ H1 _ I1 q1) λus s2 ⟨xs,H2,I2,r2,q2⟩=>⟨x::xs,H2,I2,.cons r1 r2,q2⟩
structure ybM(K:AE)(fd:BK)(ps ks:List AS)(g:List AG->List AG->List AG)(gV:List V->List V->List V):Prop where
 to:∀(s:AJ) (us ws:List AG),K.In s.heap->(g us ws).length=ps.length->Fb s fd ⟨us,ks.zip ws⟩ (ps.zip (g us ws))
 rel:∀{vs:List V} {us:List AG} {zs:List V} {ws:List AG},Vals vs us->Vals zs ws->Vals (gV vs zs) (g us ws)
variable {g:List AG->List AG->List AG}{gV:List V->List V->List V}
end
structure ybk(N P:List AS)(sc:Br):Prop where
 kind:sc.kind=.function
 co:sc.isCoroutine=AC
 gen:sc.isGenerator=AC
 nd:N.Nodup
 pre:N.take P.length=P
 par:∀x∈P,sc.names.lookup x=AA .local \/ sc.names.lookup x=AA .cell
 nofree:∀y∈sc.names,y.2 ≠ .free
theorem zeY{kindOf:AS->Option DP}{x:AS}:∀{binds:List (AS×AG)} {m:AS->Option AG},(∀v,(x,v)∉binds)->bindL kindOf binds m x=m x
 |[],_,_=>rfl
 |(n,v)::r,m,h=>by
  unfold bindL;rw[zeY λw hw=>h w (AV _ hw)];split
  .have:x≠n:=by rintro rfl;exact h v As
   simp[this]
  .rfl
theorem zfa{kindOf:AS->Option DP}{x:AS}:∀{binds:List (AS×AG)} {m:AS->Option AG},(∀v,(x,v)∉binds)->bindC kindOf binds m x=m x
 |[],_,_=>rfl
 |(n,v)::r,m,h=>by
  unfold bindC;rw[zfa λw hw=>h w (AV _ hw)];split
  .rfl
  .have:x≠n:=by rintro rfl;exact h v As
   simp[this]
theorem zfo{kindOf:AS->Option DP}{x:AS}{v:AG}:∀{P:List AS} {vs:List AG} {i:Nat} {m:AS->Option AG},P.Nodup->P[i]?=AA x->vs[i]?=AA v->kindOf x=AA .local ->
  bindL kindOf (P.zip vs) m x=AA v
 |[],_,_,_,_,h,_,_=>by simp at h
 |_::_,[],_,_,_,_,h,_=>by simp at h
 |p::P,w::vs,0,m,nd,h1,h2,hk=>by
  simp at h1 h2;subst h1;subst h2;show bindL kindOf ((p,w)::P.zip vs) m p=_;unfold bindL;rw[zeY λv hv=>(Dw.mp nd).1 (FP hv).1,if_pos hk];simp
 |p::P,w::vs,i+1,m,nd,h1,h2,hk=>by
  show bindL kindOf ((p,w)::P.zip vs) m x=_;unfold bindL;exact zfo (i:=i) (Dw.mp nd).2 (by simpa using h1) (by simpa using h2) hk
theorem ze5{kindOf:AS->Option DP}{x:AS}{v:AG}:∀{P:List AS} {vs:List AG} {i:Nat} {m:AS->Option AG},P.Nodup->P[i]?=AA x->vs[i]?=AA v->kindOf x≠AA .local ->
  bindC kindOf (P.zip vs) m x=AA v
 |[],_,_,_,_,h,_,_=>by simp at h
 |_::_,[],_,_,_,_,h,_=>by simp at h
 |p::P,w::vs,0,m,nd,h1,h2,hk=>by
  simp at h1 h2;subst h1;subst h2;show bindC kindOf ((p,w)::P.zip vs) m p=_;unfold bindC;rw[zfa λv hv=>(Dw.mp nd).1 (FP hv).1,if_neg hk];simp
 |p::P,w::vs,i+1,m,nd,h1,h2,hk=>by
  show bindC kindOf ((p,w)::P.zip vs) m x=_;unfold bindC;exact ze5 (i:=i) (Dw.mp nd).2 (by simpa using h1) (by simpa using h2) hk
def start(N:List AS)(vs:List V):St:=vs.map AA++Au (N.length-vs.length) AD
def ya4(CX:CXT)(P:Aa)(w:Ao)(K:AE)(mg:AS->Option AG)(base:BI)(N:List AS)(qual:AS)(scope:Br)(f:AI)(cd:AG)(A:Ay)(outer:List Env)(s:AJ)(H:Hp)(E:XK):Cx where
 prog:=P
 w:=w
 K:=K
 mg:=mg
 base:=base
 A:=A.deeper (envOfC qual scope s.heap.objs.size f cd)
 N:=N
 s₀:=s
 H₀:=H
 env:=envOfC qual scope s.heap.objs.size f cd
 outer:=outer
 stack:=envOfC qual scope s.heap.objs.size f cd::outer
 ex:=[]
 calm:=AB
 fn:=λ_=>AB
 pn:=[]
 xe:=λe s'=>A3 (model P w) (A.deeper (envOfC qual scope s.heap.objs.size f cd)) (leaving (envOfC qual scope s.heap.objs.size f cd) e) (λ_ s''=>CX outer H s E e s'') (λe' s''=>CX outer H s E e' s'') s'
theorem zgg{sc:Br}{n:Nat}{x:AS}(h:sc.names.lookup x=AA .cell):∃c,(cellsFrom n sc.names []).lookup x=AA c:=by
 have q:=FE sc.names n [] (.inl h);exact BE.mp q
theorem zjm{CX:CXT}{P:Aa}{w:Ao}{K:AE}{mg:AS->Option AG}{base:BI}{N ps:List AS}{qual:AS}{scope:Br}{f:AI}{cd:AG}{A:Ay}{outer:List Env}{s s1:AJ}{H:Hp}{E:XK}{us:List AG}{vs:List V}
  (S:ybk N ps scope) (hd:A.handled=AD) (e0:yc5 P w K mg base A outer s H) (hl:vs.length=ps.length) (r:Vals vs us)
  (x:InCallC s s.heap.objs.size (bindL (envOfC qual scope s.heap.objs.size f cd).kindOf (ps.zip us) λ_=>AD) (cellsFrom (s.heap.objs.size+1) scope.names []) (bindC (envOfC qual scope s.heap.objs.size f cd).kindOf (ps.zip us) λ_=>AD) s1):
  Inv (ya4 CX P w K mg base N qual scope f cd A outer s H E) [] (start N vs) H s1:=by
 have hpl:ps.length<=N.length:=by have:=congrArg Cc S.pre;rw[Eu]at this;lia
 let⟨h1,tk,rfl,hk⟩:=x.done;have noA:∀b:AI,b∉(ya4 CX P w K mg base N qual scope f cd A outer s H E).ex:=λb z=>absurd (show b∈([]:List AI)from z) (by simp);refine⟨⟨e0.mod,S.kind,rfl,rfl,AT _,λy z c h1 h2=>?_,λy hy=>?_,λy c _ h=>?_,λ_=>hd,Around.frames_deeper e0.frames,.inr ⟨rfl,rfl⟩,λb z=>absurd z (noA b),e0.bs,e0.bsz,λb _ _=>noA b,λb z=>absurd z (noA b),e0.funs,e0.frf⟩,
  rfl,e0.bare,Un.kept hk,⟨_,x.toInCall.ns,λi y v h1 h2 h3=>?_⟩,λy c h=>⟨_,x.cell y c h⟩,e0.hok.fresh (AT _),λy c h=>?_,λp hp=>absurd (show p∈([]:List (AI×CK))from hp) (by simp),e0.hok.kept hk,?_⟩
 .exact name_of_addr x.apart (C9 h1) (C9 h2)
 .have hy:scope.names.lookup y=AA .cell \/ scope.names.lookup y=AA .free:=hy;rcases hy with hy|hy
  .exact zgg hy
  .exact absurd rfl (S.nofree _ (C9 hy))
 .exact FB (x.above y c (C9 h))
 .have hi:i<vs.length:=by
   unfold start at h2
   by_cases hi:i<vs.length
   .exact hi
   .rw[Av (by simpa using hi)]at h2;rw[Ew]at h2;split at h2<;>cases h2
  have ha:vs[i]?=AA v:=by
   unfold start at h2;rw[Am (by simpa using hi),Bt]at h2
   cases e:vs[i]? with
   |none=>rw[e]at h2;cases h2
   |some a=>rw[e]at h2;cases h2;rfl
  let⟨u,hu,rv⟩:=r.get ha;have hp:ps[i]?=AA y:=by
   rw[<-S.pre,List.getElem?_take_of_lt (by lia)];exact h1
  have ndP:ps.Nodup:=by rw[<-S.pre];exact S.nd.sublist (List.take_sublist _ _)
  refine⟨u,rv,?_⟩;rcases S.par y (A5 hp)with k|k
  .exact .inl ⟨k,zfo ndP hp hu k⟩
  .let⟨c,e⟩:=zgg (n:=s.heap.objs.size+1) k;refine .inr ⟨.inl k,c,e,?_⟩;have q:=x.cell y c e;rw[ze5 ndP hp hu (by show scope.names.lookup y≠_;rw[k];decide)]at q;exact q
 .exact e0.hok.fresh (FB (x.above y c (C9 h)))
 .unfold start;show _=N.length;rw[Af,Ap,List.length_replicate];lia
theorem zpP{CX:CXT}{P:Aa}{w:Ao}{K:AE}{mg:AS->Option AG}{base:BI}{k:Nat}{f:AI}{name qual:AS}{params:Arguments}{body:List CF}{scope:Br}{dV kV doc pm cdv ct oc:AG}{an od:Option AI}
  {osl:Array (Option AG)} {N ps:List AS} {sp:Sp} (lk:K.lookup f=AA ⟨oc,od,.func (Bb name qual params body scope dV kV doc pm an cdv ct),osl⟩) (hcd:CT K cdv qual=AB) (S:ybk N ps scope)
  (len:∀vs H Q E,sp vs H Q E->vs.length=ps.length)
  (hbody:∀(A:Ay) (outer:List Env) (s:AJ) (H:Hp) (vs:List V) (Q:VK) (E:XK),yaB k (A.deeper (envOfC qual scope s.heap.objs.size f cdv))->sp vs H Q E ->
   ∃t,PSs (ya4 CX P w K mg base N qual scope f cdv A outer s H E) body t/\t {nx:=λ_ H'=>Q .non H',rt:=Q} (start N vs) H):
  yaO P w K mg base CX (k+1) f (Bb name qual params body scope dV kV doc pm an cdv ct) ps sp:=by
 refine⟨len,λA outer s H args us vs Q E hr e0 hb r hsp=>?_⟩;have hl:=len _ _ _ _ hsp;have KX:K.In s.heap:=e0.mod.kin.keeps λb o e=>(e0.bs b o e).1;have lim:s.heap.NoLimit:=e0.mod.nolimit.keeps λb o e=>(e0.bs b o e).1;have hkind:∀y∈ps.zip us,scope.names.lookup y.1=AA .local \/ (scope.names.lookup y.1=AA .cell/\((cellsFrom (s.heap.objs.size+1) scope.names []).lookup y.1).isSome=AB):=λ⟨n,v⟩ hy=>by
  rcases S.par n (FP hy).1 with q|q
  .exact .inl q
  .exact .inr ⟨q,FE _ _ _ (.inl q)⟩
 refine codeAny_call_function hr.depth (KX _ _ lk) rfl S.co S.gen rfl (PySem.W.codeRec_of KX hcd) (hb _ _ _ _ ?_);refine wpAny_newFunctionEnv_cells S.kind hkind λenv he s1 x=>?_;subst he;refine⟨lim.keeps x.toInCall.keep,codeAny_func ?_⟩;let⟨t,ht,hq⟩:=hbody A outer s H vs Q E (hr.deeper _) hsp;have I:Inv (ya4 CX P w K mg base N qual scope f cdv A outer s H E) [] (start N vs) H s1:=zjm S hr.hd e0 hl r x;refine C4 (ht [] s1 (start N vs) H _ I hq) (λfl s' hs=>?_) λe s' hs=>hs;have fin:∀{σ':St} {H':Hp} {v:V} {u:AG},Inv (ya4 CX P w K mg base N qual scope f cdv A outer s H E) [] σ' H' s'->RelV v u->Q v H'->CE outer P w H s Q u s':=
  λ{σ' H' v u} J rv q=>⟨v,H',J.os,J.bare,J.base,J.hok,rv,q⟩
 cases fl with
 |ret u=>
  let⟨v,σ',H',J,rv,q⟩:=hs;exact fin J rv q
 |next=>
  let⟨σ',H',J,q⟩:=hs;exact fin (v:=V.non) (u:=CQ) J rfl q
 |brk=>
  let⟨_,_,_,q⟩:=hs;exact Bn q
 |cont=>
  let⟨_,_,_,q⟩:=hs;exact Bn q
section
variable {X:Cx}{x:AS}{p pos:C1}{e:AW}{es:List AW}{t:TA}{id T:String}{r:List V->Hp->VK->Prop}
def tCB(r:List V->Hp->VK->Prop)(t:TA):TE:=λσ H Q=>t σ H λvs H1=>r vs H1 Q
theorem zgE(hc:yat X (.builtin id) r)(hg:Gl X x)(hm:X.mg x=AD)(hv:bootBuiltins x=AA (.builtin id))(ha:PA X (e::es) t)(hn:x ≠ "__name__":=by decide)(hdb:(x==("__debug__":AS))=false:=by decide)
  (he:starEach (e::es) X.env=(AC,eval e X.env)::starEach es X.env:=by rfl) (hpl:(backTo pos (starEach es X.env)).any (·.1)=false:=by rfl):PE X (.Call (.Name x p) (e::es) [] pos) (tCB r t):=by
 intro pins s σ H Q I h;refine B8 (zdZ I hg hm hv ?_ hn hdb);exact G1 (thn (ha pos pins s σ H _ I h) λus s1 ⟨vs,H1,I1,r1,q1⟩=>hc pins s1 σ H1 vs us Q I1 r1 q1) he hpl
theorem zhw(hc:yat X (.type T) r)(hg:Gl X x)(hm:X.mg x=AD)(hv:bootBuiltins x=AA (.type T))(ha:PA X (e::es) t)(hn:x ≠ "__name__":=by decide)(hdb:(x==("__debug__":AS))=false:=by decide)
  (he:starEach (e::es) X.env=(AC,eval e X.env)::starEach es X.env:=by rfl) (hpl:(backTo pos (starEach es X.env)).any (·.1)=false:=by rfl):PE X (.Call (.Name x p) (e::es) [] pos) (tCB r t):=by
 intro pins s σ H Q I h;refine B8 (zdZ I hg hm hv ?_ hn hdb);exact CM (thn (ha pos pins s σ H _ I h) λus s1 ⟨vs,H1,I1,r1,q1⟩=>hc pins s1 σ H1 vs us Q I1 r1 q1) he hpl
end
end L2
namespace HT
open PySem PyProof.Rows
section
open PySem.SeqAt
open PySem.AutoSeq1 (wpAny_loadPart')
open PySem.MeetsSeq PySem.MeetsSeq2 PySem.MeetsSeq3
end
section
variable {prog:Aa}{w:Ao}{A:Ay}{E:AG->AJ->Prop}{s:AJ}
theorem cat_tup{t b:AI}{vs ws:List AG}{Q:AG->AJ->Prop}(ht:HG s.heap t vs.toArray)(hb:HG s.heap b ws.toArray)(hv:vs≠[])
  (h1:ws=[]->Q (.ref t) s) (h2:ws≠[]->Q (.ref s.heap.objs.size) {s with heap:=s.heap.push {cls:=.type "tuple",data:=.seq (vs++ws).toArray} })
  (hsz:vs.length+ws.length<=sizeLine):A3 (model prog w) A (binaryOp .Add (.ref t) (.ref b)) Q E s:=by
 let⟨⟨cls,dd,data,sl⟩,ho,hc,n,hd⟩:=id ht;let⟨⟨cls2,dd2,data2,sl2⟩,ho2,hc2,n2,hd2⟩:=id hb;simp only at hc hd hc2 hd2;subst hc hd hc2 hd2;have e:vs.toArray++ws.toArray=(vs++ws).toArray:=by simp
 by_cases hw:ws=[]
 .exact GO ⟨_,ho,rfl⟩ ⟨_,ho2,rfl⟩ Ex Fk DQ DM (DF _ _)
   (tuple_addW1 t b vs.toArray ws.toArray n n2 dd dd2 sl sl2 (by simpa using hv) (by simp[hw])) ⟨ho,ho2,h1 hw⟩
 .refine GO ⟨_,ho,rfl⟩ ⟨_,ho2,rfl⟩ Ex Fk DQ DM (DF _ _)
   (tuple_addW2 t b vs.toArray ws.toArray n n2 dd dd2 sl sl2 (by simpa using hv) (by simpa using hw) (by rw[AY,AY];exact hsz)) ⟨ho,ho2,?_⟩
  rw[e];exact h2 hw
def sIx(n d:Nat):Option Int->Nat
 |none=>d
 |some v=>if v<0 then(v+(n:Int)).toNat else min v.toNat n
theorem sIx_le(n d:Nat)(hd:d<=n)(o:Option Int):sIx n d o<=n:=by
 cases o with
 |none=>exact hd
 |some v=>
  show (if v<0 then(v+(n:Int)).toNat else min v.toNat n)<=n
  by_cases hv:v<0
  .rw[if_pos hv];lia
  .rw[if_neg hv];exact Nat.min_le_right _ _
theorem ziG(v:Int)(n d:Nat):(if v<0 then max (v+(n:Int)) 0 else min v (n:Int))=((sIx n d (AA v):Nat):Int):=by
 show (if v<0 then max (v+(n:Int)) 0 else min v (n:Int))=(((if v<0 then(v+(n:Int)).toNat else min v.toNat n):Nat):Int)
 by_cases hv:v<0
 .simp only[if_pos hv];lia
 .simp only[if_neg hv];lia
theorem zgK(lo hi:Option Int)(n:Nat):DB lo hi 1 (n:Int)=(((sIx n 0 lo:Nat):Int),((sIx n n hi:Nat):Int)):=by
 have h1:¬((1:Int)<0):=by lia
 unfold DB;erw[h1,if_false];refine Prod.ext ?_ ?_
 .cases lo with
  |none=>rfl
  |some v=>exact ziG v n 0
 .cases hi with
  |none=>rfl
  |some v=>exact ziG v n n
theorem zhb(i j:Nat):BZ (i:Int) (j:Int) 1=j-i:=by
 unfold BZ;have h1:(1:Int) > 0:=by lia
 erw[h1,if_true,EG];split<;>lia
theorem zeg{v:AG}{o:Option Int}{Q:Option Int->AJ->Prop}(p:FF v o)(h:Q o s):A3 (model prog w) A (Gg v) Q E s:=by
 cases p with
 |none=>exact ES h
 |int i t=>exact slicePart_int h
theorem sliceApplied_gen{sl:AI}{vl vu:AG}{lo hi:Option Int}{n:Nat}{Q:Int×Int×Nat->AJ->Prop}(hs:s.heap.IsSliceOf sl vl vu .none)(pl:FF vl lo)(pu:FF vu hi)
  (h:Q (((sIx n 0 lo:Nat):Int),1,sIx n n hi-sIx n 0 lo) s):A3 (model prog w) A (CU (.ref sl) (pure (n:Int))) Q E s:=by
 let⟨os,hos,hcs,hds⟩:=id hs;unfold CU E9;refine AH (AH (BS hos hds (x:=vl) rfl (AH (BS hos hds (x:=vu) rfl (AH (BS hos hds (x:=.none) rfl (AN ?_)))))));refine AH (ES ?_);show A3 _ _ (if ((1:Int)==0)=AB then _ else _) _ _ s;rw[if_neg (by decide)];refine AH (zeg pl (AH (zeg pu (AH (AN ?_)))));show A3 _ _ (match DB lo hi 1 (n:Int)with|(lo,hi)=>pure (lo,(1:Int),BZ lo hi 1)) _ _ s;rw[zgK lo hi n];show A3 _ _ (pure (((sIx n 0 lo:Nat):Int),(1:Int),BZ ((sIx n 0 lo:Nat):Int) ((sIx n n hi:Nat):Int) 1)) _ _ s;rw[zhb];exact AN h
theorem zjM(xs:Array AG)(i k:Nat):((CS k).filterMap λ(m:Nat)=>xs[((i:Int)+(m:Int)*1).toNat]?).toArray=((xs.toList.drop i).take k).toArray:=by
 have e:(λ(m:Nat)=>xs[((i:Int)+(m:Int)*1).toNat]?)=λm=>xs[i+m]?:=by
  funext m
  have:((i:Int)+(m:Int)*1).toNat=i+m:=by lia
  rw[this]
 rw[e];have:=pick_run xs i k;rw[List.filterMap_map]at this;have e2:((λx=>xs[x]?) ∘ λx=>i+x)=λm=>xs[i+m]?:=rfl;rw[e2]at this;rw[this]
theorem getItem_tuple_cut{t sl:AI}{items:Array AG}{vl vu:AG}{lo hi:Option Int}{Q:AG->AJ->Prop}(ht:HG s.heap t items)(hs:s.heap.IsSliceOf sl vl vu .none)(pl:FF vl lo)(pu:FF vu hi)
  (hw:¬(sIx items.size 0 lo=0/\sIx items.size items.size hi=items.size))
  (h:Q (.ref s.heap.objs.size) {s with heap:=s.heap.push {cls:=.type "tuple",data:=.seq ((items.toList.drop (sIx items.size 0 lo)).take (sIx items.size items.size hi-sIx items.size 0 lo)).toArray} })
  (hsz:items.size<=sizeLine):A3 (model prog w) A (getItem (.ref t) (.ref sl)) Q E s:=by
 have htake:sizeOk (.seq ((items.toList.drop (sIx items.size 0 lo)).take (sIx items.size items.size hi-sIx items.size 0 lo)).toArray):=by
  show ((items.toList.drop (sIx items.size 0 lo)).take (sIx items.size items.size hi-sIx items.size 0 lo)).toArray.size<=sizeLine;rw[AY,Eu,G2,CL];lia
 have hj:sIx items.size items.size hi<=items.size:=sIx_le _ _ (AT _) hi;let⟨os,hos,hcs,hds⟩:=id hs;have hTs:s.TypeIs (.ref sl) "slice":=⟨os,hos,hcs⟩;unfold getItem
 try with_reducible refine DE ?_
 first|refine AH (AN ?_)|skip
 refine AH (Eg ht.typeIs (by decide) ?_);refine AH (B6 (name:=AF "__getitem__") ht.typeIs Al
  (CN Al ht.typeIs EC ?_ (ET _ _)))
 show A3 _ _ (Cp (.ref t) >>= _) _ _ s;refine AH (Ea ht ?_);refine AH (FG hTs ?_);rw[if_pos (by decide)];refine AH (sliceApplied_gen hs pl pu ?_);have hno:¬((((sIx items.size 0 lo:Nat):Int)==0&&(1:Int)==1&&(sIx items.size items.size hi-sIx items.size 0 lo)==items.size)=AB):=by
  intro q;rw[AK,AK]at q;have q1:((sIx items.size 0 lo:Nat):Int)=0:=eq_of_beq q.1.1;have q2:sIx items.size items.size hi-sIx items.size 0 lo=items.size:=eq_of_beq q.2;exact hw ⟨by lia,by lia⟩
 show A3 _ _ (if (((sIx items.size 0 lo:Nat):Int)==0&&(1:Int)==1&&(sIx items.size items.size hi-sIx items.size 0 lo)==items.size)=AB then _ else _) _ _ s;rw[if_neg hno,zjM]
 first
  |exact AH (m:=BU _) (BQ (AN ⟨_,rfl,AN h⟩) htake)
  |exact AH (m:=BU _) (BQ (AH (AN (AN ⟨_,rfl,AN h⟩))) htake)
  |exact AH (AH (m:=BU _) (BQ (AN (AN ⟨_,rfl,AN h⟩)) htake))
  |exact AH (AH (m:=BU _) (BQ (AN ⟨_,rfl,AN h⟩) htake))
end
end HT
namespace L2
open PySem PySem.Spec PyProof.Rows
abbrev TO:=St->Hp->(Option Int->Hp->Prop)->Prop
def PO(X:Cx)(e:Option AW)(t:TO):Prop:=
 ∀(pins:List (AI×CK)) (s:AJ) (σ:St) (H:Hp) (Q:Option Int->Hp->Prop),Inv X pins σ H s->t σ H Q ->
  A3 (model X.prog X.w) X.A (evalPart e X.env) (λu s'=>∃o H',Inv X pins σ H' s'/\FF u o/\Q o H') X.xe s
def ycI:TO:=λ_ H Q=>Q AD H
theorem zd8{ns:List Int}:∀{us:List AG},Vals (ns.map V.int) us->FH us ns:=by
 induction ns with
 |nil=>intro us r;rw[Ak]at r;cases r;exact .nil
 |cons n ns ih=>
  intro us r;rw[AL]at r
  cases r with
  |cons r1 r2=>
   let⟨t,e⟩:=r1;subst e;exact .cons n t (ih r2)
section
variable {X:Cx}{e:AW}{te:TE}{lo hi:Option AW}{tl th:TO}{pos p2:C1}
theorem zms:PO X AD ycI:=by
 intro pins s σ H Q I h;rw[Fm];exact AN ⟨AD,H,I,.none,h⟩
def SlR(X:Cx)(r:V->Option Int->Option Int->Hp->VK->Prop):Prop:=
 ∀(pins:List (AI×CK)) (s:AJ) (σ:St) (H:Hp) (x:V) (v vl vu:AG) (lo hi:Option Int) (sl:AI) (Q:VK),Inv X pins σ H s->RelV x v->s.heap.IsSliceOf sl vl vu .none->FF vl lo->FF vu hi->r x lo hi H Q ->
  ∃T id,typeLookup (.type T) "__getitem__"=pure (AA (.builtin id))/\s.TypeIs v T/\A3 (model X.prog X.w) X.A (getItem v (.ref sl)) (EP X pins σ Q) X.xe s
def tSl(r:V->Option Int->Option Int->Hp->VK->Prop)(te:TE)(tl th:TO):TE:=λσ H Q=>te σ H λx H1=>tl σ H1 λl H2=>th σ H2 λu H3=>r x l u H3 Q
theorem zjC{r:V->Option Int->Option Int->Hp->VK->Prop}(hr:SlR X r)(he:PE X e te)(hl:PO X lo tl)(hu:PO X hi th):PE X (.Subscript e (.Slice lo hi AD p2) pos) (tSl r te tl th):=by
 intro pins s σ H Q I h;refine Fz (thn (he pins s σ H _ I h) λv s1 kq=>?_);let⟨x,H1,I1,r1,q1⟩:=kq;refine wpAny_Slice (thn (hl pins s1 σ H1 _ I1 q1) λvl s2 kq=>?_);let⟨l,H2,I2,pl,q2⟩:=kq;refine thn (hu pins s2 σ H2 _ I2 q2) λvu s3 kq=>?_;let⟨u,H3,I3,pu,q3⟩:=kq;rw[Fm];refine AN ?_;have I4:Inv X pins σ H3 {s3 with heap:=s3.heap.push {cls:=.type "slice",data:=.fields #[vl,vu,.none]} }:=I3.kept (t':=s3.toks) λb ob q=>AM _ q;let⟨T,id,hT,ht,hg⟩:=hr pins {s3 with heap:=s3.heap.push {cls:=.type "slice",data:=.fields #[vl,vu,.none]} } σ H3 x v vl vu l u s3.heap.objs.size Q I4 r1 (EU ..) pl pu q3;show A3 (model X.prog X.w) X.A (subscriptTail e (.Slice lo hi AD p2) v (.ref s3.heap.objs.size)) (EP X pins σ Q) X.xe {s3 with heap:=s3.heap.push {cls:=.type "slice",data:=.fields #[vl,vu,.none]} };exact Gr (ops:=[.ref s3.heap.objs.size,v]) ht hT hg (by ac_rfl)
def ycv(xs:List V)(lo hi:Option Int):List V:=(xs.drop (HT.sIx xs.length 0 lo)).take (HT.sIx xs.length xs.length hi-HT.sIx xs.length 0 lo)
theorem zde(xs:List V)(lo hi:Option Int):(ycv xs lo hi).length<=xs.length:=by
 unfold ycv;rw[Eu,G2];lia
def yfG(K:AE):V->Option Int->Option Int->Hp->VK->Prop:=λx lo hi H Q=>∃a xs,x=.ref a/\SqT K H a xs /\
 ¬(HT.sIx xs.length 0 lo=0/\HT.sIx xs.length xs.length hi=xs.length)/\∀p,H p=AD->Q (.ref p) (upd H p (.tup (ycv xs lo hi)))
theorem znA:SlR X (yfG X.K):=by
 intro pins s σ H x v vl vu lo hi sl Q I rx hs pl pu h;let⟨a,xs,rfl,hx,hw,q⟩:=h
 cases rx
 let⟨its,r,ht,hz⟩:=I.tuple hx;have hlen:its.toArray.size=xs.length:=by rw[AY];exact r.length.symm
 refine⟨"tuple",_,Al.lookup,ht.typeIs,?_⟩;refine HT.getItem_tuple_cut ht hs pl pu (by rw[hlen];exact hw) ?_ (by rw[hlen];exact hz);rw[hlen];refine⟨.ref s.heap.objs.size,_,I.laid (t':=s.toks) (o:=.tup (ycv xs lo hi)) (λb ob q=>AM _ q) (AT _) ?_,rfl,q _ (I.hok.fresh (AT _))⟩;exact⟨B1 (zde xs lo hi) hz,_,(r.drop (HT.sIx xs.length 0 lo)).take (HT.sIx xs.length xs.length hi-HT.sIx xs.length 0 lo),Fa _ _⟩
def yel(K:AE):R2:=λx y H Q=>∃a b xs ys,x=.ref a/\y=.ref b/\SqT K H a xs/\SqT K H b ys/\xs≠[]/\xs.length+ys.length<=sizeLine /\
 (ys=[]->Q (.ref a) H)/\(ys≠[]->∀p,H p=AD->Q (.ref p) (upd H p (.tup (xs++ys))))
theorem Vals.nil_iff{xs:List V}{us:List AG}(r:Vals xs us):us=[] ↔ xs=[]:=by
 cases r with
 |nil=>simp
 |cons _ _=>simp
theorem zma:OpR X (binaryOp .Add) (yel X.K):=by
 intro pins s σ H x y v u Q I rx ry h;let⟨a,b,xs,ys,rfl,rfl,ha,hb,hx,hz,q1,q2⟩:=h
 cases rx
 cases ry
 let⟨its,r1,p1,_⟩:=I.tuple ha;let⟨its2,r2,p2,_⟩:=I.tuple hb;refine HT.cat_tup p1 p2 (λz=>hx (r1.nil_iff.mp z)) (λz=>⟨.ref a,H,I,rfl,q1 (r2.nil_iff.mp z)⟩) (λz=>?_) (by rw[<-r1.length,<-r2.length];exact hz);refine⟨.ref s.heap.objs.size,_,I.laid (t':=s.toks) (o:=.tup (xs++ys)) (λb ob q=>AM _ q) (AT _) ?_,rfl,q2 (λw=>z (r2.nil_iff.mpr w)) _ (I.hok.fresh (AT _))⟩;exact⟨by rw[Af];exact hz,_,r1.append r2,Fa _ _⟩
end
def ixN(n:Nat)(i:Int):Option Nat:=if 0<=i then(if i<n then AA i.toNat else AD)else if -(n:Int)<=i then AA (i+n).toNat else AD
def atI{α:Type}(xs:List α)(i:Int):Option α:=(ixN xs.length i).bind λj=>xs[j]?
theorem zhg{n:Nat}{i:Int}{j:Nat}(h:ixN n i=AA j):seqIndex? i n=AA j/\j<n/\-(n:Int)<=i/\i<n:=by
 unfold ixN at h
 by_cases h0:0<=i
 .rw[if_pos h0]at h
  by_cases h1:i<n
  .rw[if_pos h1]at h;have e:i.toNat=j:=AZ h;exact⟨by rw[Gd h0 h1,e],by lia,by lia,h1⟩
  .rw[if_neg h1]at h;cases h
 .rw[if_neg h0]at h
  by_cases h1:-(n:Int)<=i
  .rw[if_pos h1]at h;have e:(i+n).toNat=j:=AZ h;exact⟨by rw[seqIndex_neg (by lia) h1,e],by lia,h1,by lia⟩
  .rw[if_neg h1]at h;cases h
theorem zfP{α:Type}{xs:List α}{i:Int}{v:α}(h:atI xs i=AA v):∃j,seqIndex? i xs.length=AA j/\xs[j]?=AA v/\j<xs.length/\-(xs.length:Int)<=i/\i<xs.length:=by
 unfold atI at h
 cases e:ixN xs.length i with
 |none=>rw[e]at h;cases h
 |some j=>
  rw[e]at h;let⟨h1,h2,h3,h4⟩:=zhg e;exact⟨j,h1,h,h2,h3,h4⟩
def ybG(b:AW):Prop:=∀o i,subscripted b AC o i=operate [o,i] (getItem o i)
def IxR(X:Cx)(r:R2):Prop:=
 ∀(value slice:AW) (pins:List (AI×CK)) (s:AJ) (σ:St) (H:Hp) (x y:V) (v u:AG) (Q:VK),Inv X pins σ H s->RelV x v->RelV y u->r x y H Q ->
  subscripted slice AC v u=operate [v,u] (getItem v u)->A3 (model X.prog X.w) X.A (subscriptTail value slice v u) (EP X pins σ Q) X.xe s
def MtR(X:Cx)(id:String)(r:V->List V->Hp->VK->Prop):Prop:=
 ∀(pins:List (AI×CK)) (s:AJ) (σ:St) (H:Hp) (x:V) (xs:List V) (v:AG) (us:List AG) (Q:VK),Inv X pins σ H s->RelV x v->Vals xs us->r x xs H Q ->
  A3 (model X.prog X.w) X.A (call (.builtin id) (v::us)) (EP X pins σ Q) X.xe s
section
variable {X:Cx}{a b:AW}{ta tb:TE}{pos:C1}
theorem IxR.or{r r':R2}(h:IxR X r)(h':IxR X r'):IxR X (λx y H Q=>r x y H Q \/ r' x y H Q):=by
 intro value slice pins s σ H x y v u Q I rx ry q hs;rcases q with q|q
 .exact h value slice pins s σ H x y v u Q I rx ry q hs
 .exact h' value slice pins s σ H x y v u Q I rx ry q hs
theorem zpX{r:R2}(hr:IxR X r)(ha:PE X a ta)(hb:PE X b tb)(hs:ybG b):PE X (.Subscript a b pos) (tOp r ta tb):=by
 intro pins s σ H Q I h;exact Fz (yeY ha hb I h λv u s2 x y H2 I2 rx ry q=>hr a b pins s2 σ H2 x y v u Q I2 rx ry q (hs _ _))
def yfu(K:AE):R2:=λx y H Q=>∃p xs i v,x=.ref p/\y=.int i/\SqL K H p xs/\atI xs i=AA v/\Q v H
def yfx(K:AE):R2:=λx y H Q=>∃p xs i v,x=.ref p/\y=.int i/\SqT K H p xs/\atI xs i=AA v/\Q v H
def yfq:R2:=λx y H Q=>∃z i c,x=.str z/\y=.int i/\z.length<=sizeLine/\atI z.cps.toList i=AA c/\Q (.str ⟨#[c]⟩) H
theorem yc0:IxR X (yfu X.K):=by
 intro value slice pins s σ H x y v u Q I rx ry h hs;let⟨p,xs,i,z,rfl,rfl,hq,he,q⟩:=h
 cases rx
 let⟨t,rfl⟩:=ry;let⟨its,r,pl,hz⟩:=I.list hq;let⟨j,h1,h2,h3,h4,h5⟩:=zfP he;let⟨w,ew,rw'⟩:=r.get h2;have hl:=r.length;have hn:=yaU;have fin:EP X pins σ Q w s:=⟨z,H,I,rw',q⟩
 by_cases h0:0<=i
 .have hj:i.toNat=j:=by
   rw[Gd h0 h5]at h1;exact AZ h1
  exact item_listR pl.isList h0 (by lia) (by rw[hj];simpa using ew) fin hs
 .have hj:(i+(its.toArray.size:Int)).toNat=j:=by
   rw[seqIndex_neg (by lia) h4]at h1;rw[AY,<-hl];exact AZ h1
  exact FI (x:=w) pl.isList.typeIs Eh.lookup
   (wpAny_getItem_list_neg (Q:=λr s'=>r=w/\EP X pins σ Q r s') pl.isList (by lia) (by rw[AY]<;>lia) (by lia) (by rw[hj];simpa using ew) ⟨rfl,fin⟩) hs
theorem ydL:IxR X (yfx X.K):=by
 intro value slice pins s σ H x y v u Q I rx ry h hs;let⟨p,xs,i,z,rfl,rfl,hq,he,q⟩:=h
 cases rx
 let⟨t,rfl⟩:=ry;let⟨its,r,pl,hz⟩:=I.tuple hq;let⟨j,h1,h2,h3,h4,h5⟩:=zfP he;let⟨w,ew,rw'⟩:=r.get h2;have hl:=r.length;have hn:=yaU;have fin:EP X pins σ Q w s:=⟨z,H,I,rw',q⟩;exact FI (x:=w) pl.typeIs Al.lookup
  (getItem_tuple (j:=j) (Q:=λr s'=>r=w/\EP X pins σ Q r s') pl (by lia) (by lia) (by rw[AY,<-hl];exact h1) (by simpa using ew) ⟨rfl,fin⟩) hs
theorem zoT:IxR X yfq:=by
 intro value slice pins s σ H x y v u Q I rx ry h hs;let⟨z,i,c,rfl,rfl,hz,he,q⟩:=h;let⟨t,rfl⟩:=rx;let⟨t',rfl⟩:=ry;let⟨j,h1,h2,h3,h4,h5⟩:=zfP he;have hl:z.cps.toList.length=z.length:=by simp[Str.length]
 rw[hl]at h1 h4 h5;have hn:=yaU;exact Gr (Gu s z t) slot_str_getitem.lookup (getItem_str (c:=c) (by
  have e1:decide (i < -(2^63:Int))=false:=decide_eq_false (by lia);have e2:decide (i ≥ 2^63)=false:=decide_eq_false (by lia);rw[e1,e2,HD]) (by rw[h1];simpa using h2) ⟨.str ⟨#[c]⟩,H,I.tok _,⟨_,rfl⟩,q⟩) hs
def rIx(K:AE):R2:=λx y H Q=>yfu K x y H Q \/ yfx K x y H Q \/ yfq x y H Q
theorem zgv:IxR X (rIx X.K):=yc0.or (ydL.or zoT)
theorem zgL(its:List AG)(n j:Nat)(u:AG):FJ (·.setIfInBounds j u) {cls:=.type "list",data:=.seq its.toArray n}={cls:=.type "list",data:=.seq (its.set j u).toArray n}:=by
 simp[FJ]
theorem Inv.lst{pins:List (AI×CK)}{σ:St}{H:Hp}{s:AJ}{p:AI}{xs:List V}(I:Inv X pins σ H s)(h:H p=AA (.lst xs)):
  ∃(its:List AG) (n:Nat),Vals xs its/\s.heap.get? p=AA {cls:=.type "list",data:=.seq its.toArray n}/\xs.length<=sizeLine:=by
 let⟨z,its,n,r,e⟩:=I.hok p _ h;exact⟨its,n,r,e,z⟩
theorem Inv.lstUpd{pins:List (AI×CK)}{σ:St}{H:Hp}{s:AJ}{p:AI}{xs ys:List V}{its its':List AG}{n n':Nat}{f:CK->CK}(I:Inv X pins σ H s)(h:H p=AA (.lst xs))
  (ho:s.heap.get? p=AA {cls:=.type "list",data:=.seq its.toArray n}) (hf:f {cls:=.type "list",data:=.seq its.toArray n}={cls:=.type "list",data:=.seq its'.toArray n'}) (r:Vals ys its') (hz:ys.length<=sizeLine) (t:Nat):
  Inv X pins σ (upd H p (.lst ys)) {s with heap:=s.heap.update p f,toks:=t}:=by
 have e:(s.heap.update p f).get? p=AA {cls:=.type "list",data:=.seq its'.toArray n'}:=by
  rw[FU f ho (by rw[hf]<;>rfl),hf]
 refine I.write (x:=p) (e:=p) (by rw[h];trivial) (.inl rfl) (λb u hb q=>(DR _ _ (BP hb)).trans q) ⟨_,e⟩ ?_;exact⟨hz,its',n',r,e⟩
def ydI:V->V->V->Hp->(Hp->Prop)->Prop:=λo i v H Q=>∃p xs k j,o=.ref p/\i=.int k/\H p=AA (.lst xs)/\ixN xs.length k=AA j/\Q (upd H p (.lst (xs.set j v)))
theorem zf7:ye5 X ydI:=by
 intro pins s σ H o i v ov iv u Q I ro ri rv h;let⟨p,xs,k,j,rfl,rfl,hp,hj,q⟩:=h
 cases ro
 let⟨t,rfl⟩:=ri;let⟨its,n,r,ho,hz⟩:=I.lst hp;let⟨h1,h2,h3,h4⟩:=zhg hj;have hl:=r.length;have hn:=yaU;have I':Inv X pins σ (upd H p (.lst (xs.set j v))) {s with heap:=s.heap.update p (FJ (·.setIfInBounds j u))}:=
  I.lstUpd hp ho (zgL its n j u) (r.set rv j) (by rw[Ba];exact hz) s.toks
 by_cases h0:0<=k
 .have hk:k.toNat=j:=by
   rw[Gd h0 h4]at h1;exact AZ h1
  exact PySem.W.ki_setAt ho h0 (by lia) (by rw[AY,<-hl];exact h4) (by rw[hk];exact⟨_,I',q⟩)
 .have hk:(k+(its.toArray.size:Int)).toNat=j:=by
   rw[seqIndex_neg (by lia) h3]at h1;rw[AY,<-hl];exact AZ h1
  exact PySem.W.ki_setBack ho (by lia) (by rw[AY,<-hl];exact h3) (by lia) (by rw[hk];exact⟨_,I',q⟩)
theorem zfm(lo hi:Option Int)(n:Nat):(sliceBounds lo hi AD n).1=((HT.sIx n 0 lo:Nat):Int)/\(sliceBounds lo hi AD n).2.1=((HT.sIx n n hi:Nat):Int)/\(sliceBounds lo hi AD n).2.2=1:=by
 refine⟨?_,?_,rfl⟩
 .cases lo with
  |none=>simp[sliceBounds,HT.sIx]
  |some i=>
   erw[sliceBounds,HT.sIx,G3,show (1:Int) > 0 by decide,if_true]
   by_cases h:i<0
   .simp only[h,if_true]<;>lia
   .simp only[h,if_false]<;>lia
 .cases hi with
  |none=>simp[sliceBounds,HT.sIx]
  |some i=>
   erw[sliceBounds,HT.sIx,G3,show (1:Int) > 0 by decide,if_true]
   by_cases h:i<0
   .simp only[h,if_true]<;>lia
   .simp only[h,if_false]<;>lia
theorem zeu(its:List AG)(lo hi:Option Int):slicePick its.toArray lo hi AD=((its.drop (HT.sIx its.length 0 lo)).take (HT.sIx its.length its.length hi-HT.sIx its.length 0 lo)).toArray:=by
 let⟨h1,h2,h3⟩:=zfm lo hi its.toArray.size;unfold slicePick;rw[h1,h2,h3];erw[sliceRange_one,pick_run,AY]<;>rfl
def ygc(K:AE):V->Option Int->Option Int->Hp->VK->Prop:=λx lo hi H Q=>∃a xs,x=.ref a/\SqL K H a xs/\∀p,H p=AD->Q (.ref p) (upd H p (.lst (ycv xs lo hi)))
theorem zir:SlR X (ygc X.K):=by
 intro pins s σ H x v vl vu lo hi sl Q I rx hs pl pu h;let⟨a,xs,rfl,hx,q⟩:=h
 cases rx
 let⟨its,r,ht,hz⟩:=I.list hx;have hlen:=r.length;refine⟨"list",_,Eh.lookup,ht.isList.typeIs,?_⟩;refine En ht.isList hs pl pu .none (by simp) ?_ (by rw[AY]<;>lia);rw[zeu,<-hlen];refine⟨.ref s.heap.objs.size,_,I.laid (t':=s.toks) (o:=.lst (ycv xs lo hi)) (λb ob q=>AM _ q) (AT _) ?_,rfl,q _ (I.hok.fresh (AT _))⟩;exact⟨B1 (zde xs lo hi) hz,_,0,(r.drop (HT.sIx xs.length 0 lo)).take (HT.sIx xs.length xs.length hi-HT.sIx xs.length 0 lo),A6 _ rfl⟩
def ya7:V->Bool
 |.non=>AB
 |.bl _=>AB
 |.int _=>AB
 |.str _=>AB
 |_=>AC
def eqV:V->V->Bool
 |.non,.non=>AB
 |.bl a,.bl b=>a==b
 |.bl a,.int b=>(if a then 1 else 0)==b
 |.int a,.bl b=>a==(if b then 1 else 0)
 |.int a,.int b=>a==b
 |.str a,.str b=>a==b
 |_,_=>AC
theorem znx{A:Ay}{s:AJ}{y x:V}{u v:AG}(ry:RelV y u)(rx:RelV x v)(fy:ya7 y=AB)(fx:ya7 x=AB):Hf A s u v (eqV y x):=by
 cases y with
 |non=>
  cases ry
  cases x with
  |non=>cases rx;exact SeqAt.EqAt.same _
  |bl b=>cases rx;exact SeqAt.EqAt.none_bool b
  |int b=>let⟨t,rfl⟩:=rx;exact SeqAt.EqAt.none_int b t
  |str b=>let⟨t,rfl⟩:=rx;exact SeqAt.EqAt.none_str b t
  |_=>exact absurd (show AC=AB from fx) BG
 |bl a=>
  cases ry
  cases x with
  |non=>cases rx;exact SeqAt.EqAt.bool_none a
  |bl b=>cases rx;exact SeqAt.EqAt.bool_bool a b
  |int b=>let⟨t,rfl⟩:=rx;exact SeqAt.EqAt.bool_int a b t
  |str b=>let⟨t,rfl⟩:=rx;exact SeqAt.EqAt.bool_str a b t
  |_=>exact absurd (show AC=AB from fx) BG
 |int a=>
  let⟨t',rfl⟩:=ry
  cases x with
  |non=>cases rx;exact SeqAt.EqAt.int_none a t'
  |bl b=>cases rx;exact SeqAt.EqAt.int_bool a t' b
  |int b=>let⟨t,rfl⟩:=rx;exact SeqAt.EqAt.int_int a t' b t
  |str b=>let⟨t,rfl⟩:=rx;exact Fv a t' b t
  |_=>exact absurd (show AC=AB from fx) BG
 |str a=>
  let⟨t',rfl⟩:=ry
  cases x with
  |non=>cases rx;exact SeqAt.EqAt.str_none a t'
  |bl b=>cases rx;exact SeqAt.EqAt.str_bool a t' b
  |int b=>let⟨t,rfl⟩:=rx;exact Fw a t' b t
  |str b=>let⟨t,rfl⟩:=rx;exact SeqAt.EqAt.str_str a t' b t
  |_=>exact absurd (show AC=AB from fx) BG
 |_=>exact absurd (show AC=AB from fy) BG
def eqU(x:V)(u:AG):Bool:=match u with
 |.none=>eqV .non x
 |.bool b=>eqV (.bl b) x
 |.int i _=>eqV (.int i) x
 |.str z _=>eqV (.str z) x
 |_=>AC
theorem zlh{x y:V}{u:AG}(r:RelV y u)(f:ya7 y=AB):eqU x u=eqV y x:=by
 cases y with
 |non=>cases r;rfl
 |bl b=>cases r;rfl
 |int i=>let⟨t,rfl⟩:=r;rfl
 |str z=>let⟨t,rfl⟩:=r;rfl
 |_=>exact absurd (show AC=AB from f) BG
theorem zfT{x:V}:∀{xs:List V} {us:List AG},Vals xs us->xs.all ya7=AB->us.any (eqU x)=xs.any λy=>eqV y x
 |_,_,.nil,_=>rfl
 |y::xs,u::us,.cons r t,f=>by
  rw[Bj,AK]at f;rw[Bs,Bs,zlh r f.1,zfT t f.2]
theorem zel{A:Ay}{s:AJ}{x:V}{v:AG}(rx:RelV x v)(fx:ya7 x=AB):∀{xs:List V} {us:List AG},Vals xs us->xs.all ya7=AB->∀u∈us,Hf A s u v (eqU x u)
 |_,_,.nil,_=>λu hu=>by cases hu
 |y::xs,u::us,.cons r t,f=>λu' hu=>by
  rw[Bj,AK]at f;rcases AO.mp hu with rfl|hu
  .rw[zlh r f.1];exact znx r rx f.1 fx
  .exact zel rx fx t f.2 u' hu
def inV(x:V)(xs:List V):Bool:=xs.any λy=>eqV y x
def rIn(K:AE)(neg:Bool):R2:=λx y H Q=>∃p xs,y=.ref p/\(SqL K H p xs \/ SqT K H p xs)/\ya7 x=AB/\xs.all ya7=AB/\Q (.bl (if neg then !inV x xs else inV x xs)) H
theorem ze9:OpR X (compareOp .In) (rIn X.K AC):=by
 intro pins s σ H x y v u Q I rx ry h;let⟨p,xs,rfl,hq,fx,fs,q⟩:=h
 cases ry
 rcases hq with hq|hq
 .let⟨its,r,pl,hz⟩:=I.list hq;refine SeqAt.in_listAt (eqU x) pl.isList (λw hw=>zel rx fx r fs w (by simpa using hw)) ⟨.bl _,H,I,rfl,?_⟩;rw[show its.toArray.any (eqU x)=its.any (eqU x)by simp,zfT r fs];exact q
 .let⟨its,r,pl,hz⟩:=I.tuple hq;refine SeqAt.in_tupleAt (eqU x) pl (λw hw=>zel rx fx r fs w (by simpa using hw)) ⟨.bl _,H,I,rfl,?_⟩;rw[show its.toArray.any (eqU x)=its.any (eqU x)by simp,zfT r fs];exact q
theorem zfu:yat X (.builtin "len") (λxs H Q=>∃p ys,xs=[.ref p]/\(SqL X.K H p ys \/ SqT X.K H p ys)/\Q (.int ys.length) H):=by
 intro pins s σ H xs us Q I r h;let⟨p,ys,rfl,hq,q⟩:=h;let⟨u,rfl,rx⟩:=vals1 r
 cases rx
 have hn:=yaU;rcases hq with hq|hq
 .let⟨its,r',pl,hz⟩:=I.list hq;have hlen:=r'.length;exact Calls.call_len_list pl.isList (by erw[AY]<;>lia) ⟨.int ys.length,H,I.tok _,⟨s.toks+1,by rw[AY,hlen]⟩,q⟩
 .let⟨its,r',pl,hz⟩:=I.tuple hq;have hlen:=r'.length;exact len_tuple pl (by erw[AY]<;>lia) ⟨.int ys.length,H,I.tok _,⟨s.toks+1,by rw[AY,hlen]⟩,q⟩
theorem zfw:yat X (.builtin "len") (λxs H Q=>∃z,xs=[.str z]/\z.length<=sizeLine/\Q (.int z.length) H):=by
 intro pins s σ H xs us Q I r h;let⟨z,rfl,hz,q⟩:=h;let⟨u,rfl,t,rfl⟩:=vals1 r;have hn:=yaU;exact len_str (by lia) ⟨.int z.length,H,I.tok _,⟨_,rfl⟩,q⟩
theorem zcm:yat X (.type "tuple") (λxs H Q=>∃p ys,xs=[.ref p]/\((SqL X.K H p ys/\∀l,H l=AD->Q (.ref l) (upd H l (.tup ys))) \/ (SqT X.K H p ys/\Q (.ref p) H))):=by
 intro pins s σ H xs us Q I r h;let⟨p,ys,rfl,h⟩:=h;let⟨u,rfl,rx⟩:=vals1 r
 cases rx
 rcases h with⟨hq,q⟩|⟨hq,q⟩
 .let⟨its,r',pl,hz⟩:=I.list hq;have hlen:=r'.length;refine call_tuple_list pl.isList (λh' kp=>?_) (by erw[AY]<;>lia);have I1:Inv X pins σ H {s with heap:=h'}:=I.kept (t':=s.toks) kp;have I2:Inv X pins σ (upd H h'.objs.size (.tup ys)) {s with heap:=h'.push {cls:=.type "tuple",data:=.seq its.toArray} }:=
   I1.laid (t':=s.toks) (λb o e=>AM _ e) (AT _) (show yag X.prog X.w _ _ _ (.tup ys)from ⟨hz,its,r',Fa _ _⟩)
  exact⟨.ref h'.objs.size,_,I2,rfl,q _ (I1.hok.fresh (AT _))⟩
 .let⟨its,r',pl,hz⟩:=I.tuple hq;exact call_tuple_same pl ⟨.ref p,H,I,rfl,q⟩
def tyV(K:AE)(T:String)(x:V)(H:Hp):Prop:=match x with
 |.str _=>T="str"
 |.int _=>T="int"
 |.ref p=>(T="list"/\∃xs,SqL K H p xs) \/ (T="tuple"/\∃o,K.lookup p=AA o/\o.cls=.type "tuple"/\o.dict=AD) \/
   (T="dict"/\((∃kvs,H p=AA (.dK kvs)) \/ ∃kvs,H p=AA (.dT kvs))) \/ (T="set"/\∃S n,H p=AA (.set S n))
 |_=>False
theorem zn1{pins:List (AI×CK)}{σ:St}{H:Hp}{s:AJ}{T:String}{x:V}{v:AG}(I:Inv X pins σ H s)(r:RelV x v)(ty:tyV X.K T x H):
  s.TypeIs v T/\∀a,v=.ref a->∃ob,s.heap.get? a=AA ob/\ob.dict=none:=by
 cases x with
 |str z=>
  let⟨t,rfl⟩:=r
  cases (show T="str" from ty)
  exact⟨Gu s z t,λ_ e=>nomatch e⟩
 |int i=>
  let⟨t,rfl⟩:=r
  cases (show T="int" from ty)
  exact⟨typeIs_int s i t,λ_ e=>nomatch e⟩
 |ref p=>
  cases r
  rcases ty with⟨rfl,xs,hq⟩|⟨rfl,o,hk,hc,hd⟩|⟨rfl,hk⟩|⟨rfl,S,n,hk⟩
  .let⟨its,_,pl,_⟩:=I.list hq;refine⟨pl.isList.typeIs,λa e=>?_⟩
   cases e
   let⟨o,n,e,c,hd,_⟩:=pl;exact⟨o,e,hd⟩
  .refine⟨⟨o,I.kIn p o hk,hc⟩,λa e=>?_⟩
   cases e
   exact⟨o,I.kIn _ o hk,hd⟩
  .have z:∃o,s.heap.get? p=AA o/\o.ExactDict:=by
    rcases hk with⟨kvs,hk⟩|⟨kvs,hk⟩
    .let⟨_,_,_,_,o,_,_,e,ex,_⟩:=I.hok p _ hk;exact⟨o,e,ex⟩
    .let⟨_,_,_,_,o,_,_,e,ex,_⟩:=I.hok p _ hk;exact⟨o,e,ex⟩
   let⟨o,e,ex⟩:=z;refine⟨⟨o,e,ex.1⟩,λa e2=>?_⟩
   cases e2
   exact⟨o,e,ex.2.1⟩
  .let⟨o,_,_,_,e,ex,_⟩:=I.hok p _ hk;refine⟨⟨o,e,ex.1⟩,λa e2=>?_⟩
   cases e2
   exact⟨o,e,ex.2.1⟩
 |_=>exact Bn ty
def tBM(K:AE)(T:String)(r:V->List V->Hp->VK->Prop)(to:TE)(t:TA):TE:=λσ H Q=>to σ H λx H1=>tyV K T x H1/\t σ H1 λxs H2=>r x xs H2 Q
variable {o e:AW}{es:List AW}{to:TE}{t:TA}{name:AS}{apos cpos:C1}{T id:String}{r:V->List V->Hp->VK->Prop}
theorem zp2(pa:PlainAttrs T)(slot:Slot T name id)(hty:typeOf (.builtin id)=pure (.type "method_descriptor"))(hm:MtR X id r)(ho:PE X o to)(ha:PA X (e::es) t)
  (hbase:attributeBase o name X.env (eval o X.env)=eval o X.env:=by rfl)
  (hfew:((backTo cpos (starEach (e::es) X.env)).all (λx=>!x.1)&&(backToKw cpos (keywordEach [] X.env)).all (λx=>x.1.isSome)
   && decide ((e::es).length+([]:List C8).length+(if ([]:List C8).isEmpty then 0 else 1)<30))=true:=by rfl)
  (hline:(apos.endLine==cpos.line)=true:=by rfl) (hs:starEach (e::es) X.env=(AC,eval e X.env)::starEach es X.env:=by rfl) (hplain:(backTo cpos (starEach es X.env)).any (·.1)=false:=by rfl):
  PE X (.Call (.Attribute o name apos) (e::es) [] cpos) (tBM X.K T r to t):=by
 intro pins s σ H Q I h;refine wpAny_Call_method_late hbase hfew hline rfl (thn (ho pins s σ H _ I h) λv s1 kq=>?_);let⟨x,H1,I1,r1,ty,q1⟩:=kq;let⟨h1,h2⟩:=zn1 I1 r1 ty;refine⟨T,id,pa,slot,hty,h1,h2,?_⟩;have hA:=ha cpos pins s1 σ H1 _ I1 q1;rw[hs]at hA ⊢;refine FK (by show (AC || (backTo cpos (starEach es X.env)).any (·.1))=AC;rw[hplain]<;>rfl) (F0 ?_);exact thn hA λus s2 ⟨vs,H2,I2,r2,q2⟩=>hm pins s2 σ H2 x vs v us Q I2 r1 r2 q2
/- xs.append(e),list.index on a module's tuple .. are MtR facts of 06m -/
end
def MtM(X:Cx)(id:String)(r:V->List V->Hp->VK->Prop):Prop:=
 ∀(pins:List (AI×CK)) (s:AJ) (σ:St) (H:Hp) (x:V) (xs:List V) (v:AG) (us:List AG) (Q:VK),Inv X pins σ H s->RelV x v->Vals xs us->r x xs H Q ->
  A3 (model X.prog X.w) X.A (call (.builtin id) (v::us)) (EP X pins σ Q) X.xe s
theorem Vals.one:∀{x:V} {us:List AG},Vals [x] us->∃u,us=[u]/\RelV x u
 |_,_,.cons r .nil=>⟨_,rfl,r⟩
theorem Vals.reverse{xs:List V}{us:List AG}(h:Vals xs us):Vals xs.reverse us.reverse:=by
 induction h with
 |nil=>exact .nil
 |cons r t ih=>rw[DS,DS];exact Vals.append ih (.cons r .nil)
section
variable {X:Cx}{pins:List (AI×CK)}{σ:St}{H:Hp}{s:AJ}{l b:AI}{xs ys zs:List V}
theorem Inv.lset{its its':List AG}{n:Nat}{f:Array AG->Array AG}{t':Nat}(I:Inv X pins σ H s)(hH:H l=AA (.lst xs))
  (e:s.heap.get? l=AA {cls:=.type "list",data:=.seq its.toArray n}) (hf:f its.toArray=its'.toArray) (hv:Vals ys its') (hz:ys.length<=sizeLine):
  Inv X pins σ (upd H l (.lst ys)) {s with heap:=s.heap.update l (FJ f),toks:=t'}:=by
 have q:=PySem.IsL.update e f;rw[hf]at q;refine I.write (x:=l) (e:=l) (by rw[hH];exact trivial) (.inl rfl) (λb' u hb hu=>(DR s.heap (FJ f) (BP hb)).trans hu) ⟨_,q⟩ ?_;exact⟨hz,its',_,hv,q⟩
theorem Inv.lnew{its:List AG}{t':Nat}(I:Inv X pins σ H s)(hv:Vals ys its)(hz:ys.length<=sizeLine):
  Inv X pins σ (upd H s.heap.objs.size (.lst ys)) {s with heap:=s.heap.push {cls:=.type "list",data:=.seq its.toArray},toks:=t'}:=
 I.laid (λ_ _ q=>AM _ q) (AT _) ⟨hz,its,0,hv,A6 _ rfl⟩
theorem Inv.fresh(I:Inv X pins σ H s):H s.heap.objs.size=none:=I.hok.fresh (AT _)
theorem Inv.lstM(I:Inv X pins σ H s)(hH:H l=AA (.lst xs)):xs.length<=sizeLine/\∃(its:List AG) (n:Nat),Vals xs its/\xs.length=its.length/\s.heap.get? l=AA {cls:=.type "list",data:=.seq its.toArray n}:=by
 let⟨z,its,n,r,e⟩:=I.hok l _ hH;exact⟨z,its,n,r,r.length,e⟩
end
section
variable {X:Cx}
def ycX:V->List V->Hp->VK->Prop:=λx vs H Q=>∃l xs y,x=.ref l/\vs=[y]/\H l=AA (.lst xs)/\xs.length<sizeLine/\Q .non (upd H l (.lst (xs++[y])))
theorem zeZ:MtM X "list.append" ycX:=by
 intro pins s σ H x vs v us Q I rx rv h;let⟨l,xs,y,rfl,rfl,hH,hz,q⟩:=h
 cases rx
 let⟨u,rfl,ru⟩:=rv.one;let⟨z,its,n,r,hl,e⟩:=I.lstM hH;refine call_meets FV ⟨_,e,rfl⟩ F.entry_list_append (F.args_list_append_2 _ _) (PySem.list_append l its.toArray n u (by rw[AY];lia)) ⟨e,?_⟩;refine⟨.non,_,I.lset (its':=its++[u]) hH e (by simp) (r.append (.cons ru .nil)) ?_,rfl,q⟩;rw[Af,D5];lia
def yfE:R2:=λx y H Q=>∃l b xs zs,x=.ref l/\y=.ref b/\H l=AA (.lst xs)/\H b=AA (.lst zs)/\xs.length+zs.length<=sizeLine/\∀p,H p=AD->Q (.ref p) (upd H p (.lst (xs++zs)))
theorem zo0:OpR X (binaryOp .Add) yfE:=by
 intro pins s σ H x y v u Q I rx ry h;let⟨l,b,xs,zs,rfl,rfl,hH,hB,hz,q⟩:=h
 cases rx
 cases ry
 let⟨z,its,n,r,hl,e⟩:=I.lstM hH;let⟨z2,its2,n2,r2,hl2,e2⟩:=I.lstM hB;refine PySem.P.add_list e e2 ?_ (by rw[AY,AY];lia);have ea:its.toArray++its2.toArray=(its++its2).toArray:=by simp
 rw[ea];exact⟨.ref _,_,I.lnew (t':=s.toks) (r.append r2) (by rw[Af];lia),rfl,q _ I.fresh⟩
end
section
variable {prog:Aa}{w:Ao}{A:Ay}{E:AG->AJ->Prop}{s:AJ}
end
section
variable {X:Cx}
end
end L2
namespace Att
open PySem PySem.W PySem.Calls PyProof.Rows
theorem zdc{P:Params}{h:BI}:∀(ns:List Int) (vs:List AG),WellAll P h vs (ns.map Hj)->FH vs ns:=by
 intro ns
 induction ns with
 |nil=>
  intro vs w;rw[Ak]at w
  cases w
  exact .nil
 |cons n ns ih=>
  intro vs w;rw[AL]at w
  cases w with
  |cons a b=>
   cases a
   exact .cons _ _ (ih _ b)
theorem zil{l:FA}{n:Nat}(hn:l.most=AA n){P:Params}{h:BI}{args:List WData}{vals:List AG}
  (hpre:l.row.toRowW.claim.pre args=AB) (hwl:WellAll P h vals args):
  ∃a vs ns,vals=[An a]/\args=[WData.list (ns.map Hj)]/\h.get? a=AA {cls:=.type "list",data:=.seq vs.toArray}/\FH vs ns/\ns.length<=n:=by
 have hsh:WShape.hasAll [] args [.list .int]=true:=(pre_splitW hpre).1;have hc:l.pre.holds [] {args:=args}=true:=(pre_splitW hpre).2;let⟨d,r,rfl,h1,h2⟩:=hasAllW_cons hsh;obtain rfl:=hasAllW_nil h2;let⟨xs,rfl,h3⟩:=hasW_list h1;let⟨ns,rfl⟩:=items_int h3;have hlen:ns.length<=n:=by
  unfold OpenLaw.pre at hc;have h4:(WTm.not (.lt (.lit (.int (n:Int))) (.len (.arg 0)))).holds [] {args:=[.list (ns.map .int)]}=true:=by
   have h4:=(holds_andW hc).1;rw[hn]at h4;exact h4
  have h5:=condW_of h4 (w_not (w_lt w_lit (w_len_list (w_arg rfl))));rw[Ap]at h5;refine Nat.le_of_not_lt λq=>?_;have q':(n:Int)<((ns.length:Nat):Int):=by lia
  first
   |(rw[decide_eq_true q']at h5;exact absurd h5 (by decide))
   |(simp at h5;lia)
 cases hwl with
 |cons w1 w2=>
  cases w2
  cases w1 with
  |list ho hall=>exact⟨_,_,ns,rfl,rfl,ho,zdc ns _ hall,hlen⟩
theorem zhG(l:FA)(args:List WData):l.row.toRowW.claim.post args (.bool AB) args=true:=
 postW_of (r:=l.row.toRowW) (X:=(AB==AB))
  (show Hg [] (.bool AB) .bool=AB by first|rfl|decide|simp[Hg,WShape.arms,WShape.armsAll])
  (show (WTm.eq .res (.lit (.bool AB))).value [] {args:=args,res:=AA (.bool AB),after:=args}=AA (.bool (AB==AB))from w_eq_bool (w_res rfl) w_lit) rfl
theorem attach_call{l:FA}{n:Nat}{q:Aa}{loose:List AS}{XP:(AS->Option AG)->BI->Prop}{YP:Ao->BI->Prop}{d:DefRec}
  (hn:l.most=AA n) (hdf:d.params.defaults=[])
  (call:∀(w:Ao) (s₀ s₁:AJ) (mg mb:AS->Option AG) (fa:AI) (o:CK) (pm cd doc:AG) (a:AI) (vs:List AG) (ns:List Int),
   Ground q loose [] XP w s₀ mg mb s₁.heap->YP w s₁.heap ->
   s₁.heap.get? fa=AA o->o.data=.func (docDef d.name d.params d.body d.scope pm cd doc)->s₁.heap.CodeRec cd d.name->mg d.name=AA (.ref fa) ->
   s₁.heap.get? a=AA {cls:=.type "list",data:=.seq vs.toArray}->FH vs ns->ns.length<=n->s₁.gens=#[] ->
   codeAny (model l.prog w) callerA (.call (.ref fa) ⟨[.ref a],[]⟩) (λr s'=>r=.ok (.ret (.bool AB))/\OldK s₁.heap s'.heap/\s'.os=s₁.os/\Dh s'.gens) s₁):
  Gm q loose XP YP l.row.toRowW d [] (λf vs=>Gv f vs):=by
 intro w s₀ s₁ mg mb G Y fa o pm cd doc dV kV ho hd hcd hD hmg hg args vals as hpre hlay hrd hwl hlo;obtain rfl:dV=.none:=Dflts.none hD hdf;obtain rfl:kV=.none:=Dflts.noKw hD;let⟨a,vs,ns,rfl,rfl,hobj,hints,hlen⟩:=zil hn hpre hwl;refine enter_call (EF (call w s₀ s₁ mg mb fa o pm cd doc a vs ns G Y ho (fd_plain hd) hcd hmg hobj hints hlen hg) λr s' hq=>?_);let⟨rfl,h2,h3,h4⟩:=hq;exact⟨.inl ⟨.bool AB,.bool AB,[],rfl,λ_=>rfl,.bool AB,zhG l _,λ_=>⟨Hi,λ_ hm=>(nomatch hm)⟩⟩,h2,h3,h4⟩
section
variable {prog:Aa}{w:Ao}{A:Ay}{E:AG->AJ->Prop}{s:AJ}{K:AE}
end
end Att
namespace L2
open PySem PySem.Spec PyProof.Rows
theorem zff:∀{vs:List AG} {ns:List Int},FH vs ns->Vals (ns.map V.int) vs
 |_,_,.nil=>.nil
 |_,_,.cons n t h=>.cons ⟨t,rfl⟩ (zff h)
def Only(H:Hp):Prop:=∀b,H b=AD \/ ∃o xs,H b=AA (.frz o (.lst xs))
theorem zkb{P:Aa}{w:Ao}{K:AE}{mg mb:AS->Option AG}{CX:CXT}{k:Nat}{fa a:AI}{fd:BK}{x:AS}{sp:Sp}{s₁:AJ}{vs:List AG}{ns:List Int}
  (KX:K.In s₁.heap) (hns:s₁.heap.Ns mainGlobals mg) (hb:s₁.heap.Ns builtinsNs mb) (hbb:∀x:AS,x ≠ "__name__"->mb x=bootBuiltins x) (hlim:s₁.heap.NoLimit) (hg:s₁.gens=#[])
  (ha:s₁.heap.get? a=AA {cls:=.type "list",data:=.seq vs.toArray}) (hi:FH vs ns) (hl:ns.length<=sizeLine) (hr:yaB k callerA)
  (F:∀base:BI,K.In base->base.Ns mainGlobals mg->yaO P w K mg base CX k fa fd [x] sp) (hbind:∀(s:AJ) (u:AG),Fb s fd ⟨[u],[]⟩ [(x,u)])
  (hsp:∀H:Hp,Only H->SqL K H a (ns.map V.int)->sp [.ref a] H (λv _=>v=.bl AB) λ_ _ _=>False)
  (hCX:∀H e s',CX [] H s₁ (λ_ _ _=>False) e s'->False):
  codeAny (model P w) callerA (.call (.ref fa) ⟨[.ref a],[]⟩) (λr s'=>r=.ok (.ret (.bool AB))/\OldK s₁.heap s'.heap/\s'.os=s₁.os/\Dh s'.gens) s₁:=by
 have rv:=zff hi;have lenV:=hi.length;have core:∀H:Hp,Only H->SqL K H a (ns.map V.int)->HOk P w H s₁.heap->(∀b,H b≠AD->b=a)->(H a≠AD->K.lookup a=AD) ->
   codeAny (model P w) callerA (.call (.ref fa) ⟨[.ref a],[]⟩) (λr s'=>r=.ok (.ret (.bool AB))/\OldK s₁.heap s'.heap/\s'.os=s₁.os/\Dh s'.gens) s₁:=by
  intro H hO hS hok hA hK;have base_of:∀{b:AI} {o:CK},s₁.heap.get? b=AA o->H b=AD->(yck s₁.heap H).get? b=AA o:=λe n=>zkd e n;have noA:∀{b:AI} {o:CK} {es:Array CO} {ep:Nat},s₁.heap.get? b=AA o->o.data=.dict es ep->H b=none:=λ{b o es ep} e d=>by
   cases q:H b with
   |none=>rfl
   |some u=>
    have e':b=a:=hA b (by rw[q];simp);subst e';rw[ha]at e;cases e;have d':Data.seq vs.toArray _=Data.dict es ep:=d
    cases d'
  have nsK:∀{b:AI} {m:AS->Option AG},s₁.heap.Ns b m->(yck s₁.heap H).Ns b m:=λ{b m} ⟨o,es,ep,e,d,r⟩=>⟨o,es,ep,base_of e (noA e d),d,r⟩;have hKb:K.In (yck s₁.heap H):=λb o e=>base_of (KX b o e) (by
   cases q:H b with
   |none=>rfl
   |some u=>
    have e':b=a:=hA b (by rw[q];simp);subst e';rw[hK (by rw[q];simp)]at e;cases e)
  have hM:Mod K mg (yck s₁.heap H):=⟨hKb,nsK hns,⟨mb,nsK hb,hbb⟩,let ⟨mc,h1,h2⟩:=hlim;⟨mc,nsK h1,h2⟩⟩;have e0:yc5 P w K mg (yck s₁.heap H) callerA [] s₁ H:=⟨rfl,hM,λb o e=>zmc e,HL (ziX _ _),trivial,λb hb=>absurd (show b∈([]:List AI)from hb) (by simp),hok,.of_eq hg⟩;refine EF ((F _ hKb (nsK hns)).run callerA [] s₁ H ⟨[.ref a],[]⟩ [.ref a] [.ref a] _ _ hr e0 (hbind s₁ (.ref a)) (.cons rfl .nil) (hsp H hO hS)) λr s' h=>?_
  cases r with
  |error e=>exact(hCX H e s' h).elim
  |ok fl=>
   cases fl with
   |next=>exact Bn h
   |brk=>exact Bn h
   |cont=>exact Bn h
   |ret u=>
    let⟨v,H',os,bare,un,hok',r',q⟩:=h;have q':v=.bl true:=q;subst q';obtain rfl:u=EJ true:=r';refine⟨rfl,OldK.of_keep λb o e=>?_,os,bare⟩
    cases q:H b with
    |none=>exact un.keep b o e q (by intro z;exact absurd (show b∈([]:List AI)from z) (by simp)) (by simp)
    |some u=>
     rcases hO b with z|⟨ob,xs,z⟩
     .rw[q]at z;cases z
     .have z2:=un.frzs b ob _ z;let⟨e1,_⟩:=hok b _ z;let⟨e2,_⟩:=hok' b _ z2;rw[e]at e1;cases e1;exact e2
 cases hk:K.lookup a with
 |some o=>
  have e:=KX a o hk;rw[ha]at e
  cases e
  refine core (λ_=>AD) (λ_=>.inl rfl) (.inr ⟨_,vs.toArray,_,hk,rfl,rfl,rfl,by rw[AY,lenV];exact hl,by simpa using rv⟩) (λb u z=>by have z':(AD:Option HO)=AA u:=z;cases z') (λb z=>absurd rfl z) λz=>absurd rfl z
 |none=>
  refine core (λb=>if b=a then AA (.frz {cls:=.type "list",data:=.seq vs.toArray} (.lst (ns.map V.int)))else AD) (λb=>?_) (.inl (.inr ⟨{cls:=.type "list",data:=.seq vs.toArray},if_pos rfl⟩)) (λb u z=>?_) (λb z=>?_) λ_=>hk
  .by_cases hb:b=a
   .exact .inr ⟨_,_,if_pos hb⟩
   .exact .inl (if_neg hb)
  .by_cases hb:b=a
   .have z':=(if_pos hb).symm.trans z
    cases z'
    subst hb;exact⟨ha,by rw[Ap];exact hl,vs,_,rv,ha⟩
   .have z':=(if_neg hb).symm.trans z
    cases z'
  .by_cases hb:b=a
   .exact hb
   .exact absurd (if_neg hb) z
theorem walk_of{l:FA}{n k:Nat}{q:Aa}{loose:List AS}{XP:(AS->Option AG)->BI->Prop}{YP:Ao->BI->Prop}{d:DefRec}{K:Params->AE}{CX:Ao->CXT}{sp:Ao->Sp}{x:AS}
  (hn:l.most=AA n) (hn2:n<=sizeLine) (hdf:d.params.defaults=[]) (hr:yaB k callerA)
  (hY:∀(w:Ao) (h:BI),YP w h->(K w.params).In h)
  (F:∀(w:Ao) (mg:AS->Option AG) (fa:AI) (h:BI),(K w.params).In h->h.Ns mainGlobals mg->mg d.name=AA (.ref fa) ->
   ∃fd:BK,(∀(s:AJ) (u:AG),Fb s fd ⟨[u],[]⟩ [(x,u)]) /\
    ∀base:BI,(K w.params).In base->base.Ns mainGlobals mg->yaO l.prog w (K w.params) mg base (CX w) k fa fd [x] (sp w))
  (hsp:∀(w:Ao) (H:Hp) (a:AI) (ns:List Int),ns.length<=n->Only H->SqL (K w.params) H a (ns.map V.int)->sp w [.ref a] H (λv _=>v=.bl AB) λ_ _ _=>False)
  (hCX:∀(w:Ao) (H:Hp) (s:AJ) (e:AG) (s':AJ),CX w [] H s (λ_ _ _=>False) e s'->False):
  Gm q loose XP YP l.row.toRowW d [] (λf vs=>Gv f vs):=by
 refine Att.attach_call hn hdf λw s₀ s₁ mg mb fa o pm cd doc a vs ns G Y ho hd hcd hmg hobj hints hlen hg=>?_;have KX:=hY w _ Y;let⟨fd,hb,hF⟩:=F w mg fa _ KX G.T.g hmg;exact zkb KX G.T.g G.T.b G.T.builtins G.T.nolimit hg hobj hints (B1 hlen hn2) hr hF hb (λH hO hS=>hsp w H a ns hlen hO hS) λH e s'=>hCX w H s₁ e s'
def inClass(s:CF)(j:Nat):Stmt:=match s with
 |.ClassDef _ _ _ body _ _ _ _ _ _ _=>body.getD j (.Pass ⟨0,0,0,0⟩)
 |_=>.Pass ⟨0,0,0,0⟩
def yan(s:CF):Arguments:=match s with
 |.FunctionDef _ a _ _ _ _ _ _ _ _=>a
 |_=>{posonlyargs:=[],args:=[],vararg:=AD,kwonlyargs:=[],kw_defaults:=[],kwarg:=AD,defaults:=[]}
def yai(s:CF):List Stmt:=match s with
 |.FunctionDef _ _ b _ _ _ _ _ _ _=>b
 |_=>[]
def yM(s:CF):Scope:=match s with
 |.FunctionDef _ _ _ _ _ _ sc _ _ _=>sc
 |_=>{kind:=.function,names:=[],isGenerator:=AC,isCoroutine:=AC}
structure Fun(K:AE)(x qual:AS)(st:CF)(f:AI)(fd:BK):Prop where
 ex:∃(oc:AG) (od:Option AI) (kV doc pm:AG) (an:Option AI) (cdv ct:AG) (osl:Array (Option AG)),
  fd=Bb x qual (yan st) (yai st) (yM st) .none kV doc pm an cdv ct/\K.lookup f=AA ⟨oc,od,.func fd,osl⟩/\CT K cdv qual=AB
 kp:BA K (.ref f)=AB
section
variable {P:Aa}{w:Ao}{K:AE}{mg:AS->Option AG}{base:BI}
theorem Fun.binds{x qual:AS}{st:CF}{f:AI}{fd:BK}{ps:List AS}(F:Fun K x qual st f fd)
  (h:∀(kV doc pm:AG) (an:Option AI) (cdv ct:AG) (us:List AG),us.length=ps.length->bindArgs (Bb x qual (yan st) (yai st) (yM st) .none kV doc pm an cdv ct) ⟨us,[]⟩=pure (ps.zip us)):Binds K fd ps []:=by
 let⟨oc,od,kV,doc,pm,an,cdv,ct,osl,rfl,lk,hcd⟩:=F.ex;exact .all (h kV doc pm an cdv ct)
end
theorem zl4{A:Ay}{k:Nat}(hr:yaB k A):A.units+1<cLine:=Nat.lt_of_le_of_lt (Nat.add_le_add_left (by decide:1<=64) _) hr.units
section
variable {X:Cx}
end
end L2
namespace WE
open PySem PySem.Spec PyProof.Rows
open AutoSeq1 (wpAny_loadPart')
section
variable {pg:Aa}{wd:Ao}{A:Ay}{Er:AG->AJ->Prop}{s:AJ}
theorem zcx{it t:AI}{i:Nat}{xs:Array AG}{x:AG}{Q:AG->AJ->Prop}(hi:s.heap.IsTupleIter it t i)(ht:s.heap.IsTuple t xs)(hx:xs[i]?=AA x)
  (k:∀h',h'.IsTupleIter it t (i+1)->Cd it s.heap h'->Q x {s with heap:=h'}):A3 (model pg wd) A (B0 (.ref it)) Q Er s:=by
 let⟨oi,gi,ci,di⟩:=id hi;let⟨ot,gt,_,nt,dt⟩:=ht;unfold B0;refine AH (B6 (name:=AF "__next__") hi.typeIs CV (CN CV hi.typeIs EH ?_ (Dx _)));show A3 _ _ (field (.ref it) 0 >>= _) _ _ _;refine AH (BS gi di (x:=.ref t) rfl ?_);show A3 _ _ (if (An t==CQ)=AB then _ else _) _ _ _;rw[if_neg (show ¬((An t==CQ)=AB)from λz=>BG z)];show A3 _ _ (field (.ref it) 1 >>= _) _ _ _;refine AH (BS gi di (x:=.int i 0) rfl ?_);show A3 _ _ (seqItems? (.ref t) >>= _) _ _ _;refine AH (Ca gt dt ?_);erw[CG,hx];refine AH (F1 gi di (by simp) (AN ⟨x,rfl,AN (k _ ?_ (Fe ..))⟩));refine⟨_,FU _ gi (Obj.isFreed_of_fields (GA di _)),(Obj.cls_mapFields ..).trans ci,?_⟩;rw[GA di];simp[rawInt]
theorem zft{it t:AI}{i:Nat}{xs:Array AG}{Q:AG->AJ->Prop}(hh:A.handled=AD)(hi:s.heap.IsTupleIter it t i)(ht:s.heap.IsTuple t xs)(hx:xs[i]?=AD)
  (k:∀h' e,Heap.ExtBut it s.heap h'->(∃o,h'.get? e=AA o/\o.cls=.type "StopIteration")->Er (.ref e) {s with heap:=h'}):A3 (model pg wd) A (B0 (.ref it)) Q Er s:=by
 let⟨oi,gi,ci,di⟩:=id hi;let⟨ot,gt,_,nt,dt⟩:=ht;unfold B0;refine AH (B6 (name:=AF "__next__") hi.typeIs CV (CN CV hi.typeIs EH ?_ (Dx _)));show A3 _ _ (field (.ref it) 0 >>= _) _ _ _;refine AH (BS gi di (x:=.ref t) rfl ?_);show A3 _ _ (if (An t==CQ)=AB then _ else _) _ _ _;rw[if_neg (show ¬((An t==CQ)=AB)from λz=>BG z)];show A3 _ _ (field (.ref it) 1 >>= _) _ _ _;refine AH (BS gi di (x:=.int i 0) rfl ?_);show A3 _ _ (seqItems? (.ref t) >>= _) _ _ _;refine AH (Ca gt dt ?_);erw[CG,hx];refine AH (FC (AH (F1 gi di (by simp) ?_)));show A3 _ _ (newExc (.type "StopIteration") [] >>= _) _ _ _;refine AH ?_;erw[newExc,newTuple];refine AH (BQ ?_ (by size_fits));refine AH (m:=firstArgMember _ _) (wpAny_of_eq (a:=CQ) (by first|rfl|(erw[firstArgMember];rfl)) ?_);refine BQ ?_ (by size_fits);erw[raiseNew];refine AH (wpAny_handled ?_);first|rw[show A.in1.handled=AD from hh]|rw[hh]
 refine AH (AN (wpAny_throw ?_));exact k _ _ (((Fe ..).extBut.push _).push _) ⟨_,A6 _ rfl,rfl⟩
end
theorem draws_tuple{pg:Aa}{wd:Ao}{A:Ay}(hh:A.handled=AD)(it t:AI)(hne:t≠it)(xs:Array AG):
  Draws pg wd A it [it,t] xs.size (λi v=>xs[i]?=AA v) (λi h=>h.IsTupleIter it t i/\h.IsTuple t xs) where
 live:=λ_ _ st=>let ⟨o,g,_⟩:=st.1;⟨o,g⟩
 frame:=λ_ _ _ st kp=>⟨let ⟨o,g,r⟩:=st.1;⟨o,kp it (by simp) o g,r⟩,let ⟨o,g,r⟩:=st.2;⟨o,kp t (by simp) o g,r⟩⟩
 item:=λi s Q E hi st hQ=>zcx st.1 st.2 (x:=xs[i]) (by simp[hi]) λh' hit' hs'=>hQ _ h' s.toks (by simp[hi]) ⟨hit',st.2.extBut hs'.extBut hne⟩ hs'
 done:=λs Q E st hE=>zft hh st.1 st.2 (by simp) hE
theorem zfW(l:AI)(xs:Array AG)(n:Nat)(dc:Option AI)(sl:Array (Option AG)):
  Meets (HM.«enumerate.__new__» ⟨[.type "enumerate",.ref l],[]⟩) (λ_ R s=>s.heap.get? l=AA {cls:=.type "tuple",dict:=dc,data:=.seq xs n,slots:=sl} /\
   R (.ok (.ret (.ref (s.heap.push {cls:=.type "tuple_iterator",data:=.fields #[.ref l,.int 0 0]}).objs.size)))
    {s with heap:=(s.heap.push {cls:=.type "tuple_iterator",data:=.fields #[.ref l,.int 0 0]}).push {cls:=.type "enumerate",data:=.fields #[.none,.bool AC,.ref s.heap.objs.size,rawInt 0,.none,.none]} }):=
 .of_wp λprog w A R s h=>by
  let⟨hp,g,d,tk,os⟩:=s;let⟨gl,h⟩:=h;have hsub:=sub_enumerate;have hT:GP (Ge ⟨hp,g,d,tk,os⟩) l xs:=⟨_,gl,rfl,n,rfl⟩
  wp_walk using wpAny_loadPart' gl
  refine wpAny_stack_any λst=>AN ?_;split
  .rename_i c _ _ _ _ _
   cases (c==Fx "enumerate")
   .wp_walk using wpAny_loadPart' gl,CW hT
    exact⟨_,rfl,h⟩
   .wp_walk using wpAny_loadPart' gl,CW hT
    exact⟨_,rfl,h⟩
  .wp_walk using wpAny_loadPart' gl,CW hT
   exact⟨_,rfl,h⟩
theorem call_enumT{pg:Aa}{wd:Ao}{A:Ay}{Er:AG->AJ->Prop}{s:AJ}{l:AI}{xs:Array AG}{Q:AG->AJ->Prop}(hT:s.heap.IsTuple l xs)
  (k:∀h',IsEnum h' (s.heap.objs.size+1) s.heap.objs.size 0 .none->h'.IsTupleIter s.heap.objs.size l 0->h'.objs.size=s.heap.objs.size+2 ->
   (∀b o,s.heap.get? b=AA o->h'.get? b=AA o)->Q (.ref (s.heap.objs.size+1)) {s with heap:=h'}):A3 (model pg wd) A (call (.type "enumerate") [.ref l]) Q Er s:=by
 let⟨⟨c,dct,dt,sl⟩,gl,hc,n,hd⟩:=hT
 cases (show c=.type "tuple" from hc)
 cases (show dt=.seq xs n from hd)
 refine callType_new F.called_enumerate (by decide) (F.typeCall_enumerate_1 _) (F.newCall_enumerate_1 _) (λobj=>F.args_object_init_2 obj _) F.entry_enumerate_new (zfW l xs n dct sl) ⟨gl,?_⟩;have hz:(s.heap.push {cls:=.type "tuple_iterator",data:=.fields #[.ref l,.int 0 0]}).objs.size=s.heap.objs.size+1:=CA ..;show _/\_;rw[hz];have he:IsEnum ((s.heap.push {cls:=.type "tuple_iterator",data:=.fields #[.ref l,.int 0 0]}).push {cls:=.type "enumerate",data:=.fields #[.none,.bool AC,.ref s.heap.objs.size,rawInt 0,.none,.none]}) (s.heap.objs.size+1) s.heap.objs.size 0 .none:=by
  have q:=A6 (s.heap.push {cls:=.type "tuple_iterator",data:=.fields #[.ref l,.int 0 0]}) (o:={cls:=.type "enumerate",data:=.fields #[.none,.bool AC,.ref s.heap.objs.size,rawInt 0,.none,.none]}) rfl;rw[hz]at q;exact q
 exact⟨⟨_,he,rfl⟩,k _ he ⟨_,AM _ (A6 _ rfl),rfl,rfl⟩ (by rw[CA,hz]) λb o y=>AM _ (AM _ y)⟩
end WE
namespace L2
open PySem PySem.Spec PyProof.Rows
section
variable {X:Cx}
def ydQ(i j:Int):Prop:=0<j/\j<10000000000000000000000000000000000000000000000000000000000000000000000
theorem zjI:OpR X (binaryOp .FloorDiv) (rI ydQ λi j=>.int (i/j)):=opI λi j _ _ _ _ _ hc q=>by
 let⟨h1,h2⟩:=hc;refine floordiv_int (by lia) (by rw[EO i (by lia)];exact q) (.inl (PyProof.noPylong_of_log2 ?_));have h0:j.natAbs≠0:=by lia
 refine A7 ((Nat.log2_lt h0).mpr (?_:j.natAbs<2^250)) (by decide);have e:(10000000000000000000000000000000000000000000000000000000000000000000000:Nat)<2^250:=by decide
 lia
end
section
variable {X:Cx}{pins:List (AI×CK)}{σ:St}{H:Hp}{s:AJ}{h':BI}
theorem Inv.turnLaid{t':Nat}{ch:List AI}{T:AI}{o:HO}(I:Inv X pins σ H s)(hf:∀b∈ch,ybv X pins H b)(k:∀b u,b∉ch->s.heap.get? b=AA u->h'.get? b=AA u)
  (hp:s.heap.objs.size<=T) (new:yag X.prog X.w (upd H T o) h' T o):Inv X pins σ (upd H T o) {s with heap:=h',toks:=t'}:=by
 have hn:H T=none:=I.hok.fresh hp;have nch:∀b u,H b=AA u->b∉ch:=λb u e z=>by
  have q:=(hf b z).1;rw[e]at q
  cases q
 refine I.step (g':=s.gens) (d':=s.drawn) (ch:=ch) (λb hb=>?_) (λb u _ _ hc e _=>k b u hc e) (λb u _ _ hc e _=>⟨u.slots,k b u hc e⟩) (λb u _ e n=>?_) (λb u hc e=>⟨u,k b u hc e⟩) (λb xs e=>?_) (λb u v e=>?_) (λb ps e=>⟨#[],?_⟩) (λm hm=>?_) (λb u e=>?_) I.bare
 .let⟨f0,f1,f2,f3,f4,f5⟩:=hf b hb;exact⟨f3,f1,f4,f5⟩
 .rw[zk (Ar (A7 (A1 e) hp))];exact n
 .rw[zk (zq e hn)];exact e
 .rw[zk (zq e hn)];exact e
 .rw[zk (zq e hn),e];simp
 .let⟨ob,es,ep,ho,r⟩:=hm;exact⟨ob,es,ep,k _ ob (λz=>(hf _ z).2.1 rfl) ho,r⟩
 .by_cases hb:b=T
  .subst hb;rw[zu]at e
   cases e
   exact new
  .rw[zk hb]at e;refine(I.hok b u e).stay (λc v hc q=>k c v ?_ q) (λc q=>by rw[zk (zq q hn)];exact q) λc xs q=>by rw[zk (zq q hn)];exact q
   rcases hc with z|z
   .rw[z];exact nch b u e
   .exact nch c _ z
theorem Inv.turnedL{t':Nat}{ch:List AI}(I:Inv X pins σ H s)(hf:∀b∈ch,ybv X pins H b)(k:∀b u,b∉ch->s.heap.get? b=AA u->h'.get? b=AA u):Inv X pins σ H {s with heap:=h',toks:=t'}:=by
 have nch:∀b u,H b=AA u->b∉ch:=λb u e z=>by
  have q:=(hf b z).1;rw[e]at q
  cases q
 refine I.step (g':=s.gens) (d':=s.drawn) (ch:=ch) (λb hb=>?_) (λb u _ _ hc e _=>k b u hc e) (λb u _ _ hc e _=>⟨u.slots,k b u hc e⟩) (λ_ _ _ _ n=>n) (λb u hc e=>⟨u,k b u hc e⟩) (λ_ _ e=>e) (λ_ _ _ e=>e) (λb ps e=>⟨#[],by rw[e];simp⟩) (λm hm=>?_) (λb u e=>?_) I.bare
 .let⟨f0,f1,f2,f3,f4,f5⟩:=hf b hb;exact⟨f3,f1,f4,f5⟩
 .let⟨ob,es,ep,ho,r⟩:=hm;exact⟨ob,es,ep,k _ ob (λz=>(hf _ z).2.1 rfl) ho,r⟩
 .refine(I.hok b u e).stay (λc v hc q=>k c v ?_ q) (λ_ q=>q) λ_ _ q=>q;rcases hc with z|z
  .rw[z];exact nch b u e
  .exact nch c _ z
end
def Ite(K:AE)(a:AI):It:=
 ⟨λi H=>∃xs x,SqT K H a xs/\xs[i]?=AA x,λi H x H'=>∃T,H T=AD/\x=.ref T/\∀xs y,SqT K H a xs->xs[i]?=AA y->H'=upd H T (.tup [.int i,y]),λi H=>∃xs,SqT K H a xs/\xs.length=i⟩
theorem zeh{h:BI}{a b:AI}{o u:CK}(x:h.get? a=AA o)(y:h.get? b=AA u)(z:o.cls≠u.cls):a≠b:=λe=>by
 subst e;rw[x]at y
 cases y
 exact z rfl
theorem zgO{P:Aa}{w:Ao}{K:AE}{es:List AW}{kk:Nat}{pos:C1}(a e it:AI):
  Turn P w K (.Tuple es kk pos) (Ite K a) [e,it] e (λi h=>(∃old,IsEnum h e it i old)/\h.IsTupleIter it a i) where
 mem:=by simp
 obj:=λi h st b hb=>by
  let⟨⟨old,he⟩,oi,gi,ci,di⟩:=st;rcases AO.mp hb with z|z
  .subst z;exact⟨_,he,λv y=>nomatch y⟩
  .have z:b=it:=by simpa using z
   subst z;exact⟨oi,gi,λv y=>by rw[di]at y;cases y⟩
 keep:=λi h h' st k=>by
  let⟨⟨old,he⟩,oi,gi,r⟩:=st;exact⟨⟨old,k e (by simp) _ he⟩,oi,k it (by simp) _ gi,r⟩
 item:=by
  intro X hP hw hK hc i pins s σ H E I hf st hg;subst hP hw hK;let⟨xs,x,hq,hx⟩:=hg;let⟨its,rv,p,hz⟩:=I.tuple hq;let⟨⟨old,he⟩,hi⟩:=st;let⟨oi,gi,ci,di⟩:=id hi;let⟨oa,ga,ca,na,da⟩:=id p;have nai:a≠it:=zeh ga gi (by rw[ca,ci];exact λz=>absurd (Cq z) (by decide));have nei:e≠it:=zeh he gi (by rw[ci];exact λz=>absurd (Cq z) (by decide));have nea:e≠a:=zeh he ga (by rw[ca];exact λz=>absurd (Cq z) (by decide));have hl:=rv.length;have hil:i<its.toArray.size:=by
   have:=(BO.mp hx).1;simpa using (by lia:i<its.length)
  have W:=GQ (prog:=X.prog) (w:=X.w) (A:=X.A) (WE.draws_tuple (pg:=X.prog) (wd:=X.w) (A:=X.A.in1) (I.ok.hd hc) it a nai its.toArray) e nei (by simp[nei,nea]) (by simp);refine W.item i s _ E hil ⟨⟨old,he⟩,hi,p⟩ λT vals h1 tk hP hsz hT mid kp=>⟨.ref T,rfl,?_⟩;refine W.go es kk pos i T _ _ E mid λh2 st2 kp2=>?_;let⟨t,y,hy,rfl⟩:=hP;let⟨u,hu,ru⟩:=rv.get hx;have ey:y=u:=AZ (hy.symm.trans (by simpa using hu));subst ey;have hch:∀b o,b∉[e,it]->s.heap.get? b=AA o->h2.get? b=AA o:=λb o hb q=>kp2 b o hb (kp b o hb q);have hTw:=W.apart i T h1 mid;have new:yag X.prog X.w (upd H T (.tup [.int i,x])) h2 T (.tup [.int i,x]):=by
   let⟨o,g,r⟩:=hT;exact⟨by show 2<=sizeLine;decide,[.int i t,y],.cons ⟨t,rfl⟩ (.cons ru .nil),o,kp2 T o hTw g,r⟩
  have I2:=I.turnLaid (t':=tk) hf hch hsz new;refine⟨.ref T,_,I2,rfl,⟨T,I.hok.fresh hsz,rfl,λys z hy' hz'=>?_⟩,⟨st2.1,st2.2.1⟩,λb hb=>?_⟩
  .rw[I.tuple_inj hy' hq]at hz';rw[hx]at hz'
   cases hz'
   rfl
  .rw[zk (λz:b=T=>hTw (z ▸ hb))];exact(hf b hb).1
 done:=by
  intro X hP hw hK hc i pins s σ H E I hf st hg;subst hP hw hK;let⟨xs,hq,hx⟩:=hg;let⟨its,rv,p,hz⟩:=I.tuple hq;let⟨⟨old,he⟩,hi⟩:=st;let⟨oi,gi,ci,di⟩:=id hi;let⟨oa,ga,ca,na,da⟩:=id p;have nai:a≠it:=zeh ga gi (by rw[ca,ci];exact λz=>absurd (Cq z) (by decide));have nei:e≠it:=zeh he gi (by rw[ci];exact λz=>absurd (Cq z) (by decide));have nea:e≠a:=zeh he ga (by rw[ca];exact λz=>absurd (Cq z) (by decide));have hl:=rv.length;have W:=GQ (prog:=X.prog) (w:=X.w) (A:=X.A) (WE.draws_tuple (pg:=X.prog) (wd:=X.w) (A:=X.A.in1) (I.ok.hd hc) it a nai its.toArray) e nei (by simp[nei,nea]) (by simp);have en:its.toArray.size=i:=by simp;lia
  refine W.done s _ E (by rw[en];exact⟨⟨old,he⟩,hi,p⟩) λh2 tk kp=>⟨rfl,I.turnedL (t':=tk) hf kp⟩
 self:=λ_ _ _ _ _ st q=>by
  let⟨⟨old,he⟩,_⟩:=st;exact GR he q
def yga(K:AE)(ta:TA):TI:=λσ H R=>ta σ H λvs H1=>∃a,vs=[.ref a]/\(∃xs,SqT K H1 a xs)/\R (Ite K a) H1
theorem zjT{X:Cx}{a:AW}{es:List AW}{kk:Nat}{tp:C1}{ta:TA}{p pos:C1}(hg:Gl X "enumerate")(hm:X.mg "enumerate"=AD)(ha:PA X [a] ta)(hs:starEach [a] X.env=[(AC,eval a X.env)]:=by rfl):
  PI X (.Tuple es kk tp) (.Call (.Name "enumerate" p) [a] [] pos) (yga X.K ta):=by
 intro pins s σ H R I h;refine B8 (zdZ I hg hm boot_enumerate ?_);refine CM (thn (ha pos pins s σ H _ I h) λus s1 kq=>?_) hs rfl;let⟨vs,H1,I1,r1,q1⟩:=kq;let⟨l,rfl,⟨xs,hq⟩,q⟩:=q1;let⟨u,rfl,ru⟩:=Vals.one r1
 cases (show u=An l from ru)
 let⟨its,rv,pt,hz⟩:=I1.tuple hq;refine WE.call_enumT (show s1.heap.IsTuple l its.toArray from pt) λh1 he hi hsz kp=>?_;refine GR he ?_;refine⟨_,[s1.heap.objs.size+1,s1.heap.objs.size],_,_,H1,rfl,I1.kept (t':=s1.toks) kp,zgO l _ s1.heap.objs.size,⟨⟨_,he⟩,hi⟩,λb hb=>?_,q⟩;have hb2:s1.heap.objs.size<=b:=by
  rcases AO.mp hb with z|z
  .subst z;exact Co _
  .have z:b=s1.heap.objs.size:=by simpa using z
   subst z;exact AT _
 exact I1.fpOk hb2 (I1.hok.fresh hb2)
abbrev No:AG->AJ->Prop:=λ_ _=>False
abbrev ydo(ifs:List AW)(env:Env):HB Bool:=forIn ifs AB λc r=>if r=AB then do let ok <-isTrue c env (eval c env);pure (Gh ok)else pure (Gh r)
section
variable {pg:Aa}{wd:Ao}{A:Ay}{R:Gp->AJ->Prop}{s:AJ}
theorem zhJ{elt tg iter:AW}{ifs:List AW}{sc:Br}{pos:C1}{it acc:AG}{env:Env}(I:Nat->AJ->Prop)
  (turn:∀n s,I n s->A3 (model pg wd) A (pyNext it) (λr s1=>match r with
   |none=>R (.ok .next) s1
   |some v=>A3 (model pg wd) A (letOwnedTupleGo tg it v) (λ_ s2=>A3 (model pg wd) A (assign tg env v) (λ_ s3=>A3 (model pg wd) A (ydo ifs env) (λok s4=>
     if ok=AB then A3 (model pg wd) A (eval elt env) (λx s5=>A3 (model pg wd) A (call (.builtin "list.append") [acc,x]) (λ_ s6=>∃m,m<n/\I m s6) No s5) No s4
     else ∃m,m<n/\I m s4) No s3) No s2) No s1) No s)
  (n:Nat) (h:I n s):codeAny (model pg wd) A (.compLoop (.ListComp elt [⟨tg,iter,ifs,0⟩] sc pos) 0 it acc env) R s:=by
 refine codeAny_loop rfl I (λn s hI=>?_) n h;show A3 _ A ((compTurn (.ListComp elt [⟨tg,iter,ifs,0⟩] sc pos) 0 it acc env).onRaise (λx=>do noteFrame x env;theTreesLotGoes x)) _ _ s;refine wpAny_noted ?_;rw[compTurn_list];refine AH (Em (AH (C4 (turn n s hI) (λr s1 h1=>?_) λ_ _ f=>f.elim)))
 cases r with
 |none=>exact AN h1
 |some v=>
  refine AH (C4 h1 (λ_ s2 h2=>AH (C4 h2 (λ_ s3 h3=>AH (C4 h3 (λok s4 h4=>?_) λ_ _ f=>f.elim)) λ_ _ f=>f.elim)) λ_ _ f=>f.elim)
  cases ok with
  |false=>exact AN ⟨rfl,h4⟩
  |true=>exact AH (AH (C4 h4 (λx s5 h5=>AH (C4 h5 (λ_ s6 h6=>AN (AN ⟨rfl,h6⟩)) λ_ _ f=>f.elim)) λ_ _ f=>f.elim))
end
def yar(env:Env)(r:List (AS×AI))(x:AS×DP):List (AS×AI):=if x.2=.free then(x.1,(env.cells.lookup x.1).getD 0)::r else r
def ydw(sc:Br)(env:Env):List (AS×AI):=sc.names.foldl (yar env) []
theorem zgQ{α β:Type}{l:List α}{f:α->β->HB (ForInStep β)}{g:β->α->β}(h:∀x∈l,∀c,f x c=pure (.yield (g c x))):∀c:β,forIn l c f=pure (l.foldl g c):=by
 induction l with
 |nil=>exact λ_=>rfl
 |cons x l ih=>
  intro c;rw[FQ,h x As,pure_bind,Dy];exact ih (λy hy=>h y (AV _ hy)) (g c x)
theorem zdl{sc:Br}{env:Env}(hf:∀y∈sc.names,y.2=.free->∃c,env.cells.lookup y.1=AA c):closureFor sc env=pure (ydw sc env):=by
 erw[closureFor];rw[zgQ (g:=yar env) (λx hx c=>?_)]
 .rfl
 .let⟨n,k⟩:=x
  by_cases hk:k=.free
  .subst hk;let⟨a,ha⟩:=hf _ hx rfl;have ha':env.cells.lookup n=AA a:=ha;simp[yar,cellOf,ha']
  .have hb:(k==Ck)=false:=by simpa using hk
   simp[yar,hk,hb]
theorem zdO{env:Env}:∀(l:List (AS×DP)) (r:List (AS×AI)),(∀y∈l,y.2=.free->∃c,env.cells.lookup y.1=AA c)->(∀x c,r.lookup x=AA c->env.cells.lookup x=AA c) ->
  ∀x c,(l.foldl (yar env) r).lookup x=AA c->env.cells.lookup x=AA c
 |[],r,_,h=>h
 |y::l,r,hf,h=>by
  refine zdO l (yar env r y) (λz hz=>hf z (AV _ hz)) λx c e=>?_;unfold yar at e
  by_cases hk:y.2=.free
  .let⟨a,ha⟩:=hf y As hk;rw[if_pos hk,Bp]at e
   cases hx:x==y.1 with
   |true=>
    rw[hx,ha]at e;rw[eq_of_beq hx,ha];exact e
   |false=>
    rw[hx]at e;exact h x c e
  .rw[if_neg hk]at e;exact h x c e
theorem zc1{env:Env}{x:AS}:∀(l:List (AS×DP)) (r:List (AS×AI)),(∃c,r.lookup x=AA c)->∃c,(l.foldl (yar env) r).lookup x=AA c
 |[],r,h=>h
 |y::l,r,h=>by
  refine zc1 l (yar env r y) ?_;unfold yar
  by_cases hk:y.2=.free
  .rw[if_pos hk,Bp]
   cases hx:x==y.1 with
   |true=>exact⟨_,rfl⟩
   |false=>exact h
  .rw[if_neg hk];exact h
theorem zcD{env:Env}:∀(l:List (AS×DP)) (r:List (AS×AI)),∀y∈l,y.2=.free->∃c,(l.foldl (yar env) r).lookup y.1=AA c
 |[],_,y,hy,_=>nomatch hy
 |z::l,r,y,hy,hk=>by
  rcases AO.mp hy with e|e
  .subst e;refine zc1 l (yar env r y) ?_;unfold yar;rw[if_pos hk,Bp,beq_self_eq_true];exact⟨_,rfl⟩
  .exact zcD l (yar env r z) y e hk
theorem mem_of_lookup{β:Type}{x:AS}{k:β}:∀{l:List (AS×β)},l.lookup x=AA k->(x,k)∈l
 |[],h=>nomatch h
 |y::l,h=>by
  rw[Bp]at h
  cases hx:x==y.1 with
  |true=>
   rw[hx]at h
   cases h
   rw[eq_of_beq hx];exact As
  |false=>
   rw[hx]at h;exact AV _ (mem_of_lookup h)
def yc7(env:Env)(x:AS)(k:DP):NameKind:=if (k==.free&&env.scope.kind==.function&&env.kindOf x==AA .cell)=AB then .cell else k
theorem zd6{sc:Br}{env:Env}(x:AS):(relabel sc env).names.lookup x=(sc.names.lookup x).map (yc7 env x):=by
 unfold relabel;show (sc.names.map λ(n,k)=>if (k==Ck&&env.scope.kind==.function&&env.kindOf n==AA .cell)then(n,Fp)else(n,k)).lookup x=_
 induction sc.names with
 |nil=>rfl
 |cons y l ih=>
  let⟨n,k⟩:=y;rw[AL];show Bz x ((if (k==Ck&&env.scope.kind==.function&&env.kindOf n==AA .cell)=AB then(n,Fp)else(n,k))::_)=_
  cases hx:x==n with
  |true=>
   have e:=eq_of_beq hx;subst e
   by_cases hc:(k==Ck&&env.scope.kind==.function&&env.kindOf x==AA .cell)=AB
   .rw[if_pos hc,Bp,beq_self_eq_true];simp[yc7,hc]
   .rw[if_neg hc,Bp,beq_self_eq_true];simp[yc7,hc]
  |false=>
   by_cases hc:(k==Ck&&env.scope.kind==.function&&env.kindOf n==AA .cell)=AB
   .rw[if_pos hc];erw[Bp,hx];exact ih
   .rw[if_neg hc];erw[Bp,hx];exact ih
structure CI where
 C:AI
 s:AJ
 H:Hp
 fp:List AI
def cxC(X:Cx)(sc:Br)(NC:List AS)(j:CI):Cx where
 prog:=X.prog
 w:=X.w
 K:=X.K
 mg:=X.mg
 base:=X.base
 A:=X.A
 N:=NC
 s₀:=j.s
 H₀:=j.H
 env:=compEnvC sc (ydw sc X.env) j.C X.env
 outer:=X.stack
 stack:=X.stack
 ex:=j.fp
 fn:=λ_=>AC
 calm:=X.calm
 pn:=[]
 xe:=No
def inn(slots:List (Option Nat))(σ:St):St:=slots.map λo=>o.bind λj=>(σ[j]?).join
structure yav(X:Cx)(sc:Br)(NC:List AS)(slots:List (Option Nat)):Prop where
 kind:sc.kind=.function
 names:∀y∈sc.names,y.2=.local->sc.names.lookup y.1=AA .local
 nocell:∀y∈sc.names,y.2 ≠ .cell
 free:∀y∈sc.names,y.2=.free->X.env.scope.names.lookup y.1=AA .cell
 slot:∀(i:Nat) (x:AS) (j:Nat),NC[i]?=AA x->slots[i]?=AA (AA j)->X.N[j]?=AA x/\sc.names.lookup x=AA .free
 len:slots.length=NC.length
theorem ydu{X:Cx}{sc:Br}{NC:List AS}{slots:List (Option Nat)}(N:List AS)(so:Br)(hN:X.N=N)(hs:X.env.scope=so)(kind:sc.kind=.function)
  (names:∀y∈sc.names,y.2=.local->sc.names.lookup y.1=AA .local) (nocell:∀y∈sc.names,y.2 ≠ .cell) (free:∀y∈sc.names,y.2=.free->so.names.lookup y.1=AA .cell)
  (slot:∀p∈NC.zip slots,(p.2.all λj=>decide (N[j]?=AA p.1/\sc.names.lookup p.1=AA .free))=AB) (len:slots.length=NC.length):yav X sc NC slots:=by
 subst hN hs;refine⟨kind,names,nocell,free,λi x j e1 e2=>?_,len⟩;have hm:(x,AA j)∈NC.zip slots:=A5 (i:=i) (by rw[List.getElem?_zip_eq_some];exact⟨e1,e2⟩);have:=slot _ hm;simpa using this
section
variable {X:Cx}{sc:Br}{NC:List AS}{slots:List (Option Nat)}{pins:List (AI×CK)}{σ:St}{H:Hp}{s:AJ}
theorem yav.cells(O:yav X sc NC slots)(ok:X.Ok):∀y∈sc.names,y.2=.free->∃c,X.env.cells.lookup y.1=AA c:=λy hy hk=>ok.has y.1 (.inl (O.free y hy hk))
theorem yav.sub(O:yav X sc NC slots)(ok:X.Ok):∀x c,(ydw sc X.env).lookup x=AA c->X.env.cells.lookup x=AA c:=zdO sc.names [] (O.cells ok) λ_ _ e=>nomatch e
theorem yav.rel(O:yav X sc NC slots)(ok:X.Ok){x:AS}(h:sc.names.lookup x=AA .free):(relabel sc X.env).names.lookup x=AA .cell:=by
 rw[zd6,h];have e:X.env.kindOf x=AA .cell:=O.free _ (mem_of_lookup h) rfl;simp[yc7,ok.kind,e]
theorem zg1(I:Inv X pins σ H s)(O:yav X sc NC slots){fp:List AI}(hf:∀b∈fp,ybv X pins H b)(hob:∀b∈fp,∃o,s.heap.get? b=AA o){h1:BI}{t':Nat}{m:AS->Option AG}(hns:h1.Ns s.heap.objs.size m)
  (hk:∀b o,s.heap.get? b=AA o->h1.get? b=AA o):Inv (cxC X sc NC ⟨s.heap.objs.size,s,H,fp⟩) [] (inn slots σ) H {s with heap:=h1,toks:=t'}:=by
 have sub:=O.sub I.ok;have fss:∀b,b≠X.env.locals->b∉X.fs->b∉frs X.stack:=λb h1 h2 hb=>(AO.mp (I.stkSub b hb)).elim h1 h2;have ltC:∀x c,(ydw sc X.env).lookup x=AA c->c<s.heap.objs.size:=λx c e=>by
  let⟨v,q⟩:=I.cell x c (sub x c e);exact q.lt
 refine⟨⟨I.ok.mod,O.kind,I.ok.glob,I.ok.blt,AT _,λx y c e1 e2=>I.ok.inj x y c (sub x c e1) (sub y c e2),λx hx=>?_,λ_ _ z=>(nomatch z),I.ok.hd,I.ok.frames,.inl rfl,λb hb=>⟨?_,λx c e=>(hf b hb).2.2.2.2.1 x c (sub x c e)⟩,I.bs,B1 I.ok.bsz I.sz,λb o e hb=>?_,λb hb=>fss b (hf b hb).2.1 (hf b hb).2.2.1,I.stack,I.stkFree⟩,
  rfl,I.bare,Un.kept hk,⟨m,hns,λi x v e1 e2 e3=>?_⟩,λx c e=>?_,I.hok.fresh (AT _),λx c e=>I.freeC x c (sub x c e),λp hp=>(nomatch hp),I.hok.kept hk,?_⟩
 .have hx':(relabel sc X.env).names.lookup x=AA .cell \/ (relabel sc X.env).names.lookup x=AA .free:=hx;rw[zd6]at hx'
  cases q:sc.names.lookup x with
  |none=>
   rw[q]at hx';rcases hx' with z|z<;>cases z
  |some k=>
   have hm:=mem_of_lookup q;have hkf:k=.free:=by
    rw[q]at hx';have nc:=O.nocell _ hm
    by_cases hk:k=.free
    .exact hk
    .exfalso;have hb:(k==Ck)=false:=by simpa using hk
     rcases hx' with z|z
     .simp[yc7,hb]at z;exact nc z
     .simp[yc7,hb]at z;exact hk z
   subst hkf;exact zcD sc.names [] _ hm rfl
 .let⟨o,e⟩:=hob b hb;exact Ar (A1 e)
 .rcases (hf b hb).2.2.2.1 with z|z
  .exact I.ok.noex b o e z
  .exact absurd (A7 (A1 e) (B1 I.ok.bsz z)) (DD _)
 .obtain⟨j,e4,e5⟩:∃j,slots[i]?=AA (AA j)/\σ[j]?=AA (AA v):=by
   have e2':(slots.map λo=>o.bind λj=>(σ[j]?).join)[i]?=AA (AA v):=e2;rw[Bt]at e2'
   cases q:slots[i]? with
   |none=>
    rw[q]at e2'
    cases e2'
   |some o=>
    rw[q]at e2'
    cases o with
    |none=>cases e2'
    |some j=>
     refine⟨j,rfl,?_⟩;have e6:(σ[j]?).join=AA v:=AZ e2'
     cases q2:σ[j]? with
     |none=>
      rw[q2]at e6
      cases e6
     |some w=>
      rw[q2]at e6;have e7:w=AA v:=e6;rw[e7]
  let⟨e6,e7⟩:=O.slot i x j e1 e4;have kc:X.env.scope.names.lookup x=AA .cell:=O.free _ (mem_of_lookup e7) rfl;let⟨m0,hn0,hl⟩:=I.loc;let⟨u,r,lk⟩:=hl j x v e6 e5 (.inr (.inl kc));refine⟨u,r,.inr ⟨.inl (O.rel I.ok e7),?_⟩⟩;rcases lk with⟨z,_⟩|⟨_,c,hc,o,ho,hd⟩
  .rw[show X.env.kindOf x=AA .cell from kc]at z
   cases z
  .let⟨c',hc'⟩:=zcD (env:=X.env) sc.names [] _ (mem_of_lookup e7) rfl;have e8:c'=c:=AZ ((sub x c' hc').symm.trans hc);subst e8;exact⟨c',hc',o,hk _ _ ho,hd⟩
 .let⟨v,o,ho,hd⟩:=I.cell x c (sub x c e);exact⟨v,o,hk _ _ ho,hd⟩
 .show (slots.map λo=>o.bind λj=>(σ[j]?).join).length=NC.length;rw[Ap,O.len]
theorem zgT(I:Inv X pins σ H s){fp:List AI}(hf:∀b∈fp,ybv X pins H b){C:AI}(hC:s.heap.objs.size<=C){pl:List (AI×CK)}{σ':St}{H':Hp}{s':AJ}(J:Inv (cxC X sc NC ⟨C,s,H,fp⟩) pl σ' H' s')
  {h2:BI} (hb:Cd C s'.heap h2):Inv X pins σ H' {s' with heap:=h2}:=by
 have nC:∀b o,s.heap.get? b=AA o->b≠C:=λb o e=>Ar (A7 (A1 e) hC);have B:Un (frs X.stack) fp H H' s.heap s'.heap:=J.base;have fC:H' C=none:=J.free;refine I.call' (ch:=fp) J.os ⟨λb o e n h3 h4=>(hb.2 b (nC b o e)).trans (B.keep b o e n h3 h4),λb o e n h3 h4=>?_,B.free,λb o e h4=>?_,B.tups,B.frzs,B.tbls⟩ (λb u e=>?_) J.bare λb h3=>⟨(hf b h3).2.2.2.1,(hf b h3).2.1,(hf b h3).2.2.2.2.1,(hf b h3).2.2.2.2.2⟩
 .let⟨sl,q⟩:=B.slot b o e n h3 h4;exact⟨sl,(hb.2 b (nC b o e)).trans q⟩
 .let⟨o',q⟩:=B.there b o e h4;exact⟨o',(hb.2 b (nC b o e)).trans q⟩
 .refine(J.hok b u e).stay (λc v hc q=>(hb.2 c λz=>?_).trans q) (λ_ q=>q) λ_ _ q=>q;subst z;rcases hc with z|z
  .rw[z,e]at fC
   cases fC
  .rw[z]at fC
   cases fC
end
def PTs(X:Cx)(ifs:List AW)(t:TT):Prop:=
 ∀(pins:List (AI×CK)) (s:AJ) (σ:St) (H:Hp) (Q:Bool->Hp->Prop),Inv X pins σ H s->t σ H Q->A3 (model X.prog X.w) X.A (ydo ifs X.env) (TP X pins σ Q) X.xe s
def ygS:TT:=λ_ H Q=>Q AB H
theorem zmm{X:Cx}:PTs X [] ygS:=λ_ _ _ H _ I h=>wpAny_tests_nil ⟨H,I,h⟩
theorem zl2{X:Cx}{c:AW}{t:TT}(h:PT X c t):PTs X [c] t:=λpins s σ H Q I q=>wpAny_tests_one (h pins s σ H Q I q)
def ycH(J:It)(D:AI)(g:TG)(ti:TT)(te:TE)(W:Nat->Nat->St->List V->Hp->Prop)(Q:Hp->Prop):Prop:=
 ∀i m σc ys H2,W i m σc ys H2->H2 D=AA (.lst ys)/\((J.stop i H2/\Q H2) \/ (J.go i H2/\ys.length<sizeLine/\∃N:St->List V->Hp->Prop,(∀σ' ys' H',N σ' ys' H'->∃m',m' < m/\W (i+1) m' σ' ys' H') /\
  ∀x H3,J.yld i H2 x H3->g x σc H3 λσ4 H4=>ti σ4 H4 λb H5=>if b=AB then te σ4 H5 λy H6=>H6 D=AA (.lst ys)/\N σ4 (ys++[y]) (upd H6 D (.lst (ys++[y])))else N σ4 ys H5))
def ydO(slots:List (Option Nat))(wi:TI)(g:TG)(ti:TT)(te:TE):TE:=λσ H Q=>wi σ H λJ H1=>∀D,H1 D=AD->∃W:Nat->Nat->St->List V->Hp->Prop,(∃m,W 0 m (inn slots σ) [] (upd H1 D (.lst [])))/\ycH J D g ti te W (Q (.ref D))
section
variable {X:Cx}{sc:Br}{NC:List AS}{slots:List (Option Nat)}{elt tg iter:AW}{ifs:List AW}{pos:C1}{g:TG}{ti:TT}{te:TE}
theorem zjx(hc:X.calm=AB)(hg:∀j,PG (cxC X sc NC j) tg g)(ht:∀j,PTs (cxC X sc NC j) ifs ti)(he:∀j,PE (cxC X sc NC j) elt te){cj:CI}{it D:AI}{tn:Nat->BI->Prop}{J:It}
  {W:Nat->Nat->St->List V->Hp->Prop} {Q:Hp->Prop} {R:Gp->AJ->Prop} {s:AJ} {σc:St} {ys:List V} {H:Hp} (T:Turn X.prog X.w X.K tg J cj.fp it tn)
  (I:Inv (cxC X sc NC cj) [] σc H s) (hf:∀b∈cj.fp,ybv (cxC X sc NC cj) [] H b) (st:tn 0 s.heap) {m:Nat} (w0:W 0 m σc ys H) (step:ycH J D g ti te W Q)
  (fin:∀σ' H' s',Inv (cxC X sc NC cj) [] σ' H' s'->Q H'->R (.ok .next) s'):
  codeAny (model X.prog X.w) X.A (.compLoop (.ListComp elt [⟨tg,iter,ifs,0⟩] sc pos) 0 (.ref it) (.ref D) (cxC X sc NC cj).env) R s:=by
 have stat:∀{H':Hp},(∀b∈cj.fp,H' b=AD)->∀b∈cj.fp,ybv (cxC X sc NC cj) [] H' b:=λhn b hb=>⟨hn b hb,(hf b hb).2⟩;refine zhJ (λn s'=>∃i σ' ys' H',Inv (cxC X sc NC cj) [] σ' H' s'/\tn i s'.heap/\(∀b∈cj.fp,H' b=AD)/\W i n σ' ys' H') ?_ m ⟨0,σc,ys,H,I,st,λb hb=>(hf b hb).1,w0⟩
 rintro n s3 ⟨i,σ3,ys3,H3,I3,st3,fr3,w3⟩
 let⟨hD,q⟩:=step i n σ3 ys3 H3 w3;rcases q with⟨stop,qn⟩|⟨go,hz,N,hN,turn⟩
 .refine thn (T.done (cxC X sc NC cj) rfl rfl rfl hc i [] s3 σ3 H3 No I3 (stat fr3) st3 stop) λr s4 kq=>?_;let⟨hr,I4⟩:=kq;subst hr;exact fin σ3 H3 s4 I4 qn
 .refine thn (T.item (cxC X sc NC cj) rfl rfl rfl hc i [] s3 σ3 H3 No I3 (stat fr3) st3 go) λr s4 kq=>?_;let⟨u,hr,h4⟩:=kq;subst hr;refine thn h4 λ_ s5 kq=>?_;let⟨x,H5,I5,r5,y5,st5,fr5⟩:=kq;have I5':=I5.pinned (stat fr5) (T.obj _ _ st5);refine thn (hg cj _ s5 σ3 H5 x u _ I5' r5 (turn x H5 y5)) λ_ s6 kq=>?_;let⟨σ6,H6,I6,q6⟩:=kq;refine thn (ht cj _ s6 σ6 H6 _ I6 q6) λok s7 kq=>?_;let⟨H7,I7,q7⟩:=kq;have again:∀{σ8:St} {ys8:List V} {H8:Hp} {s8:AJ},Inv (cxC X sc NC cj) ([]++ybq cj.fp s5.heap) σ8 H8 s8->N σ8 ys8 H8->∃m,m<n/\∃i σ' ys' H',Inv (cxC X sc NC cj) [] σ' H' s8/\tn i s8.heap/\(∀b∈cj.fp,H' b=AD)/\W i m σ' ys' H':=λ{σ8 ys8 H8 s8} I8 n8=>by
   let⟨m',hm,w8⟩:=hN σ8 ys8 H8 n8;refine⟨m',hm,i+1,σ8,ys8,H8,I8.unpinned,T.keep _ _ _ st5 λb hb o e=>(I8.pin (b,o) (BM _ (BM _ (zbA hb e)))).1,λb hb=>?_,w8⟩;let⟨o,e,d⟩:=T.obj _ _ st5 b hb;exact(I8.pin (b,o) (BM _ (BM _ (zbA hb e)))).2.1
  cases ok with
  |false=>
   rw[if_neg BG]at q7 ⊢;exact again I7 q7
  |true=>
   rw[if_pos rfl]at q7 ⊢;refine thn (he cj _ s7 σ6 H7 _ I7 q7) λy s8 kq=>?_;let⟨v,H8,I8,r8,hD8,q8⟩:=kq;refine thn (zeZ (X:=cxC X sc NC cj) _ s8 σ6 H8 (.ref D) [v] (.ref D) [y] (λz H'=>z=.non/\H'=upd H8 D (.lst (ys3++[v]))) I8 rfl (.cons r8 .nil) ⟨D,ys3,v,rfl,rfl,hD8,hz,rfl,rfl⟩) λz s9 kq=>?_;let⟨zv,H9,I9,r9,e1,e2⟩:=kq;subst e2;exact again I9 q8
theorem zg0(hc:X.calm=AB)(O:yav X sc NC slots)(hg:∀j,PG (cxC X sc NC j) tg g)(ht:∀j,PTs (cxC X sc NC j) ifs ti)(he:∀j,PE (cxC X sc NC j) elt te){pins:List (AI×CK)}{s:AJ}{σ:St}{H:Hp}(I:Inv X pins σ H s)
  {it:AI} {fp:List AI} {tn:Nat->BI->Prop} {J:It} (T:Turn X.prog X.w X.K tg J fp it tn) (st:tn 0 s.heap) (hf:∀b∈fp,ybv X pins H b) {Q:VK}
  (h:∀D,H D=AD->∃W:Nat->Nat->St->List V->Hp->Prop,(∃m,W 0 m (inn slots σ) [] (upd H D (.lst [])))/\ycH J D g ti te W (Q (.ref D))) {RR:AG->AI->Gp->AJ->Prop}
  (fin:∀D C s' H',Q (.ref D) H'->(∃o m,s'.heap.get? C=AA o/\s'.heap.Ns C m/\∀v,o.data ≠ .cell v)->ybv X pins H' C->(∀h2,Cd C s'.heap h2->Inv X pins σ H' {s' with heap:=h2})->RR (.ref D) C (.ok .next) s'):
  A3 (model X.prog X.w) X.A (newList []) (λacc s3=>A3 (model X.prog X.w) X.A (newFunctionEnv sc X.env.globals (ydw sc X.env) [] X.env.qual AD .none (AA X.env)) (λcenv s4=>
   codeAny (model X.prog X.w) X.A (.compStart (.ListComp elt [⟨tg,iter,ifs,0⟩] sc pos) 0 (.ref it) acc {cenv with scope:=relabel sc X.env}) (RR acc cenv.locals) s4) X.xe s3) X.xe s:=by
 refine BQ (wpAny_newFunctionEnv O.nocell (by intro y hy;simp at hy) (λh1 hns1 hsb1=>?_) O.kind);dsimp only at hns1 hsb1 ⊢;have hDn:H s.heap.objs.size=none:=I.hok.fresh (AT _);let⟨W,⟨m,w0⟩,step⟩:=h s.heap.objs.size hDn;obtain⟨s3,hs3⟩:∃x:AJ,x=({s with heap:=s.heap.push {cls:=.type "list",dict:=AD,data:=.seq ([]:List AG).toArray} }:AJ):=⟨_,rfl⟩;have e3:s3.heap=s.heap.push {cls:=.type "list",dict:=AD,data:=.seq ([]:List AG).toArray}:=by rw[hs3]
 rw[<-e3]at hns1 hsb1;have hp3:∀b o,s.heap.get? b=AA o->s3.heap.get? b=AA o:=λb o e=>by
  rw[e3];exact AM _ e
 have I3:Inv X pins σ (upd H s.heap.objs.size (.lst [])) s3:=by
  have q:=I.laid (a:=s.heap.objs.size) (o:=.lst []) (h':=s3.heap) (t':=s.toks) hp3 (AT _) ⟨DL _,[],_,.nil,by rw[e3];exact A6 _ rfl⟩;rw[hs3]at q ⊢;exact q
 have hf3:∀b∈fp,ybv X pins (upd H s.heap.objs.size (.lst [])) b:=λb hb=>by
  let⟨o,e,_⟩:=T.obj _ _ st b hb;refine⟨?_,(hf b hb).2⟩;rw[zk (Ar (A1 e))];exact(hf b hb).1
 have st3:tn 0 s3.heap:=T.keep _ _ _ st λb _ o e=>hp3 b o e;have hob:∀b∈fp,∃o,s3.heap.get? b=AA o:=λb hb=>by
  let⟨o,e,_⟩:=T.obj _ _ st3 b hb;exact⟨o,e⟩
 have hk1:∀b o,s3.heap.get? b=AA o->h1.get? b=AA o:=λb o e=>hsb1.extBut b o (Ar (A1 e)) (AM _ e);have J1:=zg1 (t':=s3.toks+([]:List (AS×AG)).length) I3 O hf3 hob hns1 hk1;have hfc:∀b∈fp,ybv (cxC X sc NC ⟨s3.heap.objs.size,s3,upd H s.heap.objs.size (.lst []),fp⟩) [] (upd H s.heap.objs.size (.lst [])) b:=λb hb=>
  ⟨(hf3 b hb).1,(J1.ok.exf b hb).1,J1.ok.exfs b hb,.inl hb,(J1.ok.exf b hb).2,λp hp=>nomatch hp⟩
 have loop:codeAny (model X.prog X.w) X.A (.compLoop (.ListComp elt [⟨tg,iter,ifs,0⟩] sc pos) 0 (.ref it) (.ref s.heap.objs.size) (cxC X sc NC ⟨s3.heap.objs.size,s3,upd H s.heap.objs.size (.lst []),fp⟩).env) (RR (.ref s.heap.objs.size) s3.heap.objs.size)
   {s3 with heap:=h1,toks:=s3.toks+([]:List (AS×AG)).length}:=by
  refine zjx (D:=s.heap.objs.size) (Q:=Q (.ref s.heap.objs.size)) hc hg ht he T J1 hfc (T.keep _ _ _ st3 λb _ o e=>hk1 b o e) w0 step λσ' H' s' J' q'=>?_;have fC:H' s3.heap.objs.size=none:=J'.free;refine fin _ _ s' H' q' ?_ (I3.fpOk (AT _) fC) λh2 hb=>zgT I3 hf3 (AT _) J' hb;let⟨m',hn',_⟩:=J'.loc;let⟨o,es,ep,ho,hd,r⟩:=id hn';exact⟨o,m',ho,hn',λv z=>by rw[hd]at z;cases z⟩
 have self:=λ(RQ:AG->AJ->Prop) (EE:AG->AJ->Prop)=>T.self X.A 0 {s3 with heap:=h1,toks:=s3.toks+([]:List (AS×AG)).length} RQ EE (T.keep _ _ _ st3 λb _ o e=>hk1 b o e);subst hs3;exact codeAny_compStart_list loop (self _ _ loop)
variable {wi:TI}
theorem zlu(hc:X.calm=AB)(O:yav X sc NC slots)(hi:PI X tg iter wi)(hg:∀j,PG (cxC X sc NC j) tg g)(ht:∀j,PTs (cxC X sc NC j) ifs ti)(he:∀j,PE (cxC X sc NC j) elt te)
  (hs:∀x,foldedSetIterable iter X.env x=pure x:=by intro _;rfl):PE X (.ListComp elt [⟨tg,iter,ifs,0⟩] sc pos) (ydO slots wi g ti te):=by
 intro pins s σ H Q I h;rw[eval_ListComp];refine wpAny_comprehension_free (use:=AD) rfl hs (zdl (O.cells I.ok)) O.kind O.names (thn (hi pins s σ H _ I h) λv s1 h1=>thn h1 λitv s2 h2=>?_);let⟨it,fp,tn,J,H2,rfl,I2,T,st2,f2,q2⟩:=h2;refine zg0 hc O hg ht he I2 T st2 f2 q2 λD C s' H' q' ⟨o,m,ho,hn,_⟩ _ out=>⟨m,hn,λh2 hb=>⟨.ref D,H',out h2 hb,rfl,q'⟩⟩
end
theorem zgy:∀{bs:List Bool} {us:List AG},Vals (bs.map V.bl) us->LSm.BoolsAre us bs
 |[],_,.nil=>.nil
 |b::bs,_,.cons r q=>by
  cases (show _=EJ b from r)
  exact .cons b (zgy q)
section
variable {X:Cx}
def yfT(K:AE):List V->Hp->VK->Prop:=λxs H Q=>∃(l:AI) (bs:List Bool),xs=[.ref l]/\SqL K H l (bs.map V.bl)/\Q (.bl (bs.all id)) H
theorem zko(hc:X.calm=AB):yat X (.builtin "all") (yfT X.K):=by
 intro pins s σ H xs us Q I r h;let⟨l,bs,rfl,hq,q⟩:=h;let⟨u,rfl,ru⟩:=Vals.one r
 cases (show u=An l from ru)
 let⟨its,rv,pl,hz⟩:=I.list hq;have hb:=zgy rv;have hl:=pl.isList;have hlt:l<s.heap.objs.size:=by
  let⟨_,e,_⟩:=hl;exact A1 e
 refine call_all_walk (GS hl ?_);refine⟨s.heap.objs.size,[s.heap.objs.size,l],[s.heap.objs.size],its.toArray.size,_,_,λi=>(bs[i]?).getD AB,rfl,Walks.list (A:=X.A.in1) (I.ok.hd hc) _ l (Ar hlt) its.toArray,⟨⟨_,A6 _ rfl,rfl,rfl⟩,hl.push _⟩,λi v s' Q' E' hP hQ=>?_,λh' tk hk=>?_⟩
 .let⟨b,e,rfl⟩:=hb.get i v (by simpa using hP);erw[e,CP]at hQ;exact Be hQ
 .have e:((CS its.toArray.size).all λi=>(bs[i]?).getD AB)=bs.all id:=by
   rw[AY,hb.length];exact LSm.range_all bs
  rw[e];exact⟨.bl _,H,I.kept (t':=tk) (LSm.kept_iter hk),rfl,q⟩
end
section
variable {X:Cx}{pins:List (AI×CK)}{σ:St}{H:Hp}{s:AJ}
end
section
variable {X:Cx}{a:AW}{ta:TE}{K:AE}
end
end L2
namespace L2
end L2
namespace L2
open PySem PySem.Spec PyProof.Rows
def CX1(P:Aa)(w:Ao):CXT:=λouter H s E e s'=>∃(a:AI) (cls a0:AG) (H':Hp) (B:BI),e=.ref a/\s'.os=s.os/\Dh s'.gens/\HN B outer a cls a0 s'.heap/\HOk P w H' s'.heap/\Un (frs outer) [] H H' s.heap s'.heap /\
 (∀b o,s.heap.get? b=AA o->H b=AD->b∉frs outer->B.get? b=AA o)/\(∀b u,H' b=AA u->∃o,B.get? b=AA o)/\(∀b o,s.heap.get? b=AA o->b∉frs outer->∃o',B.get? b=AA o')/\E cls AD H'
theorem yag.there{P:Aa}{w:Ao}{H:Hp}{h:BI}{a:AI}{o:HO}(x:yag P w H h a o):∃ob,h.get? a=AA ob:=by
 induction o with
 |lst xs=>let⟨_,_,_,_,e⟩:=x;exact⟨_,e⟩
 |tup xs=>let⟨_,_,_,ob,e,_⟩:=x;exact⟨ob,e⟩
 |dK kvs=>let⟨_,_,_,_,ob,_,_,e,_⟩:=x;exact⟨ob,e⟩
 |dT kvs=>let⟨_,_,_,_,ob,_,_,e,_⟩:=x;exact⟨ob,e⟩
 |set S n=>let⟨ob,_,_,_,e,_⟩:=x;exact⟨ob,e⟩
 |ins C dx fs=>let⟨_,_,_,e,_⟩:=x;exact⟨_,e⟩
 |own y=>exact x
 |xd fs=>let⟨_,⟨ob,_,_,e,_⟩,_⟩:=x;exact⟨ob,e⟩
 |rng lo hi=>let⟨_,_,_,e⟩:=x;exact⟨_,e⟩
 |frz ob u ih=>exact⟨ob,x.1⟩
 |tbl ps=>exact⟨_,x⟩
 |met f y=>exact⟨_,x⟩
 |ext φ=>exact x.2.1
theorem HOk.inB{P:Aa}{w:Ao}{H:Hp}{h h' B:BI}(ok:HOk P w H h)(hB:B.StaysIn h)(hB':B.StaysIn h')(tr:∀b u,H b=AA u->∃o,B.get? b=AA o):HOk P w H h':=λa o e=>
 (ok a o e).stay (λb u hb q=>by
  have hb':∃o,B.get? b=AA o:=by
   rcases hb with z|z
   .rw[z];exact tr a o e
   .exact tr b _ z
  let⟨o',q'⟩:=hb';have:=hB b o' q';rw[q]at this
  cases this
  exact hB' b u q') (λ_ q=>q) λ_ _ q=>q
section
variable {P:Aa}{w:Ao}{K:AE}{mg:AS->Option AG}{base:BI}{N:List AS}{qual:AS}{scope:Br}{f:AI}{cd:AG}{A:Ay}{outer:List Env}{s₀:AJ}{H₀:Hp}{E:XK}
 {pins:List (AI×CK)} {σ:St} {H:Hp} {s:AJ}
theorem ziR{h':BI}{e:AI}{cls:AG}{vs:List AG}(I:Inv (ya4 (CX1 P w) P w K mg base N qual scope f cd A outer s₀ H₀ E) pins σ H s)(hx:Gw s.heap h' e cls vs)(hE:E cls AD H):
  (ya4 (CX1 P w) P w K mg base N qual scope f cd A outer s₀ H₀ E).xe (.ref e) {s with heap:=h'}:=by
 have stk:s.heap.FunFrames base (envOfC qual scope s₀.heap.objs.size f cd::outer):=I.stack;have hst:∀b,b∈frs (envOfC qual scope s₀.heap.objs.size f cd::outer)->b=s₀.heap.objs.size \/ b∈frs outer:=λb hb=>by
  have hb':b∈s₀.heap.objs.size::frs outer:=hb;exact AO.mp hb'
 have inB:∀b o,s.heap.get? b=AA o->b∉frs (envOfC qual scope s₀.heap.objs.size f cd::outer)->(DG s.heap (frs (envOfC qual scope s₀.heap.objs.size f cd::outer))).get? b=AA o:=λb o q n=>Fc _ q n;have hB:(DG s.heap (frs (envOfC qual scope s₀.heap.objs.size f cd::outer))).StaysIn s.heap:=λb o q=>Fy _ q;have bse:Un (frs outer) [] H₀ H s₀.heap s.heap:=I.base;have lt:∀b o,s₀.heap.get? b=AA o->b≠s₀.heap.objs.size:=λb o q=>Ar (A1 q);have tr:∀b u,H b=AA u->∃o,(DG s.heap (frs (envOfC qual scope s₀.heap.objs.size f cd::outer))).get? b=AA o:=λb u q=>by
  let⟨o,ho⟩:=yag.there (I.hok b u q);exact⟨o,inB b o ho λhb=>by
   have:=I.stkFree b hb;rw[q]at this
   cases this⟩
 refine wpAny_leaves_madeW (base:=DG s.heap (frs (envOfC qual scope s₀.heap.objs.size f cd::outer))) (h:=s.heap) I.ok.frames rfl hB (PySem.W.funFrames_hide stk λenv he a ha=>EN.mpr ⟨env,he,ha⟩) hx λh'' t fl tu tn up=>?_;have up':s.heap.UpToSlots h'':=(HI hx.keeps).trans up;refine⟨e,cls,_,H,_,rfl,I.os,I.bare,fl,HOk.inB I.hok hB fl.1 tr,⟨λb o q n hb _=>?_,λb o q n hb _=>?_,bse.free,λb o q _=>?_,bse.tups,bse.frzs,bse.tbls⟩,λb o q n hb=>?_,tr,λb o q hb=>?_,hE⟩
 .refine fl.1 b o (inB b o (bse.keep b o q n hb (by simp)) λz=>?_);rcases hst b z with z|z
  .exact lt b o q z
  .exact hb z
 .let⟨sl,q1⟩:=bse.slot b o q n hb (by simp);let⟨_,o',ho',hd⟩:=CY stk (show b∈DU (λ(z:Env)=>z.frame) _ from AV _ hb);let⟨sl',q2⟩:=up' b _ q1 (by rw[ho']at q1;cases q1;exact hd);exact⟨sl',q2⟩
 .let⟨o',q1⟩:=bse.there b o q (by simp)
  by_cases hb:b∈frs (envOfC qual scope s₀.heap.objs.size f cd::outer)
  .let⟨_,o2,ho',hd⟩:=CY stk hb;let⟨sl',q2⟩:=up' b _ ho' hd;exact⟨_,q2⟩
  .exact⟨o',fl.1 b o' (inB b o' q1 hb)⟩
 .refine inB b o (bse.keep b o q n hb (by simp)) λz=>?_;rcases hst b z with z|z
  .exact lt b o q z
  .exact hb z
 .let⟨o',q1⟩:=bse.there b o q (by simp);refine⟨o',inB b o' q1 λz=>?_⟩;rcases hst b z with z|z
  .exact lt b o q z
  .exact hb z
theorem yew:ybQ (CX1 P w) (ya4 (CX1 P w) P w K mg base N qual scope f cd A outer s₀ H₀ E) E:=by
 intro pins σ H s e s' I h;let⟨a,cls,a0,H',B,rfl,os,bare,fl,hok,un,hB,tr,hT,hE⟩:=h;have bse:Un (frs outer) [] H₀ H s₀.heap s.heap:=I.base;have lt:∀b o,s₀.heap.get? b=AA o->b≠s₀.heap.objs.size:=λb o q=>Ar (A1 q);have hst:∀b,b∈frs (envOfC qual scope s₀.heap.objs.size f cd::outer)->b=s₀.heap.objs.size \/ b∈frs outer:=λb hb=>by
  have hb':b∈s₀.heap.objs.size::frs outer:=hb;exact AO.mp hb'
 have un':Un (frs (envOfC qual scope s₀.heap.objs.size f cd::outer)) [] H H' s.heap s'.heap:=un;have kB:∀b o,s₀.heap.get? b=AA o->H₀ b=AD->b∉frs outer->B.get? b=AA o:=λb o q n hb=>hB b o (bse.keep b o q n hb (by simp)) (bse.free b o q n (by simp)) λz=>by
  rcases hst b z with z|z
  .exact lt b o q z
  .exact hb z
 have kT:∀b o,s₀.heap.get? b=AA o->b∉frs outer->∃o',B.get? b=AA o':=λb o q hb=>by
  let⟨o',q1⟩:=bse.there b o q (by simp);refine hT b o' q1 λz=>?_;rcases hst b z with z|z
  .exact lt b o q z
  .exact hb z
 refine wpAny_leaves_onW I.ok.frames rfl fl λh'' fl' up=>?_;refine⟨a,cls,a0,H',B,rfl,os.trans I.os,bare,fl',HOk.inB hok fl.1 fl'.1 tr,⟨λb o q n hb _=>fl'.1 b o (kB b o q n hb),λb o q n hb _=>?_,λb o q n _=>?_,λb o q _=>?_,λb xs q=>un'.tups b xs (bse.tups b xs q),λb o u q=>un'.frzs b o u (bse.frzs b o u q),λb ps q=>?_⟩,kB,tr,kT,hE⟩
 .let⟨sl,q1⟩:=bse.slot b o q n hb (by simp);have n1:=bse.free b o q n (by simp);let⟨sl1,q2⟩:=un'.slot b _ q1 n1 (AV _ hb) (by simp);let⟨_,o',ho',hd⟩:=CY fl.2.2.1 (show b∈DU (λ(z:Env)=>z.frame) _ from AV _ hb);let⟨sl',q3⟩:=up b _ q2 (by rw[ho']at q2;cases q2;exact hd);exact⟨sl',q3⟩
 .let⟨o',q1⟩:=bse.there b o q (by simp);exact un'.free b o' q1 (bse.free b o q n (by simp)) (by simp)
 .let⟨o',q1⟩:=bse.there b o q (by simp);let⟨o2,q2⟩:=un'.there b o' q1 (by simp)
  by_cases hb:b∈frs outer
  .let⟨_,o3,ho3,hd⟩:=CY fl.2.2.1 (show b∈DU (λ(z:Env)=>z.frame) _ from AV _ hb);let⟨sl',q3⟩:=up b _ ho3 hd;exact⟨_,q3⟩
  .let⟨o4,q4⟩:=kT b o q hb;exact⟨o4,fl'.1 b o4 q4⟩
 .let⟨m1,e1⟩:=bse.tbls b ps q;let⟨m2,e2⟩:=un'.tbls b _ e1;exact⟨m1++m2,by rw[e2,EK]⟩
end
section
variable {X:Cx}{e:AW}{es:List AW}{te:TE}
end
section
variable {X:Cx}{e:AW}{es:List AW}{t:TA}{E:XK}
end
section
variable {pg:Aa}{wd:Ao}{A:Ay}{E:AG->AJ->Prop}{h:BI}{g:Array GenState}{d:Drawn}{t:Nat}{os:OsState}{a C:AI}{o:CK}{K:AE}
end
def ygD(a C:AI):BI->Prop:=λh=>∃o,h.get? a=AA o/\o.cls=.ref C
section
variable {X:Cx}
end
section
variable {X:Cx}{pins:List (AI×CK)}{σ:St}{H:Hp}{s:AJ}
end
section
variable {X:Cx}{pins:List (AI×CK)}{σ:St}{H:Hp}{s:AJ}
end
section
variable {X:Cx}{body suite:List CF}{b₀:CF}{x n:AS}{np hpos pos:C1}{tb:XK->TS}{ts:TS}{W:AI}{i:Nat}
end
structure ydr(k:Nat)(A:Ay):Prop where
 dp:A.depth+3*k+5<recursionLimit
 un:A.units+16*k+200<cLine
section
variable {P:Aa}{w:Ao}{K:AE}{mg:AS->Option AG}{base:BI}
end
section
variable {X:Cx}{k:Nat}{f:AI}{fd:BK}{ps:List AS}{sp:Sp}{x:AS}{p pos:C1}{e:AW}{es:List AW}{t:TA}
end
section
variable {P:Aa}{w:Ao}{K:AE}{mg:AS->Option AG}{base:BI}
theorem own1{N:List AS}{qual:AS}{scope:Br}{f:AI}{cd:AG}{A:Ay}{outer:List Env}{s:AJ}{H:Hp}{E:XK}{CX:CXT}:
  Es (model (ya4 CX P w K mg base N qual scope f cd A outer s H E).prog (ya4 CX P w K mg base N qual scope f cd A outer s H E).w) (ya4 CX P w K mg base N qual scope f cd A outer s H E).A (ya4 CX P w K mg base N qual scope f cd A outer s H E).env (ya4 CX P w K mg base N qual scope f cd A outer s H E).xe:=
 PassesOwn.leaving
end
section
variable {X:Cx}
end
section
variable {X:Cx}
def ygq(K:AE):List V->Hp->VK->Prop:=λxs H Q=>∃(l:AI) (ns:List Int),xs=[.ref l]/\SqL K H l (ns.map V.int)/\Q (.int ns.sum) H
theorem zjP(hc:X.calm=AB):yat X (.builtin "sum") (ygq X.K):=by
 intro pins s σ H xs us Q I r h;let⟨l,ns,rfl,hq,q⟩:=h;let⟨u,rfl,ru⟩:=Vals.one r
 cases (show u=An l from ru)
 let⟨its,rv,pl,hz⟩:=I.list hq;have hi:FH its ns:=zd8 rv;let⟨ys,e⟩:=hi.allInts.items;have hns:ns=ys.toList.map (·.1):=by rw[<-hi.numsOf,<-nums_intItems,<-e]
 have hl:=pl.isList;rw[e]at hl;refine sum_intListG (I.ok.hd hc) hl λh' tk t' hk=>⟨.int ns.sum,H,I.kept (t':=tk) hk,⟨t',?_⟩,q⟩;rw[preSum_eq,DV (by simp),<-hns]
def ygb(K:AE):List V->Hp->VK->Prop:=λxs H Q=>∃(l:AI) (ns:List Int),xs=[.ref l]/\SqL K H l (ns.map V.int)/\0<ns.length/\∀M,M∈ns->(∀a,a∈ns->a<=M)->Q (.int M) H
theorem zij(hc:X.calm=AB):yat X (.builtin "max") (ygb X.K):=by
 intro pins s σ H xs us Q I r h;let⟨l,ns,rfl,hq,hne,q⟩:=h;let⟨u,rfl,ru⟩:=Vals.one r
 cases (show u=An l from ru)
 let⟨its,rv,pl,hz⟩:=I.list hq;have hi:FH its ns:=zd8 rv;let⟨ys,e⟩:=hi.allInts.items;have hns:ns=ys.toList.map (·.1):=by rw[<-hi.numsOf,<-nums_intItems,<-e]
 have hsz:0<ys.size:=by
  rw[hns,Ap,CL]at hne;exact hne
 have hl:=pl.isList;rw[e]at hl;refine max_intList (I.ok.hd hc) hl hsz λv h' tk hv hk=>?_;let⟨t,rfl⟩:=intItems_at hv;let⟨h1,h2⟩:=argBest_gt (numAt ys) (ys.size-1);refine⟨.int _,H,I.kept (t':=tk) hk,⟨t,rfl⟩,q _ ?_ λa ha=>?_⟩
 .rw[hns,numAt_eq];exact getD_mem (by rw[Ap,CL];lia)
 .rw[hns]at ha;let⟨j,hj,rfl⟩:=mem_getD ha;rw[Ap,CL]at hj;rw[<-numAt_eq];exact h2 j (by lia)
end
section
variable {κ:Type}[DecidableEq κ]
def ybH(kvs:List (κ×V))(k:κ):Option V:=(kvs.find? λkv=>decide (kv.1=k)).map (·.2)
def putK(kvs:List (κ×V))(k:κ)(v:V):List (κ×V):=
 if (kvs.any λkv=>decide (kv.1=k))=AB then kvs.map (λkv=>if kv.1=k then(kv.1,v)else kv)else kvs++[(k,v)]
theorem zbT{p:κ×V}{r:List (κ×V)}{k:κ}(e:p.1=k):ybH (p::r) k=AA p.2:=by simp[ybH,CJ,e]
theorem zbS{p:κ×V}{r:List (κ×V)}{k:κ}(e:¬p.1=k):ybH (p::r) k=ybH r k:=by simp[ybH,CJ,e]
theorem zgh(k:κ):∀kvs:List (κ×V),(kvs.any λkv=>decide (kv.1=k))=(ybH kvs k).isSome
 |[]=>rfl
 |p::r=>by
  rw[Bs]
  by_cases e:p.1=k
  .simp only[zbT e,decide_eq_true e,GT,Option.isSome_some]
  .rw[zbS e,decide_eq_false e,Fq];exact zgh k r
theorem zda(kvs:List (κ×V))(k:κ)(v:V):(putK kvs k v).length<=kvs.length+1:=by
 unfold putK;split
 .rw[Ap];lia
 .rw[Af,AX,BV];lia
theorem ybx.isSome_eq{o:Option V}{u:Option AG}(r:ybx o u):o.isSome=u.isSome:=by
 cases o with
 |none=>cases u with
  |none=>rfl
  |some _=>exact(show False from r).elim
 |some _=>cases u with
  |none=>exact(show False from r).elim
  |some _=>rfl
theorem ybx.getD{o:Option V}{u:Option AG}{d:V}{d':AG}(r:ybx o u)(rd:RelV d d'):RelV (o.getD d) (u.getD d'):=by
 cases o with
 |none=>cases u with
  |none=>exact rd
  |some _=>exact(show False from r).elim
 |some _=>cases u with
  |none=>exact(show False from r).elim
  |some _=>exact r
theorem KV.val{kvs:List (κ×V)}{vs:List (κ×AG)}(r:KV kvs vs)(k:κ):ybx (ybH kvs k) (valueAt vs k):=by
 unfold KV at r
 induction r with
 |nil=>exact Cf
 |@cons p q ps qs h t ih=>
  let⟨h1,h2⟩:=h
  by_cases e:p.1=k
  .have e':q.1=k:=h1.symm.trans e;have b:valueAt (q::qs) k=AA q.2:=by simp[valueAt,CJ,e']
   rw[zbT e,b];exact h2
  .have e':¬q.1=k:=λz=>e (h1.trans z);have b:valueAt (q::qs) k=valueAt qs k:=by simp[valueAt,CJ,e']
   rw[zbS e,b];exact ih
theorem KV.any{kvs:List (κ×V)}{vs:List (κ×AG)}(r:KV kvs vs)(k:κ):(kvs.any λkv=>decide (kv.1=k))=vs.any λkv=>decide (kv.1=k):=by
 unfold KV at r
 induction r with
 |nil=>rfl
 |cons h t ih=>rw[Bs,Bs,ih,h.1]
theorem KV.repl{kvs:List (κ×V)}{vs:List (κ×AG)}(r:KV kvs vs)(k:κ){y:V}{u:AG}(ry:RelV y u):
  KV (kvs.map λkv=>if kv.1=k then(kv.1,y)else kv) (vs.map λkv=>if kv.1=k then(kv.1,u)else kv):=by
 unfold KV at r ⊢
 induction r with
 |nil=>exact .nil
 |@cons p q ps qs h t ih=>
  rw[AL,AL];refine .cons ?_ ih;let⟨h1,h2⟩:=h
  by_cases e:p.1=k
  .rw[if_pos e,if_pos (h1.symm.trans e)];exact⟨h1,ry⟩
  .rw[if_neg e,if_neg (λz=>e (h1.trans z))];exact⟨h1,h2⟩
theorem KV.put{kvs:List (κ×V)}{vs:List (κ×AG)}(r:KV kvs vs)(k:κ){y:V}{u:AG}(ry:RelV y u):KV (putK kvs k y) (stored vs k u):=by
 unfold putK stored;rw[r.any k]
 by_cases e:(vs.any λkv=>decide (kv.1=k))=AB
 .rw[if_pos e,if_pos e];exact r.repl k ry
 .rw[if_neg e,if_neg e];exact Ha r ⟨rfl,ry⟩
theorem KV.length{kvs:List (κ×V)}{vs:List (κ×AG)}(r:KV kvs vs):kvs.length=vs.length:=El r
end
theorem zl0{P:Aa}{w:Ao}{k:Key}{u:AG}(r:RelV (kV k) u):(yW P w).is k u=true:=by
 cases k with
 |inl i=>let⟨t,e⟩:=(show ∃t,u=Ep i t from r);subst e;exact zfO P w i t
 |inr x=>let⟨t,e⟩:=(show ∃t,u=GX x t from r);subst e;exact zfB P w x t
theorem zfx{P:Aa}{w:Ao}:∀{ks:List Key} {us:List AG},Vals (ks.map kV) us->ItemsAre (yW P w) ks us
 |[],_,r=>by rw[Ak]at r;cases r;exact .nil
 |k::ks,_,r=>by
  rw[AL]at r
  cases r with
  |cons h t=>exact .cons (zl0 h) (zfx t)
abbrev KT(H:Hp):List (List Key×V)->List (List Key×AI×AG)->Prop:=Gn λp q=>p.1=q.1/\H q.2.1=AA (.tup (p.1.map kV))/\RelV p.2 q.2.2
theorem KT.val{H:Hp}{kvs:List (List Key×V)}{xs:List (List Key×AI×AG)}(r:KT H kvs xs)(k:List Key):ybx (ybH kvs k) ((atKey xs k).map (·.2)):=by
 induction r with
 |nil=>exact Cf
 |@cons p q ps qs h t ih=>
  let⟨h1,_,h2⟩:=h
  by_cases e:p.1=k
  .have e':q.1=k:=h1.symm.trans e;have b:atKey (q::qs) k=AA q.2:=by simp[atKey,CJ,e']
   rw[zbT e,b];exact h2
  .have e':¬q.1=k:=λz=>e (h1.trans z);have b:atKey (q::qs) k=atKey qs k:=by simp[atKey,CJ,e']
   rw[zbS e,b];exact ih
theorem KT.repl{H:Hp}{kvs:List (List Key×V)}{xs:List (List Key×AI×AG)}(r:KT H kvs xs)(k:List Key){y:V}{u:AG}(ry:RelV y u):
  KT H (kvs.map λkv=>if kv.1=k then(kv.1,y)else kv) (xs.map (putAt k u)):=by
 induction r with
 |nil=>exact .nil
 |@cons p q ps qs h t ih=>
  rw[AL,AL];refine .cons ?_ ih;let⟨h1,h2,h3⟩:=h;unfold putAt
  by_cases e:p.1=k
  .rw[if_pos e,if_pos (h1.symm.trans e)];exact⟨h1,h2,ry⟩
  .rw[if_neg e,if_neg (λz=>e (h1.trans z))];exact⟨h1,h2,h3⟩
theorem KT.put{H:Hp}{kvs:List (List Key×V)}{xs:List (List Key×AI×AG)}(r:KT H kvs xs)(k:List Key){b:AI}{y:V}{u:AG}(hb:H b=AA (.tup (k.map kV)))(ry:RelV y u):
  KT H (putK kvs k y) (storedH xs k b u):=by
 have e:(kvs.any λkv=>decide (kv.1=k))=(atKey xs k).isSome:=by
  rw[zgh,(r.val k).isSome_eq,Option.isSome_map]
 unfold putK storedH;rw[e]
 by_cases q:(atKey xs k).isSome=AB
 .rw[if_pos q,if_pos q];exact r.repl k ry
 .rw[if_neg q,if_neg q];exact Ha r ⟨rfl,hb,ry⟩
theorem KT.keeps{H H':Hp}{kvs:List (List Key×V)}{xs:List (List Key×AI×AG)}(r:KT H kvs xs)(ht:∀b ys,H b=AA (.tup ys)->H' b=AA (.tup ys)):KT H' kvs xs:=
 Paired.mapP r λ_ _ z=>⟨z.1,ht _ _ z.2.1,z.2.2⟩
section
variable {P:Aa}{w:Ao}{H:Hp}{h:BI}{a:AI}
theorem zoW{u:HO}(ok:HOk P w H h)(e:Rd H a u):yag P w H h a u:=e.ok ok
theorem zmE{kvs:List (Key×V)}(ok:HOk P w H h)(e:Rd H a (.dK kvs)):kvs.length<=sizeLine/\(a==sysModules)=AC/\∃vs,KV kvs vs/\h.DictOf (yW P w) a vs:=
 show yag P w H h a (.dK kvs)from zoW ok e
theorem zp6{kvs:List (Key×V)}(ok:HOk P w H h)(e:H a=AA (.dK kvs)):kvs.length<=sizeLine/\(a==sysModules)=AC/\∃vs,KV kvs vs/\h.DictOf (yW P w) a vs:=zmE ok (.inl e)
theorem zit{ks:List Key}(ok:HOk P w H h)(e:H a=AA (.tup (ks.map kV))):(tupleKind (yW P w)).is h ks a:=by
 let⟨_,its,r,o,h1,h2,n,h3⟩:=(show yag P w H h a (.tup (ks.map kV))from ok a _ e);exact⟨o,its.toArray,n,h1,h2,h3,by simpa using zfx r⟩
theorem zlq{kvs:List (List Key×V)}(ok:HOk P w H h)(e:Rd H a (.dT kvs)):kvs.length<=sizeLine/\(a==sysModules)=AC /\
  ∃xs,KT H kvs xs/\h.DictOfH (tupleKind (yW P w)) a xs:=by
 let⟨z,y,xs,r,o,es,ep,h1,h2,h3,h4,h5⟩:=(show yag P w H h a (.dT kvs)from zoW ok e);refine⟨z,y,xs,r,o,es,ep,h1,h2,h3,h4,λx hx=>?_,h5⟩;have all:∀{l:List (List Key×V)} {m:List (List Key×AI×AG)},KT H l m->∀x∈m,(tupleKind (yW P w)).is h x.1 x.2.1:=by
  intro l m q
  induction q with
  |nil=>intro x hx;exact nomatch hx
  |@cons p q ps qs hq t ih=>
   intro x hx;rcases AO.mp hx with e|hx
   .subst e;exact zit ok (by rw[<-hq.1];exact hq.2.1)
   .exact ih x hx
 exact all r x hx
theorem zp8{kvs:List (List Key×V)}(ok:HOk P w H h)(e:H a=AA (.dT kvs)):kvs.length<=sizeLine/\(a==sysModules)=AC /\
  ∃xs,KT H kvs xs/\h.DictOfH (tupleKind (yW P w)) a xs:=zlq ok (.inl e)
end
def yfc(H:Hp)(a:AI)(y:V)(r:Option V):Prop:=
 (∃kvs k,Rd H a (.dK kvs)/\y=kV k/\r=ybH kvs k) \/ ∃kvs k b,Rd H a (.dT kvs)/\y=.ref b/\H b=AA (.tup (k.map kV))/\r=ybH kvs k
def ye7(H:Hp)(a:AI)(y v:V)(H':Hp):Prop:=
 (∃kvs k,H a=AA (.dK kvs)/\y=kV k/\kvs.length<sizeLine/\H'=upd H a (.dK (putK kvs k v))) \/
 ∃kvs k b,H a=AA (.dT kvs)/\y=.ref b/\H b=AA (.tup (k.map kV))/\kvs.length<sizeLine/\H'=upd H a (.dT (putK kvs k v))
section
variable {X:Cx}{pins:List (AI×CK)}{σ:St}{H:Hp}{s:AJ}{a:AI}{y v:V}{u r:AG}{o:Option V}{A:Ay}{E:AG->AJ->Prop}
theorem Inv.big(I:Inv X pins σ H s):sysModules<s.heap.objs.size:=by
 have h:mainGlobals<s.heap.objs.size:=(I.mod.glob.keeps I.bk).lt;exact Nat.lt_trans (by decide) h
theorem zjb{h':BI}{t':Nat}{ob:HO}(I:Inv X pins σ H s)(mu:Mut (H a))(hs:Cd a s.heap h')(he:∃q,h'.get? a=AA q)(new:yag X.prog X.w (upd H a ob) h' a ob):
  Inv X pins σ (upd H a ob) {s with heap:=h',toks:=t'}:=
 I.write (x:=a) (e:=a) mu (.inl rfl) (λb q hb z=>(hs.2 b hb).trans z) he new
theorem zpA{P:Aa}{w:Ao}{H':Hp}{h':BI}{kvs:List (Key×V)}{vs:List (Key×AG)}(z:kvs.length<=sizeLine)(hd:(a==sysModules)=AC)(rel:KV kvs vs)(dd:h'.DictOf (yW P w) a vs):
  yag P w H' h' a (.dK kvs):=⟨z,hd,vs,rel,dd⟩
theorem zh8{H':Hp}{Q:Unit->AJ->Prop}(hu:A.units+1<cLine)(I:Inv X pins σ H s)(g:ye7 H a y v H')(ry:RelV y u)(rv:RelV v r)(h:∀s',Inv X pins σ H' s'->Q () s'):
  A3 (model X.prog X.w) A (setItem (.ref a) u r) Q E s:=by
 rcases g with⟨kvs,k,e,ey,l,eH⟩|⟨kvs,k,b,e,ey,eb,l,eH⟩
 .subst ey eH;let⟨z,hd,vs,rel,dd⟩:=zp6 I.hok e;have hz:vs.length<=sizeLine:=by rw[<-rel.length];exact z
  have hl:(putK kvs k v).length<=sizeLine:=by have:=zda kvs k v;lia
  refine wpAny_setItem_pairs (hsz:=hz) (zl0 ry) dd λh' dd' hs=>h _ ?_;have he:∃q,h'.get? a=AA q:=let ⟨q,_,_,hq,_⟩:=dd';⟨q,hq⟩
  exact zjb I (by rw[e];exact Cf) hs he (zpA hl hd (rel.put k rv) dd')
 .subst ey eH
  cases (show u=An b from ry)
  let⟨z,hd,xs,rel,dd⟩:=zp8 I.hok e;have hz:xs.length<=sizeLine:=by rw[<-El rel];exact z
  have hl:(putK kvs k v).length<=sizeLine:=by have:=zda kvs k v;lia
  refine wpAny_setItem_heap (hsz:=hz) (GB hu) (zit I.hok eb) dd λh' dd' hs=>h _ ?_;let⟨q,es,ep,hq,h2,h3,h4,_,h5⟩:=dd';refine zjb I (by rw[e];exact Cf) hs ⟨q,hq⟩ ⟨hl,hd,_,(rel.put k eb rv).keeps λc ys ec=>?_,q,es,ep,hq,h2,h3,h4,h5⟩;rw[zk (zqu ec e (λz=>nomatch z))];exact ec
end
section
variable {X:Cx}{pins:List (AI×CK)}{σ:St}{H:Hp}{s:AJ}{a:AI}{kvs:List (Key×V)}{k:Key}{u:AG}{A:Ay}{E:AG->AJ->Prop}
end
def yda(i:AW):Prop:=∀ov iv,subscripted i AC ov iv=operate [ov,iv] (getItem ov iv)
theorem ziv{prog:Aa}{w:Ao}{A:Ay}{E:AG->AJ->Prop}{s:AJ}{env:Env}{value slice:AW}{pos:C1}{T id:String}{Q:AG->AJ->Prop}
  (hl:typeLookup (.type T) "__getitem__"=pure (AA (.builtin id))) (hs:yda slice)
  (h:A3 (model prog w) A (eval value env) (λo s₁=>A3 (model prog w) A (eval slice env) (λi s₂=>s₂.TypeIs o T/\A3 (model prog w) A (getItem o i) Q E s₂) E s₁) E s):
  A3 (model prog w) A (eval (.Subscript value slice pos) env) Q E s:=by
 refine Fz (C4 h (λo s₁ h₁=>C4 h₁ (λi s₂ h₂=>?_) λ_ _ x=>x) λ_ _ x=>x);let⟨hT,h₂⟩:=h₂;unfold subscriptTail;refine AH ?_;rw[getitemInPython_of_ne hT.not_modules];refine AH (wpAny_specialOf hT hl ?_);have fin:A3 (model prog w) A (subscripted slice AC o i) (λr s₃=>A3 (model prog w) A (letTemporaryGo value o r >>= λ_=>pure r) Q E s₃) E s₂:=by
  rw[hs o i];exact wpAny_operating (C4 h₂ (λr s₃ h₃=>AH (wpAny_letTemporaryGo (AN h₃))) λ_ _ x=>x)
 first
  |exact AN (AH fin)
  |exact AH (AN (AH fin))
  |exact AH fin
def yen(td ty tv:TE):TS:=λD σ H=>tv σ H λv H1=>td σ H1 λx H2=>ty σ H2 λy H3=>∃a H4,x=.ref a/\ye7 H3 a y v H4/\D.nx σ H4
section
variable {X:Cx}{o i e value:AW}{pos pos' tpos:C1}{td ty tv:TE}
theorem zlp(hu:X.A.units+1<cLine)(ho:PE X o td)(hi:PE X i ty)(hv:PE X value tv)(hs:swapsWith value (AA (.Subscript o i pos')) pos.line X.env=pure AC):
  PS X (.Assign [.Subscript o i pos'] value pos) (yen td ty tv):=by
 intro pins s σ H D I h;refine wpAny_Assign_Subscript (thn (hv pins s σ H _ I h) λr s1 kq=>?_) hs;let⟨v,H1,I1,rv,q1⟩:=kq;refine thn (ho pins s1 σ H1 _ I1 q1) λu s2 kq=>?_;let⟨x,H2,I2,rx,q2⟩:=kq;refine thn (hi pins s2 σ H2 _ I2 q2) λiv s3 kq=>?_;let⟨y,H3,I3,ry,a,H4,ex,g,q3⟩:=kq;subst ex;obtain rfl:u=An a:=rx;exact zh8 hu I3 g ry rv λs4 I4=>⟨σ,H4,I4,q3⟩
end
theorem zjA{P:Aa}{w:Ao}{H:Hp}(h:BI)(hb:sysModules<h.objs.size):yag P w H (h.push {cls:=.type "dict",data:=.dict #[]}) h.objs.size (.dT []):=
 ⟨DL _,beq_eq_false_iff_ne.mpr (BP (Ar hb)),[],.nil,_,#[],0,A6 _ rfl,⟨rfl,rfl,rfl⟩,rfl,rfl,List.nodup_nil⟩
def ydN:TE:=λ_ H Q=>∀p,H p=AD->Q (.ref p) (upd H p (.dT []))
section
variable {X:Cx}{pos:C1}
theorem yci:PE X (.Dict [] [] pos) ydN:=λpins s σ H Q I h=>
 wpAny_Dict_empty ⟨.ref s.heap.objs.size,_,I.laid (a:=s.heap.objs.size) (o:=.dT []) (t':=s.toks) (λ_ _ q=>AM _ q) (AT _) (zjA s.heap I.big),rfl,h _ (I.hok.fresh (AT _))⟩
end
structure M2(X:Cx)(o:AW)(m:AS)(apos:C1)(e f:AW)(cpos:C1):Prop where
 base:attributeBase o m X.env (eval o X.env)=eval o X.env
 few:((backTo cpos (starEach [e,f] X.env)).all (λx=>!x.1)&&(backToKw cpos (keywordEach [] X.env)).all (λx=>x.1.isSome)
  && decide (([e,f]:List AW).length+([]:List C8).length+(if ([]:List C8).isEmpty then 0 else 1)<30))=AB
 line:(apos.endLine==cpos.line)=AB
 trees:backTo cpos (starEach [e,f] X.env)=[(AC,eval e X.env),(AC,eval f X.env)]
def IsD(H:Hp)(a:AI):Prop:=(∃kvs,Rd H a (.dK kvs)) \/ ∃kvs,Rd H a (.dT kvs)
theorem zo7{X:Cx}{pins:List (AI×CK)}{σ:St}{H:Hp}{s:AJ}{a:AI}(I:Inv X pins σ H s)(d:IsD H a):
  s.TypeIs (.ref a) "dict"/\(∀b,An a=.ref b->∃ob,s.heap.get? b=AA ob/\ob.dict=AD)/\(a==sysModules)=false:=by
 rcases d with⟨kvs,e⟩|⟨kvs,e⟩
 .let⟨_,hd,vs,_,dd⟩:=zmE I.hok e;refine⟨dd.typeIs,λb q=>?_,hd⟩
  cases q
  let⟨ob,_,_,h1,h2,_⟩:=dd;exact⟨ob,h1,h2.2.1⟩
 .let⟨_,hd,xs,_,dd⟩:=zlq I.hok e;refine⟨dd.typeIs,λb q=>?_,hd⟩
  cases q
  let⟨ob,_,_,h1,h2,_⟩:=dd;exact⟨ob,h1,h2.2.1⟩
section
variable {X:Cx}{pins:List (AI×CK)}{σ:St}{H:Hp}{s:AJ}{a:AI}{y d:V}{u r:AG}{o:Option V}{A:Ay}{E:AG->AJ->Prop}
theorem zpr{Q:AG->AJ->Prop}(hu:A.units+1<cLine)(I:Inv X pins σ H s)(g:yfc H a y o)(ry:RelV y u)(rd:RelV d r)(h:∀w' s',Inv X pins σ H s'->RelV (o.getD d) w'->Q w' s'):
  A3 (model X.prog X.w) A (call (.builtin "dict.get") [.ref a,u,r]) Q E s:=by
 rcases g with⟨kvs,k,e,ey,l⟩|⟨kvs,k,b,e,ey,eb,l⟩
 .subst ey;let⟨z,hd,vs,rel,dd⟩:=zmE I.hok e;refine call_meetsIn D6 dd.typeIs FL (Ey _ _ _) (meets_dict_get_default (yW X.prog X.w) a (zl0 ry) hd r) ⟨_,dd.mapOf,h _ _ (I.tok _) ?_⟩;rw[l];exact(rel.val k).getD rd
 .subst ey
  cases (show u=An b from ry)
  let⟨z,hd,xs,rel,dd⟩:=zlq I.hok e;refine call_meetsIn D6 dd.typeIs FL (Ey _ _ _) (meetsH_dict_get_default (tupleKind (yW X.prog X.w)) a b hd r) ⟨GB hu,k,xs,zit I.hok eb,dd,h _ _ (I.tok _) ?_⟩;rw[l];exact(rel.val k).getD rd
end
def ydg(td ty tx:TE):TE:=λσ H Q=>td σ H λx H1=>∃a,x=.ref a/\IsD H1 a/\ty σ H1 λy H2=>tx σ H2 λz H3=>∃o,yfc H3 a y o/\Q (o.getD z) H3
section
variable {X:Cx}{o e f:AW}{apos cpos:C1}{td ty tx:TE}
theorem zkj(hu:X.A.units+1<cLine)(ho:PE X o td)(he:PE X e ty)(hf:PE X f tx)(m:M2 X o "get" apos e f cpos):PE X (.Call (.Attribute o "get" apos) [e,f] [] cpos) (ydg td ty tx):=by
 intro pins s σ H Q I h;refine wpAny_Call_method m.base m.few m.line PySem.F.plainAttrs_dict D6 PySem.F.type_dict_get (thn (ho pins s σ H _ I h) λu s1 kq=>?_);let⟨x,H1,I1,rx,a,ex,d,q1⟩:=kq;subst ex;obtain rfl:u=An a:=rx;let⟨t1,t2,_⟩:=zo7 I1 d;refine⟨t1,t2,?_⟩;rw[m.trees];refine FK rfl (F0 (ER (thn (he pins s1 σ H1 _ I1 q1) λiv s2 ⟨y,H2,I2,ry,q2⟩=>
  ER (thn (hf pins s2 σ H2 _ I2 q2) λfv s3 ⟨z,H3,I3,rz,ov,g,q3⟩=>GN ?_))))
 exact zpr hu I3 g ry rz λw' s4 I4 rw'=>⟨_,H3,I4,rw',q3⟩
end
section
variable {X:Cx}{pins:List (AI×CK)}{σ:St}{H:Hp}{s:AJ}{a:AI}{kvs:List (Key×V)}{A:Ay}{E:AG->AJ->Prop}
end
section
variable {X:Cx}{pins:List (AI×CK)}{σ:St}{H:Hp}{s:AJ}{a:AI}{y:V}{u:AG}{A:Ay}{E:AG->AJ->Prop}
end
end L2
namespace IC
open PySem
inductive PV where
 |non|bl (b:Bool)|int (i:Int)|str (x:AS)|tp (k:Bool) (xs:List PV)|lst (xs:List PV)|loc (n:Nat)|exn (c:Nat)|scr (xs:List PV)
deriving Inhabited
noncomputable abbrev PV.tup(xs:List PV):PV:=.tp AC xs
mutual
noncomputable def nL:PV->Bool
 |.loc _=>AC
 |.exn _=>AC
 |.tp _ xs=>nLs xs
 |.lst xs=>nLs xs
 |.scr xs=>nLs xs
 |_=>AB
noncomputable def nLs:List PV->Bool
 |[]=>AB
 |x::xs=>nL x&&nLs xs
end
mutual
noncomputable def shd(n:Nat):PV->Bool
 |.non=>AB
 |.bl _=>AB
 |.int _=>AB
 |.str x=>x.cps.all (· < 0x110000)
 |.tp _ xs=>decide (0<n)&&ybK (n-1) xs
 |.lst xs=>decide (0<n)&&ybK (n-1) xs
 |_=>AC
noncomputable def ybK(n:Nat):List PV->Bool
 |[]=>AB
 |x::xs=>shd n x&&ybK n xs
end
abbrev shp(v:PV):Bool:=shd 60 v
noncomputable def flat:PV->Bool
 |.non=>AB
 |.bl _=>AB
 |.int _=>AB
 |.str _=>AB
 |_=>AC
noncomputable def bi(b:Bool):Int:=if b then 1 else 0
mutual
noncomputable def peq:PV->PV->Bool
 |.non,.non=>AB
 |.bl a,.bl b=>a==b
 |.bl a,.int j=>bi a==j
 |.int i,.bl b=>i==bi b
 |.int i,.int j=>i==j
 |.str x,.str y=>x==y
 |.tp _ xs,.tp _ ys=>ybu xs ys
 |.lst xs,.lst ys=>ybu xs ys
 |_,_=>AC
noncomputable def ybu:List PV->List PV->Bool
 |[],[]=>AB
 |x::xs,y::ys=>peq x y&&ybu xs ys
 |_,_=>AC
end
inductive Ob where
 |lst (xs:List PV)|dct (t:Bool) (kvs:List (PV×PV))|dead|ins (c:Nat) (fs:List (AS×PV))
noncomputable abbrev Env:=List (Option PV)
noncomputable abbrev SO:=List Ob
inductive R(α:Type) where
 |ok (a:α) (st:SO)|exc (c:Nat) (st:SO)|bad
noncomputable def R.bind{α β:Type}(r:R α)(k:α->SO->R β):R β:=
 match r with
 |.ok a st=>k a st
 |.exc c st=>.exc c st
 |.bad=>.bad
inductive BOp where
 |add|sub|mul|fdiv|mod|pow|shl|shr|band|bor|bxor
inductive COp where
 |eq|ne|lt|le|gt|ge|is|isnot|isin|notin
inductive Ty where
 |int|bool|str|tuple|list|cls (c:Nat)|val
inductive Blt where
 |len|int|abs|min|max|tuple|list|all|sum|dict|rev|str|any
inductive Mth where
 |append|extend|get|bits|upper|insert|count|index|join|split|sidx|clear
inductive Tg where
 |n (i:Nat)|t (l:List Nat)
set_option genInjectivity false
mutual
inductive Ce where
 |cst (v:PV)
 |var (i:Nat)
 |bin (o:BOp) (a b:Ce)
 |neg (a:Ce)
 |not (a:Ce)
 |and (a b:Ce)
 |or (a b:Ce)
 |cmp (o:COp) (a b:Ce)
 |chain (o p:COp) (a b c:Ce)
 |ite (c a b:Ce)
 |tup (es:Ces)
 |lst (es:Ces)
 |newl (es:Ces)
 |dict0 (t:Bool)
 |idx (a i:Ce)
 |slc (a:Ce) (lo hi:Ce)
 |call (f:Nat) (args:Ces)
 |blt (b:Blt) (args:Ces)
 |mth (m:Mth) (o:Ce) (args:Ces)
 |isi (a:Ce) (t:List Ty)
 |comp (sl:List (Option Nat)) (tg:Tg) (it:Cit) (c:Ce) (e:Ce)
 |frz (a:Ce)
 |nope
 |dix (D:List (AS×PV)) (a:Ce)
 |din (a:Ce) (D:List (AS×PV))
 |fld (c:Nat) (a:Ce) (f:AS)
 |new (c i:Nat) (es:Ces)
 |mcl (c i:Nat) (m:AS) (o:Ce) (es:Ces)
inductive Ces where
 |nil
 |cons (e:Ce) (es:Ces)
inductive Cit where
 |seq (e:Ce)
 |range1 (a:Ce)
 |range2 (a b:Ce)
 |rangeD (a b:Ce)
 |enum (e:Ce)
 |zip (a b:Ce)
 |revl (e:Ce)
 |revr (a:Ce)
 |chars (e:Ce)
end
set_option genInjectivity true
abbrev Ce.i(n:Int):Ce:=.cst (.int n)
abbrev Ce.s(x:AS):Ce:=.cst (.str x)
abbrev Ce.v:=Ce.var
abbrev Ces.k:=Ces.cons
abbrev Ces.e:=Ces.nil
mutual
inductive Cs where
 |expr (e:Ce)
 |asg (t:Tg) (e:Ce)
 |six (o i e:Ce)
 |dput (o i e:Ce)
 |aug (i:Nat) (o:BOp) (e:Ce)
 |ret (e:Ce)
 |ite (c:Ce) (a b:Css)
 |for (t:Tg) (it:Cit) (b:Css)
 |while (c:Ce) (b:Css)
 |nope
 |sfl (c:Nat) (o:Ce) (f:AS) (e:Ce)
 |mkr (i:Nat) (D:List (AS×Nat)) (n:Ce) (es:Ces)
inductive Css where
 |nil
 |cons (s:Cs) (ss:Css)
end
abbrev Css.k:=Css.cons
abbrev Css.e:=Css.nil
noncomputable def yaI(i j:Int):Bool:=(decide (i.natAbs<18446744073709551616)) || (decide (j.natAbs<18446744073709551616))
def binI(o:BOp)(i j:Int):Option PV:=
 match o with
 |.add=>AA (.int (i+j))
 |.sub=>AA (.int (i-j))
 |.mul=>if yaI i j then AA (.int (i*j))else AD
 |.fdiv=>if 0<j/\j<10000000000000000000000000000000000000000000000000000000000000000000000 then AA (.int (i/j))else AD
 |.mod=>if 0<j then AA (.int (i%j))else AD
 |.pow=>if 0<=j/\j<=1000000/\i.natAbs<18446744073709551616 then AA (.int (i^j.toNat))else AD
 |.shl=>if 0<=j/\j<=1000000/\i.natAbs<18446744073709551616 then AA (.int (i*2^j.toNat))else AD
 |.shr=>if 0<=j then AA (.int (i/2^j.toNat))else AD
 |.band=>AA (.int (BH i j))
 |.bor=>AA (.int (Az i j))
 |.bxor=>AA (.int (BR i j))
noncomputable def sizeMax:Nat:=16777216
noncomputable def yeP(k:Bool)(a:List PV)(j:Bool)(b:List PV):PV:=if a.isEmpty then .tp j b else if b.isEmpty then .tp k a else .tup (a++b)
def yG(o:BOp)(x y:PV):Option PV:=
 match x,y with
 |.int i,.int j=>binI o i j
 |.int i,.bl b=>match o with
  |.add=>AA (.int (i+bi b))
  |_=>AD
 |.str a,.str b=>match o with
  |.add=>if a.length+b.length<=sizeMax then AA (.str (a++b))else AD
  |_=>AD
 |.tp k a,.tp j b=>match o with
  |.add=>if a.length+b.length<=sizeMax then AA (yeP k a j b)else AD
  |_=>AD
 |.lst a,.lst b=>match o with
  |.add=>if a.length+b.length<=sizeMax then AA (.lst (a++b))else AD
  |_=>AD
 |_,_=>AD
def ybS(o:BOp)(x y:PV):Option PV:=
 match x,y with
 |.int i,.int j=>binI o i j
 |_,_=>AD
noncomputable def isNon:PV->Bool
 |.non=>AB
 |_=>AC
def inL(x:PV):List PV->Bool
 |[]=>AC
 |y::ys=>peq y x || inL x ys
noncomputable def inS(a b:AS):Bool:=(CS (b.length+1)).any λi=>decide (i+a.length<=b.length)&&(b.cps.extract i (i+a.length)==a.cps)
noncomputable def ybN(o:COp)(i j:Int):Option PV:=
 match o with
 |.lt=>AA (.bl (decide (i<j)))
 |.le=>AA (.bl (decide (i<=j)))
 |.gt=>AA (.bl (decide (j<i)))
 |.ge=>AA (.bl (decide (j<=i)))
 |_=>AD
noncomputable def yer(o:COp)(a b:AS):Option PV:=
 match o with
 |.lt=>AA (.bl (decide (a.cps.toList<b.cps.toList)))
 |.le=>AA (.bl (!decide (b.cps.toList<a.cps.toList)))
 |_=>AD
def yN(o:COp)(x y:PV):Option PV:=
 match o with
 |.eq=>if shp x&&shp y then AA (.bl (peq x y))else AD
 |.ne=>if shp x&&shp y then AA (.bl (!peq x y))else AD
 |.is=>match y with
  |.non=>AA (.bl (isNon x))
  |.bl b=>match x with
   |.bl a=>AA (.bl (a==b))
   |_=>AD
  |_=>AD
 |.isnot=>match y with
  |.non=>AA (.bl (!isNon x))
  |.bl b=>match x with
   |.bl a=>AA (.bl (!(a==b)))
   |_=>AD
  |_=>AD
 |.isin=>match x,y with
  |.str a,.str b=>AA (.bl (inS a b))
  |x,.tp _ l=>if flat x&&l.all flat then AA (.bl (inL x l))else AD
  |x,.lst l=>if flat x&&l.all flat then AA (.bl (inL x l))else AD
  |_,_=>AD
 |.notin=>match x,y with
  |.str a,.str b=>AA (.bl (!inS a b))
  |x,.tp _ l=>if flat x&&l.all flat then AA (.bl (!inL x l))else AD
  |x,.lst l=>if flat x&&l.all flat then AA (.bl (!inL x l))else AD
  |_,_=>AD
 |o=>match x,y with
  |.int i,.int j=>ybN o i j
  |.str a,.str b=>yer o a b
  |_,_=>AD
def yaQ(st:SO)(x:PV):Option Bool:=
 match x with
 |.non=>AA AC
 |.bl b=>AA b
 |.int i=>AA (i != 0)
 |.str y=>if y.length<=sizeMax then AA ((y.length:Int) != 0)else AD
 |.tp _ xs=>AA (!xs.isEmpty)
 |.lst xs=>AA (!xs.isEmpty)
 |.loc n=>match st[n]? with
  |some (.lst xs)=>AA (!xs.isEmpty)
  |_=>AD
 |_=>AD
noncomputable def ixI(n:Nat)(i:Int):Option Nat:=if 0<=i then(if i<n then AA i.toNat else AD)else if -(n:Int)<=i then AA (i+n).toNat else AD
def at?{α:Type}(xs:List α)(i:Int):Option α:=(ixI xs.length i).bind λj=>xs[j]?
def look(k:PV):List (PV×PV)->Option PV
 |[]=>AD
 |(a,b)::r=>if peq a k then AA b else look k r
def put(k v:PV)(kvs:List (PV×PV)):List (PV×PV):=
 if (kvs.any λp=>peq p.1 k)=AB then kvs.map (λp=>if peq p.1 k=AB then(p.1,v)else p)else kvs++[(k,v)]
noncomputable def ybO:PV->Bool
 |.int _=>AB
 |.str _=>AB
 |_=>AC
def isKey(t:Bool)(k:PV):Bool:=
 match t with
 |false=>ybO k
 |true=>match k with
  |.tp AC xs=>xs.all ybO
  |_=>AC
noncomputable def yba{α:Type}(xs:List α)(i:PV):Option α:=
 match i with
 |.int k=>at? xs k
 |_=>AD
def idxV(st:SO)(x i:PV):Option PV:=
 match x with
 |.tp _ xs=>yba xs i
 |.lst xs=>yba xs i
 |.str s=>if s.length<=sizeMax then(yba s.cps.toList i).map λc=>.str ⟨#[c]⟩else AD
 |.loc n=>match st[n]? with
  |some (.lst xs)=>yba xs i
  |_=>AD
 |_=>AD
noncomputable def ybt(n:Nat)(v:Int):Nat:=if v<0 then(v+(n:Int)).toNat else min v.toNat n
def ycN(n:Nat)(lo:Option Int):Nat:=
 match lo with
 |none=>0
 |some i=>ybt n i
def ydc(n:Nat)(hi:Option Int):Nat:=
 match hi with
 |none=>n
 |some i=>ybt n i
def cut{α:Type}(xs:List α)(lo hi:Option Int):List α:=(xs.drop (ycN xs.length lo)).take (ydc xs.length hi-ycN xs.length lo)
noncomputable def ycg:PV->Option (Option Int)
 |.non=>AA AD
 |.int i=>AA (AA i)
 |_=>AD
def ycF(x:PV)(a b:Option Int):Option PV:=
 match x with
 |.tp k xs=>if ycN xs.length a=0/\ydc xs.length b=xs.length then AA (.tp k xs)else AA (.tup (cut xs a b))
 |.str s=>if s.length<=sizeMax then AA (.str ⟨(cut s.cps.toList a b).toArray⟩)else AD
 |.lst xs=>AA (.lst (cut xs a b))
 |.scr xs=>AA (.lst (cut xs a b))
 |_=>AD
def yc3(x:PV)(a:Option Int)(hi:PV):Option PV:=
 match ycg hi with
 |some b=>ycF x a b
 |none=>AD
noncomputable def ybC(x:PV)(t:Ty):Bool:=
 match x,t with
 |.int _,.int=>AB
 |.bl _,.int=>AB
 |.bl _,.bool=>AB
 |.str _,.str=>AB
 |.tp _ _,.tuple=>AB
 |.lst _,.list=>AB
 |.exn c,.cls d=>c==d
 |.exn _,.val=>AB
 |_,_=>AC
noncomputable def ydB:Ty->Bool
 |.cls _=>AC
 |.val=>AC
 |_=>AB
def ya2(x:PV)(ts:List Ty):Option PV:=
 match x with
 |.loc _=>AD
 |.scr _=>AD
 |.exn c=>if ts.all ydB then AD else AA (.bl (ts.any (ybC (.exn c))))
 |x=>match ts with
  |[t]=>if ydB t then AA (.bl (ybC x t))else AD
  |_=>AD
noncomputable def allB:List PV->Option Bool
 |[]=>AA AB
 |.bl b::r=>match allB r with
  |some c=>AA (b&&c)
  |none=>AD
 |_::_=>AD
noncomputable def ycE:List PV->Option Int
 |[]=>AA 0
 |.int i::r=>match ycE r with
  |some c=>AA (i+c)
  |none=>AD
 |_::_=>AD
noncomputable def ydq:List PV->Option Int
 |[]=>AD
 |[.int i]=>AA i
 |.int i::r=>match ydq r with
  |some c=>AA (if i<c then c else i)
  |none=>AD
 |_::_=>AD
noncomputable def yb8(st:SO):PV->Option (List PV)
 |.tp _ xs=>AA xs
 |.lst xs=>AA xs
 |.loc n=>match st[n]? with
  |some (.lst xs)=>AA xs
  |_=>AD
 |_=>AD
noncomputable def yah(st:SO):PV->Option (List PV)
 |.lst xs=>AA xs
 |.loc n=>match st[n]? with
  |some (.lst xs)=>AA xs
  |_=>AD
 |_=>AD
def lenV(st:SO)(x:PV):Option PV:=
 match x with
 |.str s=>if s.length<=sizeMax then AA (.int s.length)else AD
 |x=>(yb8 st x).map λxs=>.int xs.length
def yfP(x:PV):Option PV:=
 match x with
 |.int i=>AA (.int i)
 |.bl k=>AA (.int (bi k))
 |_=>AD
noncomputable def yek(x:PV):Option PV:=
 match x with
 |.int i=>AA (.int (if i<0 then -i else i))
 |_=>AD
noncomputable def yeO(x y:PV):Option PV:=
 match x,y with
 |.int i,.int j=>AA (.int (if j<i then j else i))
 |_,_=>AD
noncomputable def maxV(x y:PV):Option PV:=
 match x,y with
 |.int i,.int j=>AA (.int (if i<j then j else i))
 |_,_=>AD
def yeU(st:SO)(x:PV):Option PV:=
 match x with
 |.tp k xs=>AA (.tp k xs)
 |x=>(yah st x).map .tup
noncomputable def yeM:PV->Option PV
 |.tp _ xs=>if xs.isEmpty then AD else AA (.tup xs.reverse)
 |.lst xs=>AA (.lst xs.reverse)
 |_=>AD
noncomputable def anyB:List PV->Option Bool
 |[]=>AA AC
 |.bl b::r=>match anyB r with
  |some c=>AA (b || c)
  |none=>AD
 |_=>AD
noncomputable def anyI:List PV->Option Bool
 |[]=>AA AC
 |.int i::r=>match anyI r with
  |some c=>AA ((i != 0) || c)
  |none=>AD
 |_=>AD
noncomputable def ygh:PV->Option PV
 |.int i=>if i=0 then AA (.str "0")else if i=1 then AA (.str "1")else AD
 |_=>AD
def yaA(b:Blt)(st:SO)(vs:List PV):Option PV:=
 match vs with
 |[x]=>match b with
  |.len=>lenV st x
  |.int=>yfP x
  |.abs=>yek x
  |.max=>(yah st x).bind λxs=>(ydq xs).map .int
  |.tuple=>yeU st x
  |.list=>(yb8 st x).map .lst
  |.all=>(yah st x).bind λxs=>(allB xs).map .bl
  |.sum=>(yah st x).bind λxs=>(ycE xs).map .int
  |.rev=>yeM x
  |.str=>ygh x
  |.any=>match x with
   |.tp _ xs=>(anyI xs).map .bl
   |x=>(yah st x).bind λxs=>(anyB xs).map .bl
  |_=>AD
 |[x,y]=>match b with
  |.min=>yeO x y
  |.max=>maxV x y
  |_=>AD
 |_=>AD
noncomputable def ybl(st:SO):PV->Option (Bool×List (PV×PV))
 |.loc n=>match st[n]? with
  |some (.dct t xs)=>AA (t,xs)
  |_=>AD
 |_=>AD
def yaR(m:Mth)(st:SO)(x:PV):Option Bool:=
 match m with
 |.append=>(yah st x).map λ_=>AB
 |.extend=>(yah st x).map λ_=>AB
 |.insert=>(yah st x).map λ_=>AB
 |.count=>(yah st x).map λ_=>AB
 |.index=>(yah st x).map λ_=>AB
 |.get=>(ybl st x).map λ_=>AB
 |.bits=>match x with
  |.int _=>AA AB
  |_=>AD
 |.upper=>match x with
  |.str _=>AA AB
  |_=>AD
 |.join=>match x with
  |.str _=>AA AB
  |_=>AD
 |.split=>match x with
  |.str _=>AA AB
  |_=>AD
 |.sidx=>match x with
  |.str _=>AA AB
  |_=>AD
 |.clear=>match x with
  |.loc n=>(yah st (.loc n)).map λ_=>AB
  |_=>AD
noncomputable def yd3(st:SO)(o v:PV):R PV:=
 match o with
 |.loc n=>match st[n]? with
  |some (.lst xs)=>if xs.length<1000000 then .ok .non (st.set n (.lst (xs++[v])))else .bad
  |_=>.bad
 |_=>.bad
noncomputable def yfM(st:SO)(o v:PV):R PV:=
 match o with
 |.loc n=>match st[n]? with
  |some (.lst xs)=>match v with
   |.lst ys=>if xs.length+ys.length<=1000000 then .ok .non (st.set n (.lst (xs++ys)))else .bad
   |_=>.bad
  |_=>.bad
 |_=>.bad
noncomputable def yfz(st:SO)(o i v:PV):R PV:=
 match o with
 |.loc n=>match st[n]? with
  |some (.lst xs)=>match i with
   |.int k=>if 0<=k/\k<=xs.length/\xs.length<1000000 then .ok .non (st.set n (.lst (xs.take k.toNat++v::xs.drop k.toNat)))else .bad
   |_=>.bad
  |_=>.bad
 |_=>.bad
def ydV(st:SO)(o k d:PV):R PV:=
 match ybl st o with
 |some (t,kvs)=>if isKey t k then .ok ((look k kvs).getD d) st else .bad
 |none=>.bad
def yfO(st:SO)(o v:PV):R PV:=
 match yah st o with
 |some xs=>if flat v&&xs.all flat then .ok (.int (xs.countP λy=>peq y v)) st else .bad
 |none=>.bad
def ydK(v:PV):List PV->Option Nat
 |[]=>AD
 |y::ys=>if peq y v then AA 0 else(ydK v ys).map (·+1)
def ygz(st:SO)(o v:PV):R PV:=
 match yah st o with
 |some xs=>if flat v&&xs.all flat then(match ydK v xs with
  |some j=>.ok (.int j) st
  |none=>.bad)else .bad
 |none=>.bad
noncomputable def upC(c:Nat):Nat:=if 97<=c/\c<=122 then c-32 else c
def upS(s:AS):Str:=⟨(s.cps.toList.map upC).toArray⟩
noncomputable def ycb(c:Nat):List Nat->List (List Nat)
 |[]=>[[]]
 |x::xs=>if x=c then []::ycb c xs else match ycb c xs with
  |[]=>[[x]]
  |p::ps=>(x::p)::ps
noncomputable def strsOf:List PV->Option (List AS)
 |[]=>AA []
 |.str s::r=>(strsOf r).map (s :: ·)
 |_=>AD
def yev(st:SO)(o v:PV):R PV:=
 match o,yah st v with
 |.str s,AA xs=>match strsOf xs with
  |some ys=>if s.length<=10/\xs.length<=1000/\(ys.all λy=>decide (y.length<=1000))=AB then .ok (.str (Str.join s ys)) st else .bad
  |none=>.bad
 |_,_=>.bad
noncomputable def yfZ(st:SO)(o:PV):R PV:=
 match o with
 |.loc n=>match st[n]? with
  |some (.lst _)=>.ok .non (st.set n (.lst []))
  |_=>.bad
 |_=>.bad
noncomputable def ye3(st:SO)(o v:PV):R PV:=
 match o,v with
 |.str s,.str y=>if s=AF "01" then(if y=AF "0" then .ok (.int 0) st else if y=AF "1" then .ok (.int 1) st else .bad)else .bad
 |_,_=>.bad
def ydi(st:SO)(o v:PV):R PV:=
 match o,v with
 |.str s,.str y=>match y.cps.toList with
  |[c]=>if s.length<=100000 then .ok (.lst ((ycb c s.cps.toList).map λl=>.str ⟨l.toArray⟩)) st else .bad
  |_=>.bad
 |_,_=>.bad
def ycq(m:Mth)(st:SO)(o:PV)(vs:List PV):R PV:=
 match m,vs with
 |.append,[v]=>yd3 st o v
 |.extend,[v]=>yfM st o v
 |.insert,[i,v]=>yfz st o i v
 |.get,[k,d]=>ydV st o k d
 |.count,[v]=>yfO st o v
 |.index,[v]=>ygz st o v
 |.join,[v]=>yev st o v
 |.split,[v]=>ydi st o v
 |.sidx,[v]=>ye3 st o v
 |.clear,[]=>yfZ st o
 |.bits,[]=>match o with
  |.int i=>.ok (.int (Builtin.Int.intBits i)) st
  |_=>.bad
 |.upper,[]=>match o with
  |.str s=>if s.cps.toList.all (· < 128)/\s.length<=1000000 then .ok (.str (upS s)) st else .bad
  |_=>.bad
 |_,_=>.bad
noncomputable def toR(o:Option PV)(st:SO):R PV:=
 match o with
 |some v=>.ok v st
 |none=>.bad
noncomputable def yR(t:Tg)(v:PV)(ρ:Env):Option Env:=
 match t,v with
 |.n i,v=>AA (ρ.set i (AA v))
 |.t l,.tp _ xs=>if l.length=xs.length then AA ((l.zip xs).foldl (λρ p=>ρ.set p.1 (AA p.2)) ρ)else AD
 |_,_=>AD
noncomputable def yL:Nat->List PV->List PV
 |_,[]=>[]
 |k,x::xs=>.tup [.int k,x]::yL (k+1) xs
noncomputable def yaX:List PV->List PV->List PV
 |x::xs,y::ys=>.tup [x,y]::yaX xs ys
 |_,_=>[]
noncomputable def ygt:PV->Option (List PV)
 |.tp _ xs=>AA xs.reverse
 |.lst xs=>AA xs.reverse
 |_=>AD
noncomputable def ydv:PV->Option (List PV)
 |.str s=>if s.length<=1000000 then AA (s.cps.toList.map λc=>.str ⟨#[c]⟩)else AD
 |_=>AD
def yd5(x y:PV):Option (List PV):=
 match x,y with
 |.tp _ xs,.tp _ ys=>if xs.length<=ys.length then AA (yaX xs ys)else AD
 |_,_=>AD
noncomputable def yaT(s:AS):List (AS×PV)->Option PV
 |[]=>AD
 |(a,b)::r=>if decide (a=s)then AA b else yaT s r
def ycS(D:List (AS×PV))(x:PV):Option PV:=
 match x with
 |.str s=>yaT s D
 |_=>AD
def ycD(D:List (AS×PV))(x:PV):Option PV:=
 match x with
 |.str s=>AA (.bl (yaT s D).isSome)
 |_=>AD
noncomputable def yu:Nat->Int->Int->List PV
 |0,_,_=>[]
 |n+1,a,d=>.int a::yu n (a+d) d
def ybY(x:PV):Option (List PV):=
 match x with
 |.int j=>if j.natAbs<1000000000 then AA (yu j.toNat 0 1)else AD
 |_=>AD
def ygu(x:PV):Option (List PV):=
 match x with
 |.int j=>if 0<=j/\j<1000000000 then AA (yu j.toNat (j-1) (-1))else AD
 |_=>AD
def yhj(x y:PV):Option (List PV):=
 match x,y with
 |.int i,.int j=>if i.natAbs<1000000000/\j.natAbs<1000000000 then AA (yu (j-i).toNat i 1)else AD
 |_,_=>AD
def ygo(x y:PV):Option (List PV):=
 match x,y with
 |.int i,.int j=>if i.natAbs<1000000000/\j.natAbs<1000000000 then AA (yu (i-j).toNat i (-1))else AD
 |_,_=>AD
noncomputable def toL(o:Option (List PV))(st:SO):R (List PV):=
 match o with
 |some v=>.ok v st
 |none=>.bad
noncomputable def ydn(v:PV)(st:SO):R PV:=
 match v with
 |.loc n=>match st[n]? with
  |some (.lst xs)=>.ok (.lst xs) (st.set n .dead)
  |_=>.bad
 |v=>.ok v st
noncomputable def mkV(D:List (AS×Nat))(b:Bool)(x:PV):Option Nat:=
 match x with
 |.str s=>if b then D.lookup s else AD
 |_=>AD
noncomputable def ybb(c:Nat)(st:SO)(x:PV)(f:AS):Option PV:=
 match x with
 |.loc n=>match st[n]? with
  |some (.ins d fs)=>if d=c then fs.lookup f else AD
  |_=>AD
 |_=>AD
noncomputable def ybT(f:AS)(v:PV):List (AS×PV)->List (AS×PV)
 |[]=>[(f,v)]
 |(g,x)::r=>if g=f then(g,v)::r else(g,x)::ybT f v r
def ybc(c:Nat)(st:SO)(x:PV)(f:AS)(v:PV):Option SO:=
 match x with
 |.loc n=>match st[n]? with
  |some (.ins d fs)=>if d=c/\fs.length<1000 then AA (st.set n (.ins c (ybT f v fs)))else AD
  |_=>AD
 |_=>AD
noncomputable def yb9(c:Nat)(m:AS)(st:SO)(x:PV):Option Bool:=
 match x with
 |.loc n=>match st[n]? with
  |some (.ins d fs)=>if d=c/\fs.lookup m=AD then AA AB else AD
  |_=>AD
 |_=>AD
noncomputable def newV(n:Nat)(v:PV)(st:SO):R PV:=
 match v with
 |.non=>.ok (.loc n) st
 |_=>.bad
noncomputable def ybE(r:R PV):R PV:=
 match r with
 |.ok v st=>.ok v st
 |_=>.bad
inductive Fl where
 |nx (ρ:Env) (st:SO)|rt (v:PV) (st:SO)|bk (ρ:Env) (st:SO)|ct (ρ:Env) (st:SO)|exc (c:Nat) (ρ:Env) (st:SO)|bad
noncomputable def onBl{α:Type}(x:PV)(k:Bool->R α):R α:=
 match x with
 |.bl b=>k b
 |_=>.bad
noncomputable def onO{α:Type}(o:Option Bool)(k:Bool->R α):R α:=
 match o with
 |some b=>k b
 |none=>.bad
noncomputable def onF(o:Option Bool)(k:Bool->Fl):Fl:=
 match o with
 |some b=>k b
 |none=>.bad
noncomputable def onP{α:Type}(o:Option (Option Int))(k:Option Int->R α):R α:=
 match o with
 |some b=>k b
 |none=>.bad
noncomputable def blO(o:Option PV):Option Bool:=
 match o with
 |some (.bl b)=>AA b
 |_=>AD
noncomputable def yb7(o:Option PV)(ys:List PV):List PV:=
 match o with
 |some y=>y::ys
 |none=>ys
def ya0(one:PV->SO->R (Option PV)):List PV->SO->R (List PV)
 |[],st=>.ok [] st
 |x::xs,st=>(one x st).bind λo st1=>(ya0 one xs st1).bind λys st2=>.ok (yb7 o ys) st2
noncomputable def ycd(r:R (List PV)):R PV:=
 match r with
 |.ok ys st=>if ys.length<=1000000 then .ok (.lst ys) st else .bad
 |_=>.bad
mutual
noncomputable def ev(call:Nat->List PV->SO->R PV)(ρ:Env)(st:SO):Ce->R PV
 |.cst v=>.ok v st
 |.var i=>match ρ[i]? with
  |some (AA v)=>.ok v st
  |_=>.bad
 |.bin o a b=>(ev call ρ st a).bind λx st1=>(ev call ρ st1 b).bind λy st2=>toR (yG o x y) st2
 |.neg a=>(ev call ρ st a).bind λx st1=>match x with
  |.int i=>.ok (.int (-i)) st1
  |_=>.bad
 |.not a=>(ev call ρ st a).bind λx st1=>onBl x λk=>.ok (.bl (!k)) st1
 |.and a b=>(ev call ρ st a).bind λx st1=>onBl x λk=>cond k (ev call ρ st1 b) (.ok (.bl AC) st1)
 |.or a b=>(ev call ρ st a).bind λx st1=>onBl x λk=>cond k (.ok (.bl AB) st1) (ev call ρ st1 b)
 |.cmp o a b=>(ev call ρ st a).bind λx st1=>(ev call ρ st1 b).bind λy st2=>toR (yN o x y) st2
 |.chain o p a b c=>(ev call ρ st a).bind λx st1=>(ev call ρ st1 b).bind λy st2=>onO (blO (yN o x y)) λk=>cond k ((ev call ρ st2 c).bind λz st3=>toR (yN p y z) st3) (.ok (.bl AC) st2)
 |.ite c a b=>(ev call ρ st c).bind λx st1=>onO (yaQ st1 x) λk=>cond k (ev call ρ st1 a) (ev call ρ st1 b)
 |.tup es=>(evs call ρ st es).bind λvs st1=>if vs.length<=sizeMax then .ok (.tup vs) st1 else .bad
 |.lst es=>(evs call ρ st es).bind λvs st1=>if vs.length<=sizeMax then .ok (.lst vs) st1 else .bad
 |.newl es=>(evs call ρ st es).bind λvs st1=>if vs.length<=sizeMax then .ok (.loc st1.length) (st1++[.lst vs])else .bad
 |.dict0 t=>.ok (.loc st.length) (st++[.dct t []])
 |.idx a i=>(ev call ρ st a).bind λx st1=>(ev call ρ st1 i).bind λy st2=>toR (idxV st2 x y) st2
 |.slc a l h=>(ev call ρ st a).bind λx st1=>(ev call ρ st1 l).bind λy st2=>onP (ycg y) λo=>(ev call ρ st2 h).bind λz st3=>toR (yc3 x o z) st3
 |.call f es=>(evs call ρ st es).bind λvs st1=>call f vs st1
 |.blt b es=>(evs call ρ st es).bind λvs st1=>toR (yaA b st1 vs) st1
 |.mth m o es=>(ev call ρ st o).bind λx st1=>onO (yaR m st1 x) λ_=>(evs call ρ st1 es).bind λvs st2=>ycq m st2 x vs
 |.isi a ts=>(ev call ρ st a).bind λx st1=>toR (ya2 x ts) st1
 |.comp sl tg it c e=>(evi call ρ st it).bind λxs st1=>
  let ρ0:Env:=sl.map λo=>o.bind λj=>(ρ[j]?).join
  ycd (ya0 (λx st2=>match yR tg x ρ0 with
   |none=>.bad
   |some ρ1=>(ev call ρ1 st2 c).bind λb st3=>onO (yaQ st3 b) λk=>cond k ((ev call ρ1 st3 e).bind λy st4=>.ok (AA y) st4) (.ok AD st3)) xs st1)
 |.nope=>.bad
 |.frz a=>(ev call ρ st a).bind λx st1=>ydn x st1
 |.dix D a=>(ev call ρ st a).bind λx st1=>toR (ycS D x) st1
 |.din a D=>(ev call ρ st a).bind λx st1=>toR (ycD D x) st1
 |.fld c a f=>(ev call ρ st a).bind λx st1=>toR (ybb c st1 x f) st1
 |.new c i es=>(evs call ρ st es).bind λvs st1=>(ybE (call i (.loc st1.length::vs) (st1++[.ins c []]))).bind λv st2=>newV st1.length v st2
 |.mcl c i m o es=>(ev call ρ st o).bind λx st1=>onO (yb9 c m st1 x) λ_=>(evs call ρ st1 es).bind λvs st2=>call i (x::vs) st2
noncomputable def evs(call:Nat->List PV->SO->R PV)(ρ:Env)(st:SO):Ces->R (List PV)
 |.nil=>.ok [] st
 |.cons e es=>(ev call ρ st e).bind λv st1=>(evs call ρ st1 es).bind λvs st2=>.ok (v::vs) st2
noncomputable def evi(call:Nat->List PV->SO->R PV)(ρ:Env)(st:SO):Cit->R (List PV)
 |.seq e=>(ev call ρ st e).bind λv st1=>match v with
  |.tp _ xs=>.ok xs st1
  |.lst xs=>.ok xs st1
  |_=>.bad
 |.range1 a=>(ev call ρ st a).bind λx st1=>toL (ybY x) st1
 |.range2 a b=>(ev call ρ st a).bind λx st1=>(ev call ρ st1 b).bind λy st2=>toL (yhj x y) st2
 |.rangeD a b=>(ev call ρ st a).bind λx st1=>(ev call ρ st1 b).bind λy st2=>toL (ygo x y) st2
 |.enum e=>(ev call ρ st e).bind λv st1=>match v with
  |.tp _ xs=>.ok (yL 0 xs) st1
  |_=>.bad
 |.zip a b=>(ev call ρ st a).bind λx st1=>(ev call ρ st1 b).bind λy st2=>toL (yd5 x y) st2
 |.revl e=>(ev call ρ st e).bind λv st1=>toL (ygt v) st1
 |.revr a=>(ev call ρ st a).bind λx st1=>toL (ygu x) st1
 |.chars e=>(ev call ρ st e).bind λv st1=>toL (ydv v) st1
end
noncomputable def R.fl{α:Type}(r:R α)(ρ:Env)(k:α->SO->Fl):Fl:=
 match r with
 |.ok a st=>k a st
 |.exc c st=>.exc c ρ st
 |.bad=>.bad
noncomputable def yaG(f:Fl)(k:Env->SO->Fl):Fl:=
 match f with
 |.nx ρ st=>k ρ st
 |.ct ρ st=>k ρ st
 |.bk ρ st=>.nx ρ st
 |f=>f
def forL(t:Tg)(body:Env->SO->Fl):List PV->Env->SO->Fl
 |[],ρ,st=>.nx ρ st
 |x::xs,ρ,st=>match yR t x ρ with
  |none=>.bad
  |some ρ1=>yaG (body ρ1 st) λρ2 st2=>forL t body xs ρ2 st2
def yax(test:Env->SO->R PV)(body:Env->SO->Fl):Nat->Env->SO->Fl
 |0,_,_=>.bad
 |n+1,ρ,st=>(test ρ st).fl ρ λx st1=>onF (yaQ st1 x) λk=>cond k (yaG (body ρ st1) λρ2 st2=>yax test body n ρ2 st2) (.nx ρ st1)
def ybD(st:SO)(o i v:PV):Option SO:=
 match o with
 |.loc n=>match st[n]? with
  |some (.lst xs)=>match i with
   |.int k=>match ixI xs.length k with
    |some j=>AA (st.set n (.lst (xs.set j v)))
    |none=>AD
   |_=>AD
  |_=>AD
 |_=>AD
def ybm(st:SO)(o i v:PV):Option SO:=
 match o with
 |.loc n=>match st[n]? with
  |some (.dct t kvs)=>if isKey t i/\kvs.length<1000000 then AA (st.set n (.dct t (put i v kvs)))else AD
  |_=>AD
 |_=>AD
mutual
noncomputable def ex(call:Nat->List PV->SO->R PV)(ρ:Env)(st:SO):Cs->Fl
 |.expr e=>(ev call ρ st e).fl ρ λ_ st1=>.nx ρ st1
 |.asg t e=>(ev call ρ st e).fl ρ λv st1=>match yR t v ρ with
  |some ρ1=>.nx ρ1 st1
  |none=>.bad
 |.six o i e=>(ev call ρ st e).fl ρ λv st1=>(ev call ρ st1 o).fl ρ λx st2=>(ev call ρ st2 i).fl ρ λy st3=>match ybD st3 x y v with
  |some st4=>.nx ρ st4
  |none=>.bad
 |.dput o i e=>(ev call ρ st e).fl ρ λv st1=>(ev call ρ st1 o).fl ρ λx st2=>(ev call ρ st2 i).fl ρ λy st3=>match ybm st3 x y v with
  |some st4=>.nx ρ st4
  |none=>.bad
 |.aug i o e=>match ρ[i]? with
  |some (AA x)=>(ev call ρ st e).fl ρ λy st1=>match ybS o x y with
   |some z=>.nx (ρ.set i (AA z)) st1
   |none=>.bad
  |_=>.bad
 |.ret e=>(ev call ρ st e).fl ρ λv st1=>.rt v st1
 |.ite c a b=>(ev call ρ st c).fl ρ λx st1=>onF (yaQ st1 x) λk=>cond k (exs call ρ st1 a) (exs call ρ st1 b)
 |.for t it b=>(evi call ρ st it).fl ρ λxs st1=>forL t (λρ2 st2=>exs call ρ2 st2 b) xs ρ st1
 |.while c b=>yax (λρ2 st2=>ev call ρ2 st2 c) (λρ2 st2=>exs call ρ2 st2 b) 100000 ρ st
 |.nope=>.bad
 |.mkr i D n es=>(ev call ρ st n).fl ρ λx st1=>match mkV D (decide (i<ρ.length)) x with
  |some j=>((evs call (ρ.set i AD) st1 es).bind λvs st2=>call j vs st2).fl (ρ.set i AD) λv st3=>.rt v st3
  |none=>.bad
 |.sfl c o f e=>(ev call ρ st e).fl ρ λv st1=>(ev call ρ st1 o).fl ρ λx st2=>match ybc c st2 x f v with
  |some st3=>.nx ρ st3
  |none=>.bad
noncomputable def exs(call:Nat->List PV->SO->R PV)(ρ:Env)(st:SO):Css->Fl
 |.nil=>.nx ρ st
 |.cons s ss=>match ex call ρ st s with
  |.nx ρ1 st1=>exs call ρ1 st1 ss
  |f=>f
end
structure Fn where
 np:Nat
 ns:Nat
 pure:Bool
 body:Css
def yc(T:Nat->Option Fn):Nat->Nat->List PV->SO->R PV
 |0,_,_,_=>.bad
 |k+1,f,args,st=>match T f with
  |none=>.bad
  |some fn=>if args.length=fn.np then
    if fn.pure then
     if nLs args then match exs (yc T k) (args.map AA++Au (fn.ns-fn.np) AD) [] fn.body with
      |.rt v _=>if nL v then .ok v st else .bad
      |.nx _ _=>.ok .non st
      |.exc c _ _=>.exc c st
      |_=>.bad
     else .bad
    else match exs (yc T k) (args.map AA++Au (fn.ns-fn.np) AD) st fn.body with
     |.rt v st1=>.ok v st1
     |.nx _ st1=>.ok .non st1
     |.exc c _ st1=>.exc c st1
     |_=>.bad
   else .bad
noncomputable def yw:List (Sum Ce Int)->Ces
 |[]=>.nil
 |.inl c::r=>.cons c (yw r)
 |.inr i::r=>.cons (.cst (.int i)) (yw r)
noncomputable def yab:Ces->Ces->Ces
 |.nil,b=>b
 |.cons e r,b=>.cons e (yab r b)
end IC
namespace L2
open PySem PySem.Spec PyProof.Rows IC
noncomputable abbrev Ph:=List (Option AI)
section
variable (K:AE)(cl:Nat->AI)(B:AI->Prop)(φ:Ph)(H:Hp)
def ybV(k:Bool)(a:AI)(xs:List V):Prop:=(H a=AA (.tup xs)/\¬B a/\AA a∉φ) \/
 k=AB/\∃(o:CK) (its:Array AG) (n:Nat),K.lookup a=AA o/\o.cls=.type "tuple"/\o.data=.seq its n/\its.size<=sizeLine/\Vals xs its.toList
def yc4(a:AI)(xs:List V):Prop:=H a=AA (.lst xs)/\¬B a/\AA a∉φ
def ydY(a:AI)(xs:List V):Prop:=(Rd H a (.lst xs)/\¬B a/\AA a∉φ) \/
 ∃(o:CK) (its:Array AG) (n:Nat),K.lookup a=AA o/\o.cls=.type "list"/\o.dict=AD/\o.data=.seq its n/\its.size<=sizeLine/\Vals xs its.toList
mutual
noncomputable def yd:PV->V->Prop
 |.non,x=>x=.non
 |.bl b,x=>x=.bl b
 |.int i,x=>x=.int i
 |.str s,x=>x=.str s
 |.tp k vs,x=>∃a xs,x=.ref a/\ybV K B φ H k a xs/\yg vs xs
 |.lst vs,x=>∃a xs,x=.ref a/\yc4 B φ H a xs/\yg vs xs
 |.loc n,x=>n<φ.length/\∃a,x=.ref a/\∀b,φ[n]?=AA (AA b)->b=a
 |.exn c,x=>∃a,x=.ref a/\H a=AA (.ext (ygD a (cl c)))/\¬B a/\AA a∉φ
 |.scr vs,x=>∃a xs,x=.ref a/\ydY K B φ H a xs/\yg vs xs
noncomputable def yg:List PV->List V->Prop
 |[],xs=>xs=[]
 |v::vs,xs=>∃y ys,xs=y::ys/\yd v y/\yg vs ys
end
noncomputable def yaN:Key->PV
 |.inl i=>.int i
 |.inr y=>.str y
def DK:List (PV×PV)->List (Key×V)->Prop
 |[],ks=>ks=[]
 |(k,v)::r,ks=>∃q x s,ks=(q,x)::s/\k=yaN q/\yd K cl B φ H v x/\DK r s
def DT:List (PV×PV)->List (List Key×V)->Prop
 |[],ks=>ks=[]
 |(k,v)::r,ks=>∃q x s,ks=(q,x)::s/\k=.tup (q.map yaN)/\yd K cl B φ H v x/\DT r s
def FS:List (AS×PV)->List (AS×V)->Prop
 |[],ks=>ks=[]
 |(k,v)::r,ks=>∃x s,ks=(k,x)::s/\yd K cl B φ H v x/\FS r s
def ycs:Ob->AI->Prop
 |.lst vs,a=>∃xs,H a=AA (.lst xs)/\yg K cl B φ H vs xs
 |.dct AC kvs,a=>∃ks,H a=AA (.dK ks)/\DK K cl B φ H kvs ks
 |.dct AB kvs,a=>∃ks,H a=AA (.dT ks)/\DT K cl B φ H kvs ks
 |.dead,_=>False
 |.ins c fs,a=>∃ks,(∃dx,H a=AA (.ins (cl c) dx ks))/\FS K cl B φ H fs ks
structure yF(st:SO):Prop where
 len:φ.length=st.length
 inj:∀(m n:Nat) (a:AI),φ[m]?=AA (AA a)->φ[n]?=AA (AA a)->m=n
 obj:∀(n:Nat) (a:AI),φ[n]?=AA (AA a)->∃o,st[n]?=AA o/\ycs K cl B φ H o a
 liv:∀(n:Nat) (o:Ob),st[n]?=AA o->o ≠ .dead->∃a,φ[n]?=AA (AA a)
 nb:∀a,AA a∈φ->¬B a
 dom:∀a,B a->∃o,H a=AA o
structure yU(ρ:IC.Env)(σ:St):Prop where
 len:ρ.length=σ.length
 get:∀(i:Nat) (v:PV),ρ[i]?=AA (AA v)->∃x,σ[i]?=AA (AA x)/\yd K cl B φ H v x
end
structure Step(φ:Ph)(H:Hp)(φ':Ph)(H':Hp):Prop where
 keep:∀b o,AA b∉φ->H b=AA o->H' b=AA o
 len:φ.length<=φ'.length
 pre:∀(n:Nat) (a:AI),n<φ.length->φ'[n]?=AA (AA a)->φ[n]?=AA (AA a)
 new:∀b,AA b∈φ'->AA b∈φ \/ H b=AD
theorem Step.rfl{φ:Ph}{H:Hp}:Step φ H φ H:=⟨λ_ _ _ e=>e,AT _,λ_ _ _ e=>e,λ_ h=>.inl h⟩
theorem Step.trans{φ φ1 φ2:Ph}{H H1 H2:Hp}(s:Step φ H φ1 H1)(t:Step φ1 H1 φ2 H2):Step φ H φ2 H2:=by
 refine⟨λb o n e=>?_,B1 s.len t.len,λn a hn e=>s.pre n a hn (t.pre n a (A7 hn s.len) e),λb hb=>?_⟩
 .refine t.keep b o (λh=>?_) (s.keep b o n e);rcases s.new b h with q|q
  .exact n q
  .rw[e]at q;cases q
 .rcases t.new b hb with q|q
  .exact s.new b q
  .by_cases h:AA b∈φ
   .exact .inl h
   .refine .inr ?_
    cases e:H b with
    |none=>exact DW _
    |some o=>rw[s.keep b o h e]at q;cases q
section
variable {K:AE}{cl:Nat->AI}{B:AI->Prop}{φ φ':Ph}{H H':Hp}{st:SO}{ρ:IC.Env}{σ:St}
theorem Rd.step(s:Step φ H φ' H'){a:AI}{u:HO}(n:AA a∉φ)(r:Rd H a u):Rd H' a u/\AA a∉φ':=by
 have h:∃o,H a=AA o:=by
  rcases r with r|⟨o,r⟩<;>exact⟨_,r⟩
 refine⟨?_,λz=>?_⟩
 .rcases r with r|⟨o,r⟩
  .exact .inl (s.keep _ _ n r)
  .exact .inr ⟨o,s.keep _ _ n r⟩
 .let⟨o,e⟩:=h;rcases s.new a z with q|q
  .exact n q
  .rw[e]at q;cases q
theorem ybV.step(s:Step φ H φ' H'){k:Bool}{a:AI}{xs:List V}(r:ybV K B φ H k a xs):ybV K B φ' H' k a xs:=by
 rcases r with⟨r,b,n⟩|r
 .let⟨_,n'⟩:=(Rd.of r).step s n;exact .inl ⟨s.keep _ _ n r,b,n'⟩
 .exact .inr r
theorem yc4.step(s:Step φ H φ' H'){a:AI}{xs:List V}(r:yc4 B φ H a xs):yc4 B φ' H' a xs:=by
 let⟨r,b,n⟩:=r;let⟨_,n'⟩:=(Rd.of r).step s n;exact⟨s.keep _ _ n r,b,n'⟩
theorem ydY.step(s:Step φ H φ' H'){a:AI}{xs:List V}(r:ydY K B φ H a xs):ydY K B φ' H' a xs:=by
 rcases r with⟨r,b,n⟩|r
 .let⟨r',n'⟩:=r.step s n;exact .inl ⟨r',b,n'⟩
 .exact .inr r
mutual
theorem yd.step(s:Step φ H φ' H'):∀(v:PV) (x:V),yd K cl B φ H v x->yd K cl B φ' H' v x
 |.non,x,h=>by erw[yd]at h ⊢;exact h
 |.bl b,x,h=>by erw[yd]at h ⊢;exact h
 |.int i,x,h=>by erw[yd]at h ⊢;exact h
 |.str y,x,h=>by erw[yd]at h ⊢;exact h
 |.tp k vs,x,h=>by
  erw[yd]at h ⊢;let⟨a,xs,e,r,l⟩:=h;exact⟨a,xs,e,r.step s,yg.step s vs xs l⟩
 |.lst vs,x,h=>by
  erw[yd]at h ⊢;let⟨a,xs,e,r,l⟩:=h;exact⟨a,xs,e,r.step s,yg.step s vs xs l⟩
 |.loc n,x,h=>by
  erw[yd]at h ⊢;let⟨h1,a,e,h2⟩:=h;exact⟨A7 h1 s.len,a,e,λb q=>h2 b (s.pre n b h1 q)⟩
 |.exn c,x,h=>by
  erw[yd]at h ⊢;let⟨a,e,r,b,n⟩:=h;let⟨_,n'⟩:=(Rd.of r).step s n;exact⟨a,e,s.keep _ _ n r,b,n'⟩
 |.scr vs,x,h=>by
  erw[yd]at h ⊢;let⟨a,xs,e,r,l⟩:=h;exact⟨a,xs,e,r.step s,yg.step s vs xs l⟩
theorem yg.step(s:Step φ H φ' H'):∀(v:List PV) (x:List V),yg K cl B φ H v x->yg K cl B φ' H' v x
 |[],x,h=>by erw[yg]at h ⊢;exact h
 |v::vs,x,h=>by
  erw[yg]at h ⊢;let⟨y,ys,e,r,l⟩:=h;exact⟨y,ys,e,yd.step s v y r,yg.step s vs ys l⟩
end
theorem yU.step(s:Step φ H φ' H')(r:yU K cl B φ H ρ σ):yU K cl B φ' H' ρ σ:=⟨r.len,λi v e=>by
 let⟨x,h,q⟩:=r.get i v e;exact⟨x,h,q.step s⟩⟩
mutual
theorem yd.inn(hn:∀a,AA a∈φ->¬B a):∀(v:PV) (x:V),nL v=AB->yd K cl B φ H v x->yd K cl (λa=>B a \/ AA a∈φ) [] H v x
 |.non,x,_,h=>by erw[yd]at h ⊢;exact h
 |.bl b,x,_,h=>by erw[yd]at h ⊢;exact h
 |.int i,x,_,h=>by erw[yd]at h ⊢;exact h
 |.str y,x,_,h=>by erw[yd]at h ⊢;exact h
 |.tp k vs,x,q,h=>by
  erw[yd]at h ⊢;let⟨a,xs,e,r,l⟩:=h;refine⟨a,xs,e,?_,yg.inn hn vs xs (by simpa only[nL] using q) l⟩;rcases r with⟨r,b,n⟩|r
  .exact .inl ⟨r,λz=>z.elim b n,by simp⟩
  .exact .inr r
 |.lst vs,x,q,h=>by
  erw[yd]at h ⊢;let⟨a,xs,e,⟨r,b,n⟩,l⟩:=h;exact⟨a,xs,e,⟨r,λz=>z.elim b n,by simp⟩,yg.inn hn vs xs (by simpa only[nL] using q) l⟩
 |.loc n,x,q,h=>by simp[nL]at q
 |.exn c,x,q,h=>by simp[nL]at q
 |.scr vs,x,q,h=>by
  erw[yd]at h ⊢;let⟨a,xs,e,r,l⟩:=h;refine⟨a,xs,e,?_,yg.inn hn vs xs (by simpa only[nL] using q) l⟩;rcases r with⟨r,b,n⟩|r
  .exact .inl ⟨r,λz=>z.elim b n,by simp⟩
  .exact .inr r
theorem yg.inn(hn:∀a,AA a∈φ->¬B a):∀(v:List PV) (x:List V),nLs v=AB->yg K cl B φ H v x->yg K cl (λa=>B a \/ AA a∈φ) [] H v x
 |[],x,_,h=>by erw[yg]at h ⊢;exact h
 |v::vs,x,q,h=>by
  erw[yg]at h ⊢;erw[nLs,AK]at q;let⟨y,ys,e,r,l⟩:=h;exact⟨y,ys,e,yd.inn hn v y q.1 r,yg.inn hn vs ys q.2 l⟩
end
mutual
theorem yd.out{ψ:Ph}:∀(v:PV) (x:V),nL v=AB->yd K cl (λa=>B a \/ AA a∈φ) ψ H v x->yd K cl B φ H v x
 |.non,x,_,h=>by erw[yd]at h ⊢;exact h
 |.bl b,x,_,h=>by erw[yd]at h ⊢;exact h
 |.int i,x,_,h=>by erw[yd]at h ⊢;exact h
 |.str y,x,_,h=>by erw[yd]at h ⊢;exact h
 |.tp k vs,x,q,h=>by
  erw[yd]at h ⊢;let⟨a,xs,e,r,l⟩:=h;refine⟨a,xs,e,?_,yg.out vs xs (by simpa only[nL] using q) l⟩;rcases r with⟨r,b,n⟩|r
  .exact .inl ⟨r,λz=>b (.inl z),λz=>b (.inr z)⟩
  .exact .inr r
 |.lst vs,x,q,h=>by
  erw[yd]at h ⊢;let⟨a,xs,e,⟨r,b,n⟩,l⟩:=h;exact⟨a,xs,e,⟨r,λz=>b (.inl z),λz=>b (.inr z)⟩,yg.out vs xs (by simpa only[nL] using q) l⟩
 |.loc n,x,q,h=>by simp[nL]at q
 |.exn c,x,q,h=>by simp[nL]at q
 |.scr vs,x,q,h=>by
  erw[yd]at h ⊢;let⟨a,xs,e,r,l⟩:=h;refine⟨a,xs,e,?_,yg.out vs xs (by simpa only[nL] using q) l⟩;rcases r with⟨r,b,n⟩|r
  .exact .inl ⟨r,λz=>b (.inl z),λz=>b (.inr z)⟩
  .exact .inr r
theorem yg.out{ψ:Ph}:∀(v:List PV) (x:List V),nLs v=AB->yg K cl (λa=>B a \/ AA a∈φ) ψ H v x->yg K cl B φ H v x
 |[],x,_,h=>by erw[yg]at h ⊢;exact h
 |v::vs,x,q,h=>by
  erw[yg]at h ⊢;erw[nLs,AK]at q;let⟨y,ys,e,r,l⟩:=h;exact⟨y,ys,e,yd.out v y q.1 r,yg.out vs ys q.2 l⟩
end
theorem yg.length:∀{v:List PV} {x:List V},yg K cl B φ H v x->v.length=x.length
 |[],x,h=>by erw[yg]at h;subst h;rfl
 |v::vs,x,h=>by
  erw[yg]at h;let⟨y,ys,rfl,_,l⟩:=h;simp[yg.length l]
theorem DK.step(s:Step φ H φ' H'):∀{kvs:List (PV×PV)} {ks:List (Key×V)},DK K cl B φ H kvs ks->DK K cl B φ' H' kvs ks
 |[],ks,h=>h
 |(k,v)::r,ks,h=>by
  let⟨q,x,t,e,m,rv,l⟩:=h;exact⟨q,x,t,e,m,rv.step s,DK.step s l⟩
theorem DT.step(s:Step φ H φ' H'):∀{kvs:List (PV×PV)} {ks:List (List Key×V)},DT K cl B φ H kvs ks->DT K cl B φ' H' kvs ks
 |[],ks,h=>h
 |(k,v)::r,ks,h=>by
  let⟨q,x,t,e,m,rv,l⟩:=h;exact⟨q,x,t,e,m,rv.step s,DT.step s l⟩
theorem FS.step(s:Step φ H φ' H'):∀{kvs:List (AS×PV)} {ks:List (AS×V)},FS K cl B φ H kvs ks->FS K cl B φ' H' kvs ks
 |[],ks,h=>h
 |(k,v)::r,ks,h=>by
  let⟨x,t,e,rv,l⟩:=h;exact⟨x,t,e,rv.step s,FS.step s l⟩
theorem ycs.step(s:Step φ H φ' H'){o:Ob}{a:AI}(e:H' a=H a)(r:ycs K cl B φ H o a):ycs K cl B φ' H' o a:=by
 cases o with
 |lst vs=>
  let⟨xs,q,l⟩:=r;exact⟨xs,e.trans q,l.step s⟩
 |dct t kvs=>
  cases t with
  |false=>let⟨ks,q,l⟩:=r;exact⟨ks,e.trans q,l.step s⟩
  |true=>let⟨ks,q,l⟩:=r;exact⟨ks,e.trans q,l.step s⟩
 |dead=>exact r
 |ins c fs=>let⟨ks,⟨dx,q⟩,l⟩:=r;exact⟨ks,⟨dx,e.trans q⟩,l.step s⟩
theorem ycs.there{o:Ob}{a:AI}(r:ycs K cl B φ H o a):∃u,H a=AA u:=by
 cases o with
 |lst vs=>let⟨xs,q,l⟩:=r;exact⟨_,q⟩
 |dct t kvs=>cases t<;>(let⟨ks,q,l⟩:=r;exact⟨_,q⟩)
 |dead=>exact r.elim
 |ins c fs=>let⟨ks,⟨dx,q⟩,l⟩:=r;exact⟨_,q⟩
theorem yF.there(S:yF K cl B φ H st){a:AI}(h:AA a∈φ):∃u,H a=AA u:=by
 let⟨n,e⟩:=D8.mp h;let⟨o,_,r⟩:=S.obj n a e;exact r.there
theorem Step.upd{p:AI}{o:HO}(hp:H p=AD):Step φ H φ (upd H p o):=
 ⟨λb u n e=>by rw[zk (zq e hp)];exact e,AT _,λ_ _ _ e=>e,λ_ h=>.inl h⟩
theorem yF.same(S:yF K cl B φ H st)(k:∀b o,H b=AA o->H' b=AA o):yF K cl B φ H' st:=by
 have s:Step φ H φ H':=⟨λb o _ e=>k b o e,AT _,λ_ _ _ e=>e,λ_ h=>.inl h⟩;refine⟨S.len,S.inj,λn a e=>?_,S.liv,S.nb,λa h=>?_⟩
 .let⟨o,q,r⟩:=S.obj n a e;let⟨u,z⟩:=r.there;exact⟨o,q,r.step s ((k a u z).trans z.symm)⟩
 .let⟨o,q⟩:=S.dom a h;exact⟨o,k a o q⟩
theorem yF.upd{p:AI}{o:HO}(S:yF K cl B φ H st)(hp:H p=AD):yF K cl B φ (upd H p o) st:=S.same λb u e=>by rw[zk (zq e hp)];exact e
mutual
theorem yd.moreB{B':AI->Prop}(hn:∀y,B' y->B y \/ H y=AD):∀(v:PV) (x:V),yd K cl B φ H v x->yd K cl B' φ H v x
 |.non,x,h=>by erw[yd]at h ⊢;exact h
 |.bl b,x,h=>by erw[yd]at h ⊢;exact h
 |.int i,x,h=>by erw[yd]at h ⊢;exact h
 |.str y,x,h=>by erw[yd]at h ⊢;exact h
 |.tp k vs,x,h=>by
  erw[yd]at h ⊢;let⟨y,xs,e,r,l⟩:=h;refine⟨y,xs,e,?_,yg.moreB hn vs xs l⟩;rcases r with⟨r,b,n⟩|r
  .exact .inl ⟨r,λz=>(hn y z).elim b λq=>(by rw[q]at r;cases r),n⟩
  .exact .inr r
 |.lst vs,x,h=>by
  erw[yd]at h ⊢;let⟨y,xs,e,⟨r,b,n⟩,l⟩:=h;exact⟨y,xs,e,⟨r,λz=>(hn y z).elim b λq=>(by rw[q]at r;cases r),n⟩,yg.moreB hn vs xs l⟩
 |.loc n,x,h=>by erw[yd]at h ⊢;exact h
 |.exn c,x,h=>by
  erw[yd]at h ⊢;let⟨y,e,r,b,n⟩:=h;exact⟨y,e,r,λz=>(hn y z).elim b λq=>(by rw[q]at r;cases r),n⟩
 |.scr vs,x,h=>by
  erw[yd]at h ⊢;let⟨y,xs,e,r,l⟩:=h;refine⟨y,xs,e,?_,yg.moreB hn vs xs l⟩;rcases r with⟨r,b,n⟩|r
  .refine .inl ⟨r,λz=>(hn y z).elim b λq=>?_,n⟩;rcases r with r|⟨o,r⟩<;>(rw[q]at r;cases r)
  .exact .inr r
theorem yg.moreB{B':AI->Prop}(hn:∀y,B' y->B y \/ H y=AD):∀(v:List PV) (x:List V),yg K cl B φ H v x->yg K cl B' φ H v x
 |[],x,h=>by erw[yg]at h ⊢;exact h
 |v::vs,x,h=>by
  erw[yg]at h ⊢;let⟨y,ys,e,r,l⟩:=h;exact⟨y,ys,e,yd.moreB hn v y r,yg.moreB hn vs ys l⟩
end
end
end L2
namespace L2
open PySem PySem.Spec PyProof.Rows
def CXH(X:Cx)(H:Hp)(s:AJ)(E:XK)(e:AG)(s':AJ):Prop:=
 ∃(C a:AI) (cls a0 fl:AG) (H':Hp) (B:BI),X.s₀.heap.objs.size<=C/\e=.ref a/\s'.os=s.os/\Dh s'.gens /\
  (B.StaysIn s'.heap/\B.get? a=AD/\s'.heap.FunFrames B X.stack/\s'.heap.TracedAtW B a cls a0 fl)/\HOk X.prog X.w H' s'.heap/\Un (frs X.stack) [C] H H' s.heap s'.heap /\
  (∀b o,s.heap.get? b=AA o->H b=AD->b∉frs X.stack->b≠C->B.get? b=AA o)/\(∀b u,H' b=AA u->∃o,B.get? b=AA o)/\(∀b o,s.heap.get? b=AA o->b∉frs X.stack->b≠C->∃o',B.get? b=AA o')/\E cls AD H'
theorem CXH.mono{X:Cx}{H:Hp}{s:AJ}{E E':XK}{e:AG}{s':AJ}(h:CXH X H s E e s')(n:∀cls H',E cls AD H'->E' cls AD H'):CXH X H s E' e s':=by
 let⟨C,a,cls,a0,fl,H',B,r1,r2,r3,r4,r5,r6,r7,r8,r9,r10,r11⟩:=h;exact⟨C,a,cls,a0,fl,H',B,r1,r2,r3,r4,r5,r6,r7,r8,r9,r10,n _ _ r11⟩
section
variable {M:Model}{A:Ay}{E:AG->AJ->Prop}{s:AJ}
theorem zfS{base:BI}{env:Env}{outer:List Env}{L e:AI}{cls a0 fl:AG}{Q:Unit->AJ->Prop}
  (hfr:A.frames=AA (env::outer)) (hf:env.frame=AA L) (f1:base.StaysIn s.heap) (f2:base.get? e=AD) (f3:s.heap.FunFrames base (env::outer)) (f4:s.heap.TracedAtW base e cls a0 fl)
  (hQ:∀h',HN base outer e cls a0 h'->s.heap.UpToSlots h'->Q () {s with heap:=h'}):A3 M A (leaving env (.ref e)) Q E s:=by
 by_cases hfl:fl=rawInt L
 .subst hfl;unfold leaving;refine AH (wpAny_noteFrame_againW hf f4 ?_);refine wpAny_landsW ⟨f1,f2,f3,f4⟩ λh' hfl up=>?_;let⟨k1,k2,⟨_,_,k3⟩,k4⟩:=hfl;exact hQ h' ⟨k1,k2,k3,k4⟩ up
 .let⟨oe,vs,T,oT,ts,he,⟨hcls,h0⟩,hd,h1,hnT,hTe,hT,hdT,h3⟩:=f4;subst hcls;unfold leaving noteFrame;erw[hf];refine AH (AH (BS he hd h1 ?_));rw[if_pos (show (An T != CQ)=AB from by simp)];refine AH (BS hT hdT h3 ?_);rw[if_neg (show ¬((fl==rawInt L)=AB)from λz=>hfl (eq_of_beq z))];refine AH (F1 hT hdT (EV.mp h3).1 ?_);have other:∀b,b≠T->(s.heap.update T (Obj.mapFields (·.setIfInBounds 3 CQ))).get? b=s.heap.get? b:=λb hb=>DR _ _ (BP hb);have noRecord:∀b o,s.heap.get? b=AA o->(∀vs,o.data ≠ .fields vs)->b≠T:=λb o hb hnf q=>by
   rw[q,hT]at hb;injection hb with hb;subst hb;exact hnf ts hdT
  refine wpAny_newEntryW hfr (f3.of_keeps λb o hb hnf=>⟨o,(other b (noRecord b o hb hnf)).trans hb,rfl⟩) hf ((other e (BP hTe)).trans he)
   (λb o hbo=>(other b λq=>by rw[q,hnT]at hbo;cases hbo).trans (f1 b o hbo)) f2 hd (EV.mp h1).1 h0
   λh' ⟨x1,⟨_,_,x2⟩,x3,x4⟩=>hQ h' ⟨x1,f2,x2,x3⟩ λb o hb hnf=>x4 b o ((other b (noRecord b o hb hnf)).trans hb) hnf
end
section
variable {P:Aa}{w:Ao}{K:AE}{mg:AS->Option AG}{base:BI}{N:List AS}{qual:AS}{scope:Br}{f:AI}{cd:AG}{A:Ay}{outer:List Env}{s₀:AJ}{H₀:Hp}{E:XK}
theorem yeW{pins:List (AI×CK)}{σ:St}{H:Hp}{s:AJ}{e:AG}{s':AJ}(I:Inv (ya4 (CX1 P w) P w K mg base N qual scope f cd A outer s₀ H₀ E) pins σ H s)(h:CXH (ya4 (CX1 P w) P w K mg base N qual scope f cd A outer s₀ H₀ E) H s E e s'):
  (ya4 (CX1 P w) P w K mg base N qual scope f cd A outer s₀ H₀ E).xe e s':=by
 let⟨C,a,cls,a0,fl,H',B,hC,rfl,os,bare,⟨f1,f2,f3,f4⟩,hok,un,hB,tr,hT,hE⟩:=h;have bse:Un (frs outer) [] H₀ H s₀.heap s.heap:=I.base;have lt:∀b o,s₀.heap.get? b=AA o->b≠s₀.heap.objs.size:=λb o q=>Ar (A1 q);have neC:∀b o,s₀.heap.get? b=AA o->b≠C:=λb o q=>Ar (A7 (A1 q) hC);have niC:∀b o,s₀.heap.get? b=AA o->b∉[C]:=λb o q z=>neC b o q (by simpa using z);have hst:∀b,b∈frs (envOfC qual scope s₀.heap.objs.size f cd::outer)->b=s₀.heap.objs.size \/ b∈frs outer:=λb hb=>by
  have hb':b∈s₀.heap.objs.size::frs outer:=hb;exact AO.mp hb'
 have un':Un (frs (envOfC qual scope s₀.heap.objs.size f cd::outer)) [C] H H' s.heap s'.heap:=un;have kB:∀b o,s₀.heap.get? b=AA o->H₀ b=AD->b∉frs outer->B.get? b=AA o:=λb o q n hb=>hB b o (bse.keep b o q n hb (by simp)) (bse.free b o q n (by simp)) (λz=>by
  rcases hst b z with z|z
  .exact lt b o q z
  .exact hb z) (neC b o q)
 have kT:∀b o,s₀.heap.get? b=AA o->b∉frs outer->∃o',B.get? b=AA o':=λb o q hb=>by
  let⟨o',q1⟩:=bse.there b o q (by simp);refine hT b o' q1 (λz=>?_) (neC b o q);rcases hst b z with z|z
  .exact lt b o q z
  .exact hb z
 refine zfS I.ok.frames rfl f1 f2 f3 f4 λh'' fl' up=>?_;refine⟨a,cls,a0,H',B,rfl,os.trans I.os,bare,fl',HOk.inB hok f1 fl'.1 tr,⟨λb o q n hb _=>fl'.1 b o (kB b o q n hb),λb o q n hb _=>?_,λb o q n _=>?_,λb o q _=>?_,λb xs q=>un'.tups b xs (bse.tups b xs q),λb o u q=>un'.frzs b o u (bse.frzs b o u q),λb ps q=>?_⟩,kB,tr,kT,hE⟩
 .let⟨sl,q1⟩:=bse.slot b o q n hb (by simp);have n1:=bse.free b o q n (by simp);let⟨sl1,q2⟩:=un'.slot b _ q1 n1 (AV _ hb) (niC b o q);let⟨_,o',ho',hd⟩:=CY f3 (show b∈DU (λ(z:Env)=>z.frame) _ from AV _ hb);let⟨sl',q3⟩:=up b _ q2 (by rw[ho']at q2;cases q2;exact hd);exact⟨sl',q3⟩
 .let⟨o',q1⟩:=bse.there b o q (by simp);exact un'.free b o' q1 (bse.free b o q n (by simp)) (niC b o q)
 .let⟨o',q1⟩:=bse.there b o q (by simp);let⟨o2,q2⟩:=un'.there b o' q1 (niC b o q)
  by_cases hb:b∈frs outer
  .let⟨_,o3,ho3,hd⟩:=CY f3 (show b∈DU (λ(z:Env)=>z.frame) _ from AV _ hb);let⟨sl',q3⟩:=up b _ ho3 hd;exact⟨_,q3⟩
  .let⟨o4,q4⟩:=kT b o q hb;exact⟨o4,fl'.1 b o4 q4⟩
 .let⟨m1,e1⟩:=bse.tbls b ps q;let⟨m2,e2⟩:=un'.tbls b _ e1;exact⟨m1++m2,by rw[e2,EK]⟩
end
section
variable {pg:Aa}{wd:Ao}{A:Ay}{R:Gp->AJ->Prop}{s:AJ}
end
section
variable {X:Cx}{sc:Br}{NC:List AS}{slots:List (Option Nat)}{elt tg iter:AW}{ifs:List AW}{pos:C1}{g:TG}{ti:TT}{te:CI->TE}{E:XK}
end
end L2
namespace L2
open PySem PySem.Spec PyProof.Rows IC
structure Se where
 cl:Nat->AI
 call:Nat->List PV->SO->R PV
 may:Bool
section
variable (S:Se)(X:Cx)
def ExcAt(σ:St)(B:AI->Prop)(φ:Ph)(H:Hp)(k:Nat)(st':SO)(e:AG)(s':AJ):Prop:=
 (∃pins H1 s φ1,Inv X pins σ H1 s/\Step φ H φ1 H1/\CX1 X.prog X.w X.stack H1 s (λcls _ H'=>cls=.ref (S.cl k)/\∃φ',Step φ1 H1 φ' H'/\yF X.K S.cl B φ' H' st') e s') \/
 (S.may=AB/\∃pins H1 s φ1 h' e0 vs,Inv X pins σ H1 s/\Step φ H φ1 H1/\yF X.K S.cl B φ1 H1 st'/\Gw s.heap h' e0 (.ref (S.cl k)) vs/\e=.ref e0/\s'={s with heap:=h'}) \/
 (S.may=AB/\∃pins H1 s,Inv X pins σ H1 s/\CXH X H1 s (λcls _ H'=>cls=.ref (S.cl k)/\∃φ',Step φ H φ' H'/\yF X.K S.cl B φ' H' st') e s')
def Run{α β:Type}(σ:St)(B:AI->Prop)(φ:Ph)(H:Hp)(Rel:Ph->Hp->α->β->Prop)(r:R α)(Q:β->Hp->Prop):Prop:=
 match r with
 |.ok v st'=>∀x H' φ',Step φ H φ' H'->yF X.K S.cl B φ' H' st'->Rel φ' H' v x->Q x H'
 |.exc k st'=>∀e s',ExcAt S X σ B φ H k st' e s'->X.xe e s'
 |.bad=>False
abbrev RV(B:AI->Prop):Ph->Hp->PV->V->Prop:=λφ H=>yd X.K S.cl B φ H
abbrev RL(B:AI->Prop):Ph->Hp->List PV->List V->Prop:=λφ H=>yg X.K S.cl B φ H
noncomputable abbrev RB:Ph->Hp->Bool->Bool->Prop:=λ_ _ b c=>b=c
def tE(c:Ce):TE:=λσ H Q=>∃B φ st ρ,yF X.K S.cl B φ H st/\yU X.K S.cl B φ H ρ σ/\Run S X σ B φ H (RV S X B) (ev S.call ρ st c) Q
def tAs(c:Ces):TA:=λσ H Q=>∃B φ st ρ,yF X.K S.cl B φ H st/\yU X.K S.cl B φ H ρ σ/\Run S X σ B φ H (RL S X B) (evs S.call ρ st c) Q
def ybg(r:R PV):R Bool:=r.bind λx st=>onO (yaQ st x) λb=>.ok b st
def tTs(c:Ce):TT:=λσ H Q=>∃B φ st ρ,yF X.K S.cl B φ H st/\yU X.K S.cl B φ H ρ σ/\Run S X σ B φ H RB (ybg (ev S.call ρ st c)) Q
end
section
variable {S:Se}{X:Cx}{σ:St}{B:AI->Prop}{φ φ1:Ph}{H H1:Hp}
theorem ExcAt.back{k:Nat}{st':SO}{e:AG}{s':AJ}(s:Step φ H φ1 H1)(h:ExcAt S X σ B φ1 H1 k st' e s'):ExcAt S X σ B φ H k st' e s':=by
 rcases h with⟨pins,H2,t,φ2,I,q,c⟩|⟨m,pins,H2,t,φ2,h',e0,vs,I,q,c⟩|⟨m,pins,H2,t,I,c⟩
 .exact .inl ⟨pins,H2,t,φ2,I,s.trans q,c⟩
 .exact .inr (.inl ⟨m,pins,H2,t,φ2,h',e0,vs,I,s.trans q,c⟩)
 .exact .inr (.inr ⟨m,pins,H2,t,I,c.mono λcls H' ⟨e1,φ',s2,r⟩=>⟨e1,φ',s.trans s2,r⟩⟩)
variable {α β γ δ:Type}{Rel:Ph->Hp->α->β->Prop}{HP:Ph->Hp->γ->δ->Prop}
theorem Run.on{r:R α}{Q:β->Hp->Prop}(s:Step φ H φ1 H1)(h:Run S X σ B φ H Rel r Q):Run S X σ B φ1 H1 Rel r Q:=by
 cases r with
 |ok v st'=>exact λx H' φ' t=>h x H' φ' (s.trans t)
 |exc k st'=>exact λe s' x=>h e s' (x.back s)
 |bad=>exact h
theorem Run.mono{r:R α}{Q Q':β->Hp->Prop}(h:Run S X σ B φ H Rel r Q)(k:∀x H',Q x H'->Q' x H'):Run S X σ B φ H Rel r Q':=by
 cases r with
 |ok v st'=>exact λx H' φ' t rs rv=>k x H' (h x H' φ' t rs rv)
 |exc c st'=>exact h
 |bad=>exact h
theorem Run.bind{r:R α}{k:α->SO->R γ}{Q:δ->Hp->Prop}(h:Run S X σ B φ H HP (r.bind k) Q):
  Run S X σ B φ H Rel r λx H1=>∃v st1 φ1,Step φ H φ1 H1/\yF X.K S.cl B φ1 H1 st1/\Rel φ1 H1 v x/\Run S X σ B φ1 H1 HP (k v st1) Q:=by
 cases r with
 |ok v st'=>exact λx H' φ' t rs rv=>⟨v,st',φ',t,rs,rv,Run.on t h⟩
 |exc c st'=>exact h
 |bad=>exact h
theorem Run.ok{v:α}{st:SO}{Q:β->Hp->Prop}(h:Run S X σ B φ H Rel (.ok v st) Q)(rs:yF X.K S.cl B φ H st){x:β}(rv:Rel φ H v x):Q x H:=h x H φ .rfl rs rv
theorem PE.imp{e:AW}{t t':TE}(h:PE X e t')(k:∀σ H Q,t σ H Q->t' σ H Q):PE X e t:=λpins s σ H Q I q=>h pins s σ H Q I (k σ H Q q)
theorem PT.imp{e:AW}{t t':TT}(h:PT X e t')(k:∀σ H Q,t σ H Q->t' σ H Q):PT X e t:=λpins s σ H Q I q=>h pins s σ H Q I (k σ H Q q)
theorem PW.imp{e:AW}{t t':TT}(h:PW X e t')(k:∀σ H Q,t σ H Q->t' σ H Q):PW X e t:=λwh pins s σ H Q I q=>h wh pins s σ H Q I (k σ H Q q)
theorem PA.imp{e:List AW}{t t':TA}(h:PA X e t')(k:∀σ H Q,t σ H Q->t' σ H Q):PA X e t:=λpos pins s σ H Q I q=>h pos pins s σ H Q I (k σ H Q q)
theorem tE.bind{c:Ce}{ρ:IC.Env}{st:SO}{k:PV->SO->R γ}{Q:δ->Hp->Prop}{P:V->Hp->Prop}(rs:yF X.K S.cl B φ H st)(re:yU X.K S.cl B φ H ρ σ)(h:Run S X σ B φ H HP ((ev S.call ρ st c).bind k) Q)
  (n:∀x H1 v st1 φ1,Step φ H φ1 H1->yF X.K S.cl B φ1 H1 st1->yU X.K S.cl B φ1 H1 ρ σ->yd X.K S.cl B φ1 H1 v x->Run S X σ B φ1 H1 HP (k v st1) Q->P x H1):tE S X c σ H P:=
 ⟨B,φ,st,ρ,rs,re,(Run.bind h).mono λx H1 ⟨v,st1,φ1,s,rs1,rv,h1⟩=>n x H1 v st1 φ1 s rs1 (re.step s) rv h1⟩
theorem tAs.bind{c:Ces}{ρ:IC.Env}{st:SO}{k:List PV->SO->R γ}{Q:δ->Hp->Prop}{P:List V->Hp->Prop}(rs:yF X.K S.cl B φ H st)(re:yU X.K S.cl B φ H ρ σ)(h:Run S X σ B φ H HP ((evs S.call ρ st c).bind k) Q)
  (n:∀x H1 v st1 φ1,Step φ H φ1 H1->yF X.K S.cl B φ1 H1 st1->yU X.K S.cl B φ1 H1 ρ σ->yg X.K S.cl B φ1 H1 v x->Run S X σ B φ1 H1 HP (k v st1) Q->P x H1):tAs S X c σ H P:=
 ⟨B,φ,st,ρ,rs,re,(Run.bind h).mono λx H1 ⟨v,st1,φ1,s,rs1,rv,h1⟩=>n x H1 v st1 φ1 s rs1 (re.step s) rv h1⟩
variable {i:Int}{b:Bool}{x:AS}{j:Nat}{pos:C1}{e a a':AW}{c ca cb cc:Ce}
theorem zkM:PE X (.Constant (.int i) j pos) (tE S X (.cst (.int i))):=ydA.imp λσ H Q ⟨B,φ,st,ρ,rs,re,h⟩=>by
 erw[ev]at h;exact h.ok rs (by erw[yd])
theorem zp0:PE X (.Constant (.bool b) j pos) (tE S X (.cst (.bl b))):=yeZ.imp λσ H Q ⟨B,φ,st,ρ,rs,re,h⟩=>by
 erw[ev]at h;exact h.ok rs (by erw[yd])
theorem zo9:PE X (.Constant .none j pos) (tE S X (.cst .non)):=ydz.imp λσ H Q ⟨B,φ,st,ρ,rs,re,h⟩=>by
 erw[ev]at h;exact h.ok rs (by erw[yd])
theorem zo1:PE X (.Constant (.str x) j pos) (tE S X (.cst (.str x))):=ydP.imp λσ H Q ⟨B,φ,st,ρ,rs,re,h⟩=>by
 erw[ev]at h;exact h.ok rs (by erw[yd])
theorem zoC{i:Nat}(hN:X.N[i]?=AA x)(hv:Vis X.env.scope x)(hd:(x==("__debug__":AS))=false:=by decide)(hcd:(x==("__classdict__":AS))=false:=by decide):PE X (.Name x pos) (tE S X (.var i)):=
 (zkQ hN hv hd hcd).imp λσ H Q ⟨B,φ,st,ρ,rs,re,h⟩=>by
  erw[ev]at h
  cases q:ρ[i]? with
  |none=>rw[q]at h;exact h.elim
  |some o=>
   cases o with
   |none=>rw[q]at h;exact h.elim
   |some v=>
    rw[q]at h;let⟨y,hy,rv⟩:=re.get i v q;exact⟨y,hy,h.ok rs rv⟩
theorem zmd{v:PV}{y:AI}(hg:Gl X x)(hm:X.mg x=AA (.ref y))(hk:∀B φ H,yd X.K S.cl B φ H v (.ref y))(hd:(x==("__debug__":AS))=false:=by decide):PE X (.Name x pos) (tE S X (.cst v)):=
 (zdy hg hm (show RelV (.ref y) (.ref y)from rfl) hd).imp λσ H Q ⟨B,φ,st,ρ,rs,re,h⟩=>by
  erw[ev]at h;exact h.ok rs (hk B φ H)
theorem zas{o:Option PV}{st:SO}{Q:VK}(h:Run S X σ B φ H (RV S X B) (toR o st) Q)(rs:yF X.K S.cl B φ H st):∃z,o=AA z/\∀z' H' φ',Step φ H φ' H'->yF X.K S.cl B φ' H' st->yd X.K S.cl B φ' H' z z'->Q z' H':=by
 cases o with
 |none=>exact h.elim
 |some z=>exact⟨z,rfl,h⟩
def rT2(S:Se)(X:Cx)(f:PV->PV->Option PV):R2:=λx y H Q=>∃B φ st v w z,yF X.K S.cl B φ H st/\yd X.K S.cl B φ H v x/\yd X.K S.cl B φ H w y/\f v w=AA z /\
 ∀z' H' φ',Step φ H φ' H'->yF X.K S.cl B φ' H' st->yd X.K S.cl B φ' H' z z'->Q z' H'
theorem zoR{op:Dp}{o:BOp}(ho:OpR X (binaryOp op) (rT2 S X (yG o)))(ha:PE X a (tE S X ca))(hb:PE X a' (tE S X cb)):PE X (.BinOp a op a' pos) (tE S X (.bin o ca cb)):=
 (zqw ho ha hb).imp λσ H Q ⟨B,φ,st,ρ,rs,re,h⟩=>by
  erw[ev]at h;refine tE.bind rs re h λx H1 v st1 φ1 s1 rs1 re1 rv h1=>tE.bind rs1 re1 h1 λy H2 w st2 φ2 s2 rs2 re2 rw h2=>?_;let⟨z,e,q⟩:=zas h2 rs2;exact⟨B,φ2,st2,v,w,z,rs2,rv.step s2,rw,e,q⟩
theorem znQ{op:Fj}{o:COp}(ho:OpR X (compareOp op) (rT2 S X (yN o)))(ha:PE X a (tE S X ca))(hb:PE X a' (tE S X cb))(hm:behindInMarks op a'=AC):PE X (.Compare a [op] [a'] pos) (tE S X (.cmp o ca cb)):=
 (ziA ho ha hb hm).imp λσ H Q ⟨B,φ,st,ρ,rs,re,h⟩=>by
  erw[ev]at h;refine tE.bind rs re h λx H1 v st1 φ1 s1 rs1 re1 rv h1=>tE.bind rs1 re1 h1 λy H2 w st2 φ2 s2 rs2 re2 rw h2=>?_;let⟨z,e,q⟩:=zas h2 rs2;exact⟨B,φ2,st2,v,w,z,rs2,rv.step s2,rw,e,q⟩
end
section
variable {S:Se}{X:Cx}{σ:St}{B:AI->Prop}{φ φ1:Ph}{H H1:Hp}{K:AE}{cl:Nat->AI}{st:SO}
theorem ybV.sq{k:Bool}{a:AI}{xs:List V}(r:ybV K B φ H k a xs):SqT K H a xs:=by
 rcases r with⟨r,_⟩|r
 .exact .inl (.inl r)
 .exact .inr r.2
theorem yc4.sq{a:AI}{xs:List V}(r:yc4 B φ H a xs):SqL K H a xs:=.inl (.inl r.1)
theorem yd.tup_new{vs:List PV}{xs:List V}{p:AI}(hp:H p=AD)(rs:yF K cl B φ H st)(r:yg K cl B φ H vs xs):yd K cl B φ (upd H p (.tup xs)) (.tup vs) (.ref p):=by
 erw[yd];refine⟨p,xs,rfl,.inl ⟨zu,λz=>?_,λz=>?_⟩,r.step (.upd hp)⟩
 .let⟨o,e⟩:=rs.dom p z;rw[hp]at e;cases e
 .let⟨o,e⟩:=rs.there z;rw[hp]at e;cases e
theorem yd.lst_new{vs:List PV}{xs:List V}{p:AI}(hp:H p=AD)(rs:yF K cl B φ H st)(r:yg K cl B φ H vs xs):yd K cl B φ (upd H p (.lst xs)) (.lst vs) (.ref p):=by
 erw[yd];refine⟨p,xs,rfl,⟨zu,λz=>?_,λz=>?_⟩,r.step (.upd hp)⟩
 .let⟨o,e⟩:=rs.dom p z;rw[hp]at e;cases e
 .let⟨o,e⟩:=rs.there z;rw[hp]at e;cases e
theorem yg.append:∀{vs ws:List PV} {xs ys:List V},yg K cl B φ H vs xs->yg K cl B φ H ws ys->yg K cl B φ H (vs++ws) (xs++ys)
 |[],ws,xs,ys,h,q=>by erw[yg]at h;subst h;exact q
 |v::vs,ws,xs,ys,h,q=>by
  erw[yg]at h;let⟨y,zs,rfl,r,l⟩:=h;show yg K cl B φ H (v::(vs++ws)) (y::(zs++ys));erw[yg];exact⟨y,zs++ys,rfl,r,yg.append l q⟩
theorem yg.get:∀{vs:List PV} {xs:List V} (j:Nat) {v:PV},yg K cl B φ H vs xs->vs[j]?=AA v->∃x,xs[j]?=AA x/\yd K cl B φ H v x
 |[],xs,j,v,h,e=>by simp at e
 |w::vs,xs,0,v,h,e=>by
  erw[yg]at h;let⟨y,zs,rfl,r,l⟩:=h;simp at e;subst e;exact⟨y,rfl,r⟩
 |w::vs,xs,j+1,v,h,e=>by
  erw[yg]at h;let⟨y,zs,rfl,r,l⟩:=h;let⟨x,q1,q2⟩:=yg.get j l (by simpa using e);exact⟨x,by simpa using q1,q2⟩
theorem yg.drop:∀{vs:List PV} {xs:List V} (n:Nat),yg K cl B φ H vs xs->yg K cl B φ H (vs.drop n) (xs.drop n)
 |vs,xs,0,h=>by simpa using h
 |[],xs,n+1,h=>by erw[yg]at h;subst h;simp[yg]
 |v::vs,xs,n+1,h=>by
  erw[yg]at h;let⟨y,ys,rfl,_,l⟩:=h;simpa using yg.drop n l
theorem yg.take:∀{vs:List PV} {xs:List V} (n:Nat),yg K cl B φ H vs xs->yg K cl B φ H (vs.take n) (xs.take n)
 |vs,xs,0,h=>by simp[yg]
 |[],xs,n+1,h=>by erw[yg]at h;subst h;simp[yg]
 |v::vs,xs,n+1,h=>by
  erw[yg]at h;let⟨y,ys,rfl,r,l⟩:=h;erw[List.take_succ_cons,yg];exact⟨y,ys.take n,rfl,r,yg.take n l⟩
theorem zcr{f:AG->AG->HB AG}{o:BOp}{C:Int->Int->Prop}{g:Int->Int->Int}(h:OpR X f (rI C λi j=>.int (g i j)))
  (hb:∀v w z,yG o v w=AA z->∃i j,v=.int i/\w=.int j/\C i j/\z=.int (g i j)):OpR X f (rT2 S X (yG o)):=by
 rintro pins s σ H x y v u Q I rx ry ⟨B,φ,st,a,b,z,rs,ra,rb,e,q⟩
 let⟨i,j,rfl,rfl,hc,rfl⟩:=hb a b z e;erw[yd]at ra rb;subst ra rb;exact h pins s σ H _ _ v u Q I rx ry ⟨i,j,rfl,rfl,hc,q _ H φ .rfl rs (by erw[yd])⟩
theorem zcV{f:AG->AG->HB AG}{o:BOp}{g:Int->Int->Int}(h:OpR X f (rI0 λi j=>.int (g i j)))
  (hb:∀v w z,yG o v w=AA z->∃i j,v=.int i/\w=.int j/\z=.int (g i j)):OpR X f (rT2 S X (yG o)):=by
 rintro pins s σ H x y v u Q I rx ry ⟨B,φ,st,a,b,z,rs,ra,rb,e,q⟩
 let⟨i,j,rfl,rfl,rfl⟩:=hb a b z e;erw[yd]at ra rb;subst ra rb;exact h pins s σ H _ _ v u Q I rx ry ⟨i,j,rfl,rfl,q _ H φ .rfl rs (by erw[yd])⟩
theorem zmH(v w z:PV)(h:yG .sub v w=AA z):∃i j,v=.int i/\w=.int j/\z=.int (i-j):=by
 unfold yG at h;split at h<;>first|(cases h;done)|skip
 exact⟨_,_,rfl,rfl,(AZ h).symm⟩
theorem zlw(v w z:PV)(h:yG .mul v w=AA z):∃i j,v=.int i/\w=.int j/\yde i j/\z=.int (i*j):=by
 unfold yG at h;split at h<;>first|(cases h;done)|skip
 rename_i i j;erw[IC.binI]at h;split at h
 .rename_i c;refine⟨i,j,rfl,rfl,?_,(AZ h).symm⟩;erw[yaI,DH,decide_eq_true_eq]at c;unfold yde;rcases c with c|c
  .left;constructor<;>lia
  .right;constructor<;>lia
 .cases h
theorem zjS(v w z:PV)(h:yG .fdiv v w=AA z):∃i j,v=.int i/\w=.int j/\ydQ i j/\z=.int (i/j):=by
 unfold yG at h;split at h<;>first|(cases h;done)|skip
 rename_i i j;erw[IC.binI]at h;split at h
 .rename_i c;exact⟨i,j,rfl,rfl,c,(AZ h).symm⟩
 .cases h
theorem zmu(v w z:PV)(h:yG .mod v w=AA z):∃i j,v=.int i/\w=.int j/\0<j/\z=.int (i%j):=by
 unfold yG at h;split at h<;>first|(cases h;done)|skip
 rename_i i j;erw[IC.binI]at h;split at h
 .rename_i c;exact⟨i,j,rfl,rfl,c,(AZ h).symm⟩
 .cases h
theorem zlo(v w z:PV)(h:yG .pow v w=AA z):∃i j,v=.int i/\w=.int j/\ydZ i j/\z=.int (i^j.toNat):=by
 unfold yG at h;split at h<;>first|(cases h;done)|skip
 rename_i i j;erw[IC.binI]at h;split at h
 .rename_i c;exact⟨i,j,rfl,rfl,⟨c.1,c.2.1,by have:=c.2.2;lia⟩,(AZ h).symm⟩
 .cases h
theorem zlx(v w z:PV)(h:yG .shl v w=AA z):∃i j,v=.int i/\w=.int j/\ydZ i j/\z=.int (i*2^j.toNat):=by
 unfold yG at h;split at h<;>first|(cases h;done)|skip
 rename_i i j;erw[IC.binI]at h;split at h
 .rename_i c;exact⟨i,j,rfl,rfl,⟨c.1,c.2.1,by have:=c.2.2;lia⟩,(AZ h).symm⟩
 .cases h
theorem zmK(v w z:PV)(h:yG .shr v w=AA z):∃i j,v=.int i/\w=.int j/\0<=j/\z=.int (i/2^j.toNat):=by
 unfold yG at h;split at h<;>first|(cases h;done)|skip
 rename_i i j;erw[IC.binI]at h;split at h
 .rename_i c;exact⟨i,j,rfl,rfl,c,(AZ h).symm⟩
 .cases h
theorem zjH(v w z:PV)(h:yG .band v w=AA z):∃i j,v=.int i/\w=.int j/\z=.int (BH i j):=by
 unfold yG at h;split at h<;>first|(cases h;done)|skip
 exact⟨_,_,rfl,rfl,(AZ h).symm⟩
theorem zlJ(v w z:PV)(h:yG .bor v w=AA z):∃i j,v=.int i/\w=.int j/\z=.int (Az i j):=by
 unfold yG at h;split at h<;>first|(cases h;done)|skip
 exact⟨_,_,rfl,rfl,(AZ h).symm⟩
theorem zjK(v w z:PV)(h:yG .bxor v w=AA z):∃i j,v=.int i/\w=.int j/\z=.int (BR i j):=by
 unfold yG at h;split at h<;>first|(cases h;done)|skip
 exact⟨_,_,rfl,rfl,(AZ h).symm⟩
theorem zn8:OpR X (binaryOp .Sub) (rT2 S X (yG .sub)):=zcV zno zmH
theorem zoN:OpR X (binaryOp .Mult) (rT2 S X (yG .mul)):=zcr znU zlw
theorem zmx:OpR X (binaryOp .FloorDiv) (rT2 S X (yG .fdiv)):=zcr zjI zjS
theorem zoE:OpR X (binaryOp .Mod) (rT2 S X (yG .mod)):=zcr znD zmu
theorem zot:OpR X (binaryOp .Pow) (rT2 S X (yG .pow)):=zcr znz zlo
theorem zo8:OpR X (binaryOp .LShift) (rT2 S X (yG .shl)):=zcr zn5 zlx
theorem zo2:OpR X (binaryOp .RShift) (rT2 S X (yG .shr)):=zcr zob zmK
theorem zmr:OpR X (binaryOp .BitAnd) (rT2 S X (yG .band)):=zcV zpC zjH
theorem zoo:OpR X (binaryOp .BitOr) (rT2 S X (yG .bor)):=zcV zqb zlJ
theorem zlQ:OpR X (binaryOp .BitXor) (rT2 S X (yG .bxor)):=zcV zpB zjK
theorem zD:sizeMax=sizeLine:=by rw[Dq];rfl
theorem zmB:OpR X (binaryOp .Add) (λx y H Q=>∃a b ys,x=.ref a/\y=.ref b/\SqT X.K H a []/\SqT X.K H b ys/\Q (.ref b) H):=by
 intro pins s σ H x y v u Q I rx ry h;let⟨a,b,ys,rfl,rfl,ha,hb,q⟩:=h
 cases rx
 cases ry
 let⟨its,r1,p1,_⟩:=I.tuple ha;let⟨its2,r2,p2,_⟩:=I.tuple hb;have:its=[]:=r1.nil_iff.mpr rfl;subst this;let⟨⟨cls,dd,data,sl⟩,ho,hc,n,hd⟩:=id p1;let⟨⟨cls2,dd2,data2,sl2⟩,ho2,hc2,n2,hd2⟩:=id p2;simp only at hc hd hc2 hd2;subst hc hd hc2 hd2;exact GO ⟨_,ho,rfl⟩ ⟨_,ho2,rfl⟩ Ex Fk DQ DM (DF _ _)
   (tuple_addW0 a b [].toArray its2.toArray n n2 dd dd2 sl sl2 (by simp)) ⟨ho,ho2,⟨.ref b,H,I,rfl,q⟩⟩
theorem zoP:OpR X (binaryOp .Add) (rT2 S X (yG .add)):=by
 rintro pins s σ H x y v u Q I rx ry ⟨B,φ,st,a,b,z,rs,ra,rb,e,q⟩
 unfold yG at e;split at e
 .rename_i i j;erw[yd]at ra rb;subst ra rb
  cases e
  exact zoZ pins s σ H _ _ v u Q I rx ry ⟨i,j,rfl,rfl,q _ H φ .rfl rs (by erw[yd])⟩
 .rename_i i k;erw[yd]at ra rb;subst ra rb
  cases e
  exact zh6 pins s σ H _ _ v u Q I rx ry ⟨i,k,rfl,rfl,q _ H φ .rfl rs (by erw[yd];cases k<;>rfl)⟩
 .rename_i i j;erw[yd]at ra rb;subst ra rb;dsimp only at e;split at e
  .rename_i c
   cases e
   exact zhd pins s σ H _ _ v u Q I rx ry ⟨i,j,rfl,rfl,by rw[<-zD];exact c,q _ H φ .rfl rs (by erw[yd])⟩
  .cases e
 .rename_i k1 vs k2 ws;erw[yd]at ra rb;let⟨p,xs,rfl,r1,l1⟩:=ra;let⟨p',ys,rfl,r2,l2⟩:=rb;dsimp only at e;split at e
  .rename_i c
   cases e
   have n1:=l1.length;have n2:=l2.length;unfold yeP at q
   cases vs with
   |nil=>
    have:xs=[]:=by cases xs with|nil=>rfl|cons _ _=>simp at n1
    subst this;refine zmB pins s σ H _ _ v u Q I rx ry ⟨p,p',ys,rfl,rfl,r1.sq,r2.sq,q _ H φ .rfl rs ?_⟩;erw[G4,if_true,yd];exact⟨p',ys,rfl,r2,l2⟩
   |cons v1 vr=>
    erw[GU,Bo,if_false]at q;refine zma pins s σ H _ _ v u Q I rx ry ⟨p,p',xs,ys,rfl,rfl,r1.sq,r2.sq,?_,by rw[<-zD];lia,λz=>?_,λz t ht=>?_⟩
    .rintro rfl
     simp at n1
    .subst z;have:ws=[]:=by cases ws with|nil=>rfl|cons _ _=>simp at n2
     subst this;erw[G4,if_true]at q;refine q _ H φ .rfl rs ?_;erw[yd];exact⟨p,xs,rfl,r1,l1⟩
    .cases ws with
     |nil=>exact absurd (List.length_eq_zero_iff.mp n2.symm) z
     |cons w1 wr=>
      erw[GU,Bo,if_false]at q;exact q _ _ φ (.upd ht) (rs.upd ht) (.tup_new ht rs (l1.append l2))
  .cases e
 .rename_i vs ws;erw[yd]at ra rb;let⟨p,xs,rfl,r1,l1⟩:=ra;let⟨p',ys,rfl,r2,l2⟩:=rb;dsimp only at e;split at e
  .rename_i c
   cases e
   have n1:=l1.length;have n2:=l2.length;exact zo0 pins s σ H _ _ v u Q I rx ry ⟨p,p',xs,ys,rfl,rfl,r1.1,r2.1,by rw[<-zD];lia,λt ht=>q _ _ φ (.upd ht) (rs.upd ht) (.lst_new ht rs (l1.append l2))⟩
  .cases e
 .cases e
end
mutual
noncomputable def toD:PV->PyData
 |.non=>.none
 |.bl b=>.bool b
 |.int i=>.int i
 |.str x=>.str x
 |.tp _ xs=>.tuple (ybI xs)
 |.lst xs=>.list (ybI xs)
 |_=>.none
noncomputable def ybI:List PV->List PyData
 |[]=>[]
 |x::xs=>toD x::ybI xs
end
mutual
theorem zih:∀(v:PV) (n:Nat),shd n v=AB->(toD v).canLay0=AB/\(toD v).depth<=n
 |.non,n,h=>by simp[toD,Cr,DX]
 |.bl b,n,h=>by simp[toD,Cr,DX]
 |.int i,n,h=>by simp[toD,Cr,DX]
 |.str x,n,h=>by
  erw[shd]at h;erw[toD,Cr,DX,DL,and_true];exact h
 |.tp _ xs,n,h=>by
  erw[shd,AK,decide_eq_true_eq]at h;let⟨q1,q2⟩:=zei xs (n-1) h.2;erw[toD,Cr,DX];exact⟨q1,by lia⟩
 |.lst xs,n,h=>by
  erw[shd,AK,decide_eq_true_eq]at h;let⟨q1,q2⟩:=zei xs (n-1) h.2;erw[toD,Cr,DX];exact⟨q1,by lia⟩
 |.loc k,n,h=>by simp[shd]at h
 |.exn k,n,h=>by simp[shd]at h
 |.scr xs,n,h=>by simp[shd]at h
theorem zei:∀(v:List PV) (n:Nat),ybK n v=AB->Ei (ybI v)=AB/\FR (ybI v)<=n
 |[],n,h=>by simp[ybI,Ei,FR]
 |v::vs,n,h=>by
  erw[ybK,AK]at h;let⟨q1,q2⟩:=zih v n h.1;let⟨q3,q4⟩:=zei vs n h.2;erw[ybI,Ei,FR,AK];exact⟨⟨q1,q3⟩,by lia⟩
end
theorem zbC{v:PV}(h:shp v=AB):HQ (toD v)=true:=by
 let⟨q1,q2⟩:=zih v 60 h;unfold HQ;rw[q1,Di,decide_eq_true_eq];lia
mutual
theorem zfD:∀(v w:PV) (n m:Nat),shd n v=AB->shd m w=AB->Bd (toD v) (toD w)=peq v w
 |.non,w,n,m,h,q=>by cases w<;>simp_all[toD,Bd,peq,shd]
 |.bl b,w,n,m,h,q=>by cases w<;>simp_all[toD,Bd,peq,shd,bi]
 |.int i,w,n,m,h,q=>by cases w<;>simp_all[toD,Bd,peq,shd,bi]
 |.str x,w,n,m,h,q=>by cases w<;>simp_all[toD,Bd,peq,shd]
 |.tp _ xs,.tp _ ys,n,m,h,q=>by
  erw[shd,AK]at h q;erw[toD,Bd,peq];exact zeE xs ys (n-1) (m-1) h.2 q.2
 |.lst xs,.lst ys,n,m,h,q=>by
  erw[shd,AK]at h q;erw[toD,Bd,peq];exact zeE xs ys (n-1) (m-1) h.2 q.2
 |.tp _ xs,.non,n,m,h,q=>by simp[toD,Bd,peq]
 |.tp _ xs,.bl _,n,m,h,q=>by simp[toD,Bd,peq]
 |.tp _ xs,.int _,n,m,h,q=>by simp[toD,Bd,peq]
 |.tp _ xs,.str _,n,m,h,q=>by simp[toD,Bd,peq]
 |.tp _ xs,.lst _,n,m,h,q=>by simp[toD,Bd,peq]
 |.lst xs,.non,n,m,h,q=>by simp[toD,Bd,peq]
 |.lst xs,.bl _,n,m,h,q=>by simp[toD,Bd,peq]
 |.lst xs,.int _,n,m,h,q=>by simp[toD,Bd,peq]
 |.lst xs,.str _,n,m,h,q=>by simp[toD,Bd,peq]
 |.lst xs,.tp _ _,n,m,h,q=>by simp[toD,Bd,peq]
 |.loc k,w,n,m,h,q=>by simp[shd]at h
 |.exn k,w,n,m,h,q=>by simp[shd]at h
 |.scr k,w,n,m,h,q=>by simp[shd]at h
 |v,.loc k,n,m,h,q=>by simp[shd]at q
 |v,.exn k,n,m,h,q=>by simp[shd]at q
 |v,.scr k,n,m,h,q=>by simp[shd]at q
theorem zeE:∀(v w:List PV) (n m:Nat),ybK n v=AB->ybK m w=AB->Dj (ybI v) (ybI w)=ybu v w
 |[],[],n,m,h,q=>by simp[ybI,Dj,ybu]
 |[],y::ys,n,m,h,q=>by simp[ybI,Dj,ybu]
 |x::xs,[],n,m,h,q=>by simp[ybI,Dj,ybu]
 |x::xs,y::ys,n,m,h,q=>by
  erw[ybK,AK]at h q;erw[ybI,Dj,ybu];rw[zfD x y n m h.1 q.1,zeE xs ys n m h.2 q.2]
end
section
variable {S:Se}{X:Cx}{σ:St}{B:AI->Prop}{φ φ1:Ph}{H H1:Hp}{st:SO}{pins:List (AI×CK)}{s:AJ}
mutual
theorem zbX(I:Inv X pins σ H s):∀(v:PV) (n:Nat) (x:V) (u:AG),shd n v=AB->yd X.K S.cl B φ H v x->RelV x u->∃as,Reads s.heap u (toD v) as
 |.non,n,x,u,h,r,q=>by
  erw[yd]at r;subst r;cases (show u=CQ from q);exact⟨_,.none⟩
 |.bl b,n,x,u,h,r,q=>by
  erw[yd]at r;subst r;cases (show u=EJ b from q);exact⟨_,.bool b⟩
 |.int i,n,x,u,h,r,q=>by
  erw[yd]at r;subst r;let⟨t,rfl⟩:=q;exact⟨_,.int i t⟩
 |.str y,n,x,u,h,r,q=>by
  erw[yd]at r;subst r;let⟨t,rfl⟩:=q;exact⟨_,.str y t⟩
 |.tp _ vs,n,x,u,h,r,q=>by
  erw[yd]at r;let⟨a,xs,rfl,rt,l⟩:=r
  cases (show u=An a from q)
  erw[shd,AK]at h;let⟨its,rv,⟨o,g,c,k,d⟩,_⟩:=I.tuple rt.sq;let⟨as,z⟩:=zdp I vs (n-1) xs its h.2 l rv;exact⟨as,.tuple g c d (by simpa using z)⟩
 |.lst vs,n,x,u,h,r,q=>by
  erw[yd]at r;let⟨a,xs,rfl,rt,l⟩:=r
  cases (show u=An a from q)
  erw[shd,AK]at h;let⟨its,rv,⟨o,k,g,c,_,d⟩,_⟩:=I.list (rt.sq (K:=X.K));let⟨as,z⟩:=zdp I vs (n-1) xs its h.2 l rv;exact⟨_,.list g c d (by simpa using z)⟩
 |.loc k,n,x,u,h,r,q=>by simp[shd]at h
 |.exn k,n,x,u,h,r,q=>by simp[shd]at h
 |.scr k,n,x,u,h,r,q=>by simp[shd]at h
theorem zdp(I:Inv X pins σ H s):∀(v:List PV) (n:Nat) (x:List V) (u:List AG),ybK n v=AB->yg X.K S.cl B φ H v x->Vals x u->∃as,ReadsAll s.heap u (ybI v) as
 |[],n,x,u,h,r,q=>by
  erw[yg]at r;subst r;cases q;exact⟨_,.nil⟩
 |v::vs,n,x,u,h,r,q=>by
  erw[yg]at r;let⟨y,ys,rfl,rv,l⟩:=r;erw[ybK,AK]at h
  cases q with
  |cons q1 q2=>
   let⟨as,z1⟩:=zbX I v n y _ h.1 rv q1;let⟨bs,z2⟩:=zdp I vs n ys _ h.2 l q2;exact⟨_,.cons z1 z2⟩
end
theorem zpK(hu:X.A.units+64<cLine):OpR X (compareOp .Eq) (rT2 S X (yN .eq)):=by
 rintro pins s σ H x y v u Q I rx ry ⟨B,φ,st,a,b,z,rs,ra,rb,e,q⟩
 erw[yN]at e;split at e
 .rename_i c;rw[AK]at c
  cases e
  let⟨as,z1⟩:=zbX (S:=S) I a 60 x v c.1 ra rx;let⟨bs,z2⟩:=zbX (S:=S) I b 60 y u c.2 rb ry;refine eq_dataH z1 z2 (zbC c.1) (zbC c.2) hu ⟨.bl _,H,I,rfl,?_⟩;rw[zfD a b 60 60 c.1 c.2];exact q _ H φ .rfl rs (by erw[yd])
 .cases e
theorem zqi(hu:X.A.units+64<cLine):OpR X (compareOp .NotEq) (rT2 S X (yN .ne)):=by
 rintro pins s σ H x y v u Q I rx ry ⟨B,φ,st,a,b,z,rs,ra,rb,e,q⟩
 erw[yN]at e;split at e
 .rename_i c;rw[AK]at c
  cases e
  let⟨as,z1⟩:=zbX (S:=S) I a 60 x v c.1 ra rx;let⟨bs,z2⟩:=zbX (S:=S) I b 60 y u c.2 rb ry;refine ne_dataH z1 z2 (zbC c.1) (zbC c.2) hu ⟨.bl _,H,I,rfl,?_⟩;rw[zfD a b 60 60 c.1 c.2];exact q _ H φ .rfl rs (by erw[yd])
 .cases e
theorem zjg{f:AG->AG->HB AG}{o:COp}{g:Int->Int->Bool}(h:OpR X f (rI0 λi j=>.bl (g i j)))
  (hb:∀v w z,yN o v w=AA z->∃i j,v=.int i/\w=.int j/\z=.bl (g i j)):OpR X f (rT2 S X (yN o)):=by
 rintro pins s σ H x y v u Q I rx ry ⟨B,φ,st,a,b,z,rs,ra,rb,e,q⟩
 let⟨i,j,rfl,rfl,rfl⟩:=hb a b z e;erw[yd]at ra rb;subst ra rb;exact h pins s σ H _ _ v u Q I rx ry ⟨i,j,rfl,rfl,q _ H φ .rfl rs (by erw[yd])⟩
theorem zhf:OpR X (compareOp .LtE) (λx y H Q=>∃i j,x=.str i/\y=.str j/\Q (.bl (!decide (j.cps.toList<i.cps.toList))) H):=by
 intro pins s σ H x y v u Q I rx ry h;let⟨i,j,rfl,rfl,q⟩:=h;let⟨t,rfl⟩:=rx;let⟨t',rfl⟩:=ry;exact PySem.P.le_str (zik I q rfl)
theorem zqj:OpR X (compareOp .Lt) (rT2 S X (yN .lt)):=by
 rintro pins s σ H x y v u Q I rx ry ⟨B,φ,st,a,b,z,rs,ra,rb,e,q⟩
 erw[yN]at e;split at e
 .rename_i i j;erw[yd]at ra rb;subst ra rb
  cases e
  exact zp5 pins s σ H _ _ v u Q I rx ry ⟨i,j,rfl,rfl,q _ H φ .rfl rs (by erw[yd])⟩
 .rename_i i j;erw[yd]at ra rb;subst ra rb
  cases e
  exact zhx pins s σ H _ _ v u Q I rx ry ⟨i,j,rfl,rfl,q _ H φ .rfl rs (by erw[yd])⟩
 .cases e
theorem zpM:OpR X (compareOp .LtE) (rT2 S X (yN .le)):=by
 rintro pins s σ H x y v u Q I rx ry ⟨B,φ,st,a,b,z,rs,ra,rb,e,q⟩
 erw[yN]at e;split at e
 .rename_i i j;erw[yd]at ra rb;subst ra rb
  cases e
  exact zqr pins s σ H _ _ v u Q I rx ry ⟨i,j,rfl,rfl,q _ H φ .rfl rs (by erw[yd])⟩
 .rename_i i j;erw[yd]at ra rb;subst ra rb
  cases e
  exact zhf pins s σ H _ _ v u Q I rx ry ⟨i,j,rfl,rfl,q _ H φ .rfl rs (by erw[yd])⟩
 .cases e
theorem zgf{o:COp}{g:Int->Int->Bool}(ho:∀v w,yN o v w=match v,w with
   |.int i,.int j=>ybN o i j
   |.str a,.str b=>yer o a b
   |_,_=>AD) (hs:∀a b,yer o a b=AD) (hg:∀i j,ybN o i j=AA (.bl (g i j))) (v w z:PV) (h:yN o v w=AA z):∃i j,v=.int i/\w=.int j/\z=.bl (g i j):=by
 rw[ho]at h;split at h
 .rename_i i j;rw[hg]at h;exact⟨i,j,rfl,rfl,(AZ h).symm⟩
 .rw[hs]at h;cases h
 .cases h
theorem zqk:OpR X (compareOp .Gt) (rT2 S X (yN .gt)):=zjg zpO (zgf (λ_ _=>rfl) (λ_ _=>rfl) λ_ _=>rfl)
theorem zqn:OpR X (compareOp .GtE) (rT2 S X (yN .ge)):=zjg zpU (zgf (λ_ _=>rfl) (λ_ _=>rfl) λ_ _=>rfl)
theorem yd.isNon{K:AE}{cl:Nat->AI}{v:PV}{x:V}(r:yd K cl B φ H v x):decide (x=.non)=IC.isNon v:=by
 cases v with
 |loc n=>erw[yd]at r;let⟨_,a,rfl,_⟩:=r;rfl
 |non=>erw[yd]at r;subst r;rfl
 |bl b=>erw[yd]at r;subst r;rfl
 |int b=>erw[yd]at r;subst r;rfl
 |str b=>erw[yd]at r;subst r;rfl
 |tp k vs=>erw[yd]at r;let⟨a,xs,rfl,_⟩:=r;rfl
 |lst vs=>erw[yd]at r;let⟨a,xs,rfl,_⟩:=r;rfl
 |exn vs=>erw[yd]at r;let⟨a,rfl,_⟩:=r;rfl
 |scr vs=>erw[yd]at r;let⟨a,xs,rfl,_⟩:=r;rfl
theorem yd.flat{K:AE}{cl:Nat->AI}{v:PV}{x:V}(r:yd K cl B φ H v x)(h:IC.flat v=AB):ya7 x=AB/\∀(w:PV) (y:V),IC.flat w=AB->yd K cl B φ H w y->eqV x y=peq v w:=by
 cases v with
 |non=>
  erw[yd]at r;subst r;refine⟨rfl,λw y hw rw=>?_⟩
  cases w<;>first|(simp[IC.flat]at hw;done)|(erw[yd]at rw;subst rw;simp[eqV,peq,bi])
 |bl b=>
  erw[yd]at r;subst r;refine⟨rfl,λw y hw rw=>?_⟩
  cases w<;>first|(simp[IC.flat]at hw;done)|(erw[yd]at rw;subst rw;simp[eqV,peq,bi])
 |int b=>
  erw[yd]at r;subst r;refine⟨rfl,λw y hw rw=>?_⟩
  cases w<;>first|(simp[IC.flat]at hw;done)|(erw[yd]at rw;subst rw;simp[eqV,peq,bi])
 |str b=>
  erw[yd]at r;subst r;refine⟨rfl,λw y hw rw=>?_⟩
  cases w<;>first|(simp[IC.flat]at hw;done)|(erw[yd]at rw;subst rw;simp[eqV,peq,bi])
 |_=>simp[IC.flat]at h
theorem zfA{K:AE}{cl:Nat->AI}{v:PV}{x:V}(r:yd K cl B φ H v x)(h:IC.flat v=AB):∀{vs:List PV} {xs:List V},yg K cl B φ H vs xs->vs.all IC.flat=AB->xs.all ya7=AB/\inV x xs=inL v vs
 |[],xs,l,_=>by erw[yg]at l;subst l;exact⟨rfl,rfl⟩
 |w::vs,xs,l,f=>by
  erw[yg]at l;let⟨y,ys,rfl,rw,l⟩:=l;rw[Bj,AK]at f;let⟨q1,q2⟩:=zfA r h l f.2;let⟨q3,q4⟩:=rw.flat f.1;refine⟨by rw[Bj,q3,q1];rfl,?_⟩;unfold inV at q2 ⊢;rw[Bs,q2,q4 v x h r];rfl
end
theorem zm7(a b:AS):(!(Et b a 0 b.length 1).isEmpty)=inS a b:=by
 rw[Dz,StrLaws.found_iff];unfold inS;rw[Ez];constructor
 .rintro⟨i,h1,h2⟩
  exact⟨i,by rw[FY];lia,by rw[AK,decide_eq_true_eq];exact⟨h1,h2⟩⟩
 .rintro⟨i,_,h⟩
  rw[AK,decide_eq_true_eq]at h;exact⟨i,h.1,h.2⟩
section
variable {S:Se}{X:Cx}{σ:St}{B:AI->Prop}{φ φ1:Ph}{H H1:Hp}{st:SO}
theorem zqh:OpR X (compareOp .In) (rT2 S X (yN .isin)):=by
 rintro pins s σ H x y v u Q I rx ry ⟨B,φ,st,a,b,z,rs,ra,rb,e,q⟩
 erw[yN]at e;split at e
 .rename_i i j;erw[yd]at ra rb;subst ra rb
  cases e
  exact ziV pins s σ H _ _ v u Q I rx ry ⟨i,j,rfl,rfl,by rw[zm7];exact q _ H φ .rfl rs (by erw[yd])⟩
 .rename_i l;split at e
  .rename_i c;rw[AK]at c
   cases e
   erw[yd]at rb;let⟨p,xs,rfl,r,l'⟩:=rb;let⟨q1,q2⟩:=zfA ra c.1 l' c.2;exact ze9 pins s σ H _ _ v u Q I rx ry ⟨p,xs,rfl,.inr r.sq,(ra.flat c.1).1,q1,q _ H φ .rfl rs (by erw[yd];rw[<-q2];rfl)⟩
  .cases e
 .rename_i l;split at e
  .rename_i c;rw[AK]at c
   cases e
   erw[yd]at rb;let⟨p,xs,rfl,r,l'⟩:=rb;let⟨q1,q2⟩:=zfA ra c.1 l' c.2;exact ze9 pins s σ H _ _ v u Q I rx ry ⟨p,xs,rfl,.inl r.sq,(ra.flat c.1).1,q1,q _ H φ .rfl rs (by erw[yd];rw[<-q2];rfl)⟩
  .cases e
 .cases e
theorem yg.empty{K:AE}{cl:Nat->AI}{vs:List PV}{xs:List V}(l:yg K cl B φ H vs xs):vs.isEmpty=xs.isEmpty:=by
 have:=l.length
 cases vs<;>cases xs<;>simp_all
theorem zlR{K:AE}{cl:Nat->AI}{v:PV}{x:V}{k:Bool}(rs:yF K cl B φ H st)(r:yd K cl B φ H v x)(h:yaQ st v=AA k):yea K x H k:=by
 cases v with
 |non=>erw[yd]at r;subst r;cases h;rfl
 |bl b=>erw[yd]at r;subst r;cases h;rfl
 |int b=>erw[yd]at r;subst r;cases h;rfl
 |str b=>
  erw[yd]at r;subst r;erw[yaQ]at h;split at h
  .rename_i c
   cases h
   exact⟨by rw[<-zD];exact c,rfl⟩
  .cases h
 |tp k vs=>
  erw[yd]at r;let⟨a,xs,rfl,rt,l⟩:=r
  cases h
  exact .inr (.inl ⟨xs,rt.sq,by rw[l.empty]⟩)
 |lst vs=>
  erw[yd]at r;let⟨a,xs,rfl,rt,l⟩:=r
  cases h
  exact .inl ⟨xs,rt.sq,by rw[l.empty]⟩
 |loc n=>
  erw[yd]at r;let⟨hn,a,rfl,ha⟩:=r;erw[yaQ]at h;split at h
  .rename_i vs hv
   cases h
   let⟨b,hb⟩:=rs.liv n _ hv (by intro z;cases z);obtain rfl:=ha b hb;let⟨o,ho,ro⟩:=rs.obj n b hb;rw[hv]at ho;cases ho;let⟨xs,hx,l⟩:=ro;exact .inl ⟨xs,.of hx,by rw[l.empty]⟩
  .cases h
 |exn c=>cases h
 |scr c=>cases h
end
theorem R.bind_assoc{α β γ:Type}{r:R α}{k:α->SO->R β}{l:β->SO->R γ}:(r.bind k).bind l=r.bind λa s=>(k a s).bind l:=by
 cases r<;>rfl
section
variable {S:Se}{X:Cx}{σ:St}{B:AI->Prop}{φ φ1:Ph}{H H1:Hp}{st:SO}{ρ:IC.Env}{pos:C1}{a b c d:AW}{ca cb cc:Ce}{es:List AW}{ces:Ces}
theorem zex{o:COp}{v w z:PV}(h:yN o v w=AA z):∃k,z=.bl k:=by
 cases o<;>erw[yN]at h
 all_goals (repeat' split at h)<;>first|(cases h;done)|(cases h;exact⟨_,rfl⟩)|skip
 all_goals (erw[ybN]at h;cases h;exact⟨_,rfl⟩)
theorem zoq{op:Fj}{o:COp}(ho:OpR X (compareOp op) (rT2 S X (yN o)))(ha:PE X a (tE S X ca))(hb:PE X b (tE S X cb))(hm:behindInMarks op b=AC):PT X (.Compare a [op] [b] pos) (tTs S X (.cmp o ca cb)):=
 (zls ho ha hb hm).imp λσ H Q ⟨B,φ,st,ρ,rs,re,h⟩=>by
  erw[ev,ybg,R.bind_assoc]at h;refine tE.bind rs re h λx H1 v st1 φ1 s1 rs1 re1 rv h1=>tE.bind rs1 re1 h1 λy H2 w st2 φ2 s2 rs2 re2 rw h2=>?_
  cases e:yN o v w with
  |none=>rw[e]at h2;exact h2.elim
  |some z=>
   let⟨k,rfl⟩:=zex e;rw[e]at h2;refine⟨B,φ2,st2,v,w,.bl k,rs2,rv.step s2,rw,e,λz' H' φ' s' rs' rz=>?_⟩;erw[yd]at rz;exact⟨k,rz,h2 k H' φ' s' rs' rfl⟩
theorem zoi(ha:PE X a (tE S X ca))(he:∀whole,isTrue a X.env whole=(do let v <-whole;standAt a.pos;holding [v] (truthy v)):=by intro _;rfl):PT X a (tTs S X ca):=
 (zjL ha he).imp λσ H Q ⟨B,φ,st,ρ,rs,re,h⟩=>by
  erw[ybg]at h;refine tE.bind rs re h λx H1 v st1 φ1 s1 rs1 re1 rv h1=>?_
  cases e:yaQ st1 v with
  |none=>rw[e]at h1;exact h1.elim
  |some k=>
   rw[e]at h1;exact⟨k,zlR rs1 rv e,h1.ok rs1 rfl⟩
theorem tTs.bind{γ δ:Type}{HP:Ph->Hp->γ->δ->Prop}{k:Bool->SO->R γ}{Q:δ->Hp->Prop}{P:Bool->Hp->Prop}(rs:yF X.K S.cl B φ H st)(re:yU X.K S.cl B φ H ρ σ)(h:Run S X σ B φ H HP ((ybg (ev S.call ρ st ca)).bind k) Q)
  (n:∀b H1 st1 φ1,Step φ H φ1 H1->yF X.K S.cl B φ1 H1 st1->yU X.K S.cl B φ1 H1 ρ σ->Run S X σ B φ1 H1 HP (k b st1) Q->P b H1):tTs S X ca σ H P:=
 ⟨B,φ,st,ρ,rs,re,(Run.bind h).mono λx H1 ⟨v,st1,φ1,s,rs1,rv,h1⟩=>by
  subst rv;exact n v H1 st1 φ1 s rs1 (re.step s) h1⟩
theorem zfI(r:R PV)(f:Bool->SO->R PV):ybg (r.bind λx st1=>onBl x λb=>f b st1)=r.bind λx st1=>onBl x λb=>ybg (f b st1):=by
 unfold ybg;rw[R.bind_assoc]
 congr 1
 funext x st1
 cases x<;>rfl
theorem Run.bl_tru{r:R PV}{k:Bool->SO->R Bool}{Q:Bool->Hp->Prop}(h:Run S X σ B φ H RB (r.bind λx st1=>onBl x λb=>k b st1) Q):Run S X σ B φ H RB ((ybg r).bind k) Q:=by
 cases r with
 |bad=>exact h
 |exc c s=>exact h
 |ok v s=>
  cases v with
  |bl b=>exact h
  |_=>exact h.elim
theorem zn3(ha:PT X a (tTs S X ca)):PT X (.UnaryOp .Not a pos) (tTs S X (.not ca)):=
 (znH ha).imp λσ H Q ⟨B,φ,st,ρ,rs,re,h⟩=>by
  erw[ev]at h;rw[zfI _ λk st1=>.ok (.bl (!k)) st1]at h;exact tTs.bind rs re (Run.bl_tru (k:=λb st1=>.ok (!b) st1) h) λb H1 st1 φ1 s1 rs1 re1 h1=>h1.ok rs1 rfl
variable {rest:List AW}
theorem zmY(ha:PT X a (tTs S X ca)):PW X (.BoolOp .And [a] pos) (tTs S X ca):=zlF ha
theorem znf(ha:PT X a (tTs S X ca)):PW X (.BoolOp .Or [a] pos) (tTs S X ca):=znX ha
theorem zoY(ha:PT X a (tTs S X ca))(hb:PW X (.BoolOp .And (b::rest) pos) (tTs S X cb)):PW X (.BoolOp .And (a::b::rest) pos) (tTs S X (.and ca cb)):=
 (zo6 ha hb).imp λσ H Q ⟨B,φ,st,ρ,rs,re,h⟩=>by
  erw[ev]at h;rw[zfI _ λk st1=>cond k (ev S.call ρ st1 cb) (.ok (.bl AC) st1)]at h;refine tTs.bind rs re (Run.bl_tru h) λk H1 st1 φ1 s1 rs1 re1 h1=>?_
  cases k with
  |false=>exact h1.ok rs1 rfl
  |true=>exact⟨B,φ1,st1,ρ,rs1,re1,h1⟩
theorem zqa(ha:PT X a (tTs S X ca))(hb:PW X (.BoolOp .Or (b::rest) pos) (tTs S X cb)):PW X (.BoolOp .Or (a::b::rest) pos) (tTs S X (.or ca cb)):=
 (zp9 ha hb).imp λσ H Q ⟨B,φ,st,ρ,rs,re,h⟩=>by
  erw[ev]at h;rw[zfI _ λk st1=>cond k (.ok (.bl AB) st1) (ev S.call ρ st1 cb)]at h;refine tTs.bind rs re (Run.bl_tru h) λk H1 st1 φ1 s1 rs1 re1 h1=>?_
  cases k with
  |true=>exact h1.ok rs1 rfl
  |false=>exact⟨B,φ1,st1,ρ,rs1,re1,h1⟩
theorem zll{op:HR}(h:PE X a (tE S X ca)):PE X (.BoolOp op [a] pos) (tE S X ca):=zph h
theorem zlk(ha:PE X a (tE S X ca))(hb:PE X (.BoolOp .And (b::rest) pos) (tE S X cb)):PE X (.BoolOp .And (a::b::rest) pos) (tE S X (.and ca cb)):=
 (zn9 ha hb).imp λσ H Q ⟨B,φ,st,ρ,rs,re,h⟩=>by
  erw[ev]at h;refine tE.bind rs re h λx H1 v st1 φ1 s1 rs1 re1 rv h1=>?_
  cases v with
  |bl k=>
   erw[yd]at rv;refine⟨k,rv,?_⟩
   cases k with
   |true=>exact⟨B,φ1,st1,ρ,rs1,re1,h1⟩
   |false=>exact h1.ok rs1 (by erw[yd])
  |_=>exact h1.elim
theorem zoy(ha:PE X a (tE S X ca))(hb:PE X (.BoolOp .Or (b::rest) pos) (tE S X cb)):PE X (.BoolOp .Or (a::b::rest) pos) (tE S X (.or ca cb)):=
 (zpW ha hb).imp λσ H Q ⟨B,φ,st,ρ,rs,re,h⟩=>by
  erw[ev]at h;refine tE.bind rs re h λx H1 v st1 φ1 s1 rs1 re1 rv h1=>?_
  cases v with
  |bl k=>
   erw[yd]at rv;refine⟨k,rv,?_⟩
   cases k with
   |false=>exact⟨B,φ1,st1,ρ,rs1,re1,h1⟩
   |true=>exact h1.ok rs1 (by erw[yd])
  |_=>exact h1.elim
theorem zoG(ha:PE X a (tE S X ca)):PE X (.UnaryOp .Not a pos) (tE S X (.not ca)):=
 (znG ha).imp λσ H Q ⟨B,φ,st,ρ,rs,re,h⟩=>by
  erw[ev]at h;refine tE.bind rs re h λx H1 v st1 φ1 s1 rs1 re1 rv h1=>?_
  cases v with
  |bl k=>
   erw[yd]at rv;exact⟨k,rv,h1.ok rs1 (by erw[yd])⟩
  |_=>exact h1.elim
theorem zk4(ha:PE X a (tE S X ca)):PE X (.UnaryOp .USub a pos) (tE S X (.neg ca)):=
 (zpQ zou ha).imp λσ H Q ⟨B,φ,st,ρ,rs,re,h⟩=>by
  erw[ev]at h;refine tE.bind rs re h λx H1 v st1 φ1 s1 rs1 re1 rv h1=>?_;split at h1
  .simp only[yd]at rv;exact⟨_,rv,h1.ok rs1 (by erw[yd])⟩
  .exact h1.elim
theorem znn(hc:PT X c (tTs S X cc))(ha:PE X a (tE S X ca))(hb:PE X b (tE S X cb)):PE X (.IfExp c a b pos) (tE S X (.ite cc ca cb)):=
 (zka hc ha hb).imp λσ H Q ⟨B,φ,st,ρ,rs,re,h⟩=>by
  erw[ev]at h;have e:((ev S.call ρ st cc).bind λx st1=>onO (yaQ st1 x) λk=>cond k (ev S.call ρ st1 ca) (ev S.call ρ st1 cb))=(ybg (ev S.call ρ st cc)).bind λk st1=>cond k (ev S.call ρ st1 ca) (ev S.call ρ st1 cb):=by
   unfold ybg;rw[R.bind_assoc]
   congr 1
   funext x st1
   cases yaQ st1 x<;>rfl
  rw[e]at h;refine tTs.bind rs re h λk H1 st1 φ1 s1 rs1 re1 h1=>?_
  cases k with
  |true=>exact⟨B,φ1,st1,ρ,rs1,re1,h1⟩
  |false=>exact⟨B,φ1,st1,ρ,rs1,re1,h1⟩
theorem zh0:PA X [] (tAs S X .nil):=ybr.imp λσ H Q ⟨B,φ,st,ρ,rs,re,h⟩=>by
 erw[evs]at h;exact h.ok rs (by erw[yg])
theorem zep(ha:PE X a (tE S X ca))(hr:PA X es (tAs S X ces))(hs:starEach (a::es) X.env=(AC,eval a X.env)::starEach es X.env:=by rfl):PA X (a::es) (tAs S X (.cons ca ces)):=
 (zbO ha hr hs).imp λσ H Q ⟨B,φ,st,ρ,rs,re,h⟩=>by
  erw[evs]at h;refine tE.bind rs re h λx H1 v st1 φ1 s1 rs1 re1 rv h1=>tAs.bind rs1 re1 h1 λxs H2 vs st2 φ2 s2 rs2 re2 rvs h2=>?_;refine h2.ok rs2 ?_;erw[yg];exact⟨x,xs,rfl,rv.step s2,rvs⟩
theorem znB{k:Nat}(h:PA X es (tAs S X ces)):PE X (.Tuple es k pos) (tE S X (.tup ces)):=
 (zn4 h).imp λσ H Q ⟨B,φ,st,ρ,rs,re,h⟩=>by
  erw[ev]at h;refine tAs.bind rs re h λxs H1 vs st1 φ1 s1 rs1 re1 rv h1=>?_;split at h1
  .rename_i c;refine⟨by rw[<-zD,<-rv.length];exact c,λp hp=>h1 _ _ φ1 (.upd hp) (rs1.upd hp) (.tup_new hp rs1 rv)⟩
  .exact h1.elim
theorem znM(h:PA X es (tAs S X ces)):PE X (.List es pos) (tE S X (.lst ces)):=
 (zkS h).imp λσ H Q ⟨B,φ,st,ρ,rs,re,h⟩=>by
  erw[ev]at h;refine tAs.bind rs re h λxs H1 vs st1 φ1 s1 rs1 re1 rv h1=>?_;split at h1
  .rename_i c;refine⟨by rw[<-zD,<-rv.length];exact c,λp hp=>h1 _ _ φ1 (.upd hp) (rs1.upd hp) (.lst_new hp rs1 rv)⟩
  .exact h1.elim
theorem Step.push{p:AI}{o:HO}(hp:H p=AD):Step φ H (φ++[AA p]) (L2.upd H p o):=by
 refine⟨λb u n e=>by rw[zk (zq e hp)];exact e,by simp,λn a hn e=>?_,λb h=>?_⟩
 .rw[Am hn]at e;exact e
 .rw[Ax]at h;rcases h with h|h
  .exact .inl h
  .have:b=p:=by simpa using h
   subst this;exact .inr hp
theorem yF.push{K:AE}{cl:Nat->AI}{p:AI}{u:HO}{o:Ob}(rs:yF K cl B φ H st)(hp:H p=AD)(hb:¬B p)(ho:ycs K cl B (φ++[AA p]) (L2.upd H p u) o p):yF K cl B (φ++[AA p]) (L2.upd H p u) (st++[o]):=by
 have s:Step φ H (φ++[AA p]) (L2.upd H p u):=.push hp;have np:AA p∉φ:=λz=>by
  let⟨w,e⟩:=rs.there z;rw[hp]at e;cases e
 have hl:φ.length=st.length:=rs.len;refine⟨by simp[hl],λm n a e1 e2=>?_,λn a e=>?_,λn o' e ho'=>?_,λa h=>?_,λa h=>?_⟩
 .by_cases hm:m<φ.length
  .rw[Am hm]at e1
   by_cases hn:n<φ.length
   .rw[Am hn]at e2;exact rs.inj m n a e1 e2
   .rw[Av (by lia)]at e2;have:a=p:=by
     cases q:n-φ.length with
     |zero=>rw[q]at e2;simpa using e2.symm
     |succ k=>rw[q]at e2;simp at e2
    subst this;exact absurd (A5 e1) np
  .rw[Av (by lia)]at e1;have:m-φ.length=0/\a=p:=by
    cases q:m-φ.length with
    |zero=>rw[q]at e1;exact⟨rfl,by simpa using e1.symm⟩
    |succ k=>rw[q]at e1;simp at e1
   let⟨q1,rfl⟩:=this
   by_cases hn:n<φ.length
   .rw[Am hn]at e2;exact absurd (A5 e2) np
   .rw[Av (by lia)]at e2;have:n-φ.length=0:=by
     cases q:n-φ.length with
     |zero=>rfl
     |succ k=>rw[q]at e2;simp at e2
    lia
 .by_cases hn:n<φ.length
  .rw[Am hn]at e;let⟨o',q,r⟩:=rs.obj n a e;refine⟨o',by rw[Am (by lia)];exact q,r.step s ?_⟩;rw[zk]
   rintro rfl
   exact np (A5 e)
  .rw[Av (by lia)]at e;have:n-φ.length=0/\a=p:=by
    cases q:n-φ.length with
    |zero=>rw[q]at e;exact⟨rfl,by simpa using e.symm⟩
    |succ k=>rw[q]at e;simp at e
   let⟨q1,rfl⟩:=this;refine⟨o,?_,ho⟩;rw[Av (by lia)];have:n-st.length=0:=by lia
   rw[this];rfl
 .by_cases hn:n<φ.length
  .rw[Am (by lia)]at e;let⟨a,q⟩:=rs.liv n o' e ho';exact⟨a,by rw[Am hn];exact q⟩
  .rw[Av (by lia)]at e;have:n-st.length=0:=by
    cases q:n-st.length with
    |zero=>rfl
    |succ k=>rw[q]at e;simp at e
   refine⟨p,?_⟩;rw[Av (by lia)];have:n-φ.length=0:=by lia
   rw[this];rfl
 .rw[Ax]at h;rcases h with h|h
  .exact rs.nb a h
  .have:a=p:=by simpa using h
   subst this;exact hb
 .let⟨w,e⟩:=rs.dom a h;exact⟨w,by rw[zk (zq e hp)];exact e⟩
theorem yF.nB{K:AE}{cl:Nat->AI}{p:AI}(rs:yF K cl B φ H st)(hp:H p=AD):¬B p:=λz=>by
 let⟨o,e⟩:=rs.dom p z;rw[hp]at e;cases e
theorem yd.loc_new{K:AE}{cl:Nat->AI}{p:AI}(rs:yF K cl B φ H st):yd K cl B (φ++[AA p]) H1 (.loc st.length) (.ref p):=by
 erw[yd];have hl:=rs.len;refine⟨by simp[hl],p,rfl,λb e=>?_⟩;rw[Av (by lia)]at e;have:st.length-φ.length=0:=by lia
 rw[this]at e;simpa using e.symm
theorem zlO(h:PA X es (tAs S X ces)):PE X (.List es pos) (tE S X (.newl ces)):=
 (zkS h).imp λσ H Q ⟨B,φ,st,ρ,rs,re,h⟩=>by
  erw[ev]at h;refine tAs.bind rs re h λxs H1 vs st1 φ1 s1 rs1 re1 rv h1=>?_;split at h1
  .rename_i c;refine⟨by rw[<-zD,<-rv.length];exact c,λp hp=>h1 _ _ (φ1++[AA p]) (.push hp) (rs1.push hp (rs1.nB hp) ⟨xs,zu,rv.step (.push hp)⟩) (.loc_new rs1)⟩
  .exact h1.elim
end
section
variable {S:Se}{X:Cx}{σ:St}{B:AI->Prop}{φ φ1:Ph}{H H1:Hp}{st:SO}{ρ:IC.Env}{pos p2:C1}{a b c d:AW}{ca cb cc:Ce}{es:List AW}{ces:Ces}{K:AE}{cl:Nat->AI}
theorem zib{o:COp}{v w:PV}{α β:Type}{Rel:Ph->Hp->α->β->Prop}{k:Bool->R α}{Q:β->Hp->Prop}(h:Run S X σ B φ H Rel (onO (blO (yN o v w)) k) Q):∃b,yN o v w=AA (.bl b)/\Run S X σ B φ H Rel (k b) Q:=by
 cases e:yN o v w with
 |none=>rw[e]at h;exact h.elim
 |some z=>
  let⟨b,rfl⟩:=zex e;rw[e]at h;exact⟨b,rfl,h⟩
theorem zjp{op op':Fj}{o p:COp}(ho:OpR X (compareOp op) (rT2 S X (yN o)))(ho':OpR X (compareOp op') (rT2 S X (yN p)))(ha:PE X a (tE S X ca))(hb:PE X b (tE S X cb))(hc:PE X c (tE S X cc))
  (hm:lastMarks [op,op'] [b,c]=false:=by ac_rfl):PE X (.Compare a [op,op'] [b,c] pos) (tE S X (.chain o p ca cb cc)):=
 (zjz ho ho' ha hb hc hm).imp λσ H Q ⟨B,φ,st,ρ,rs,re,h⟩=>by
  erw[ev]at h;refine tE.bind rs re h λx H1 v st1 φ1 s1 rs1 re1 rv h1=>tE.bind rs1 re1 h1 λy H2 w st2 φ2 s2 rs2 re2 rw h2=>?_;let⟨k,e,h2⟩:=zib h2;refine⟨B,φ2,st2,v,w,.bl k,rs2,rv.step s2,rw,e,λz' H' φ' s' rs' rz=>?_⟩;erw[yd]at rz;refine⟨k,rz,?_⟩
  cases k with
  |false=>exact h2 _ H' φ' s' rs' (by erw[yd])
  |true=>
   refine tE.bind rs' (re2.step s') (Run.on s' h2) λz H3 v3 st3 φ3 s3 rs3 re3 rv3 h3=>?_;let⟨q,eq,hq⟩:=zas h3 rs3;exact⟨B,φ3,st3,w,v3,q,rs3,(rw.step s').step s3,rv3,eq,hq⟩
theorem zjB{op op':Fj}{o p:COp}(ho:OpR X (compareOp op) (rT2 S X (yN o)))(ho':OpR X (compareOp op') (rT2 S X (yN p)))(ha:PE X a (tE S X ca))(hb:PE X b (tE S X cb))(hc:PE X c (tE S X cc))
  (hm:lastMarks [op,op'] [b,c]=false:=by ac_rfl):PT X (.Compare a [op,op'] [b,c] pos) (tTs S X (.chain o p ca cb cc)):=
 (zjY ho ho' ha hb hc hm).imp λσ H Q ⟨B,φ,st,ρ,rs,re,h⟩=>by
  erw[ev,ybg,R.bind_assoc]at h;refine tE.bind rs re h λx H1 v st1 φ1 s1 rs1 re1 rv h1=>tE.bind rs1 re1 h1 λy H2 w st2 φ2 s2 rs2 re2 rw h2=>?_;have h2':Run S X σ B φ2 H2 RB (onO (blO (yN o v w)) λk=>cond k ((ev S.call ρ st2 cc).bind λz st3=>(toR (yN p w z) st3).bind λx st=>onO (yaQ st x) λb=>.ok b st) (.ok AC st2)) Q:=by
   cases e:yN o v w with
   |none=>rw[e]at h2;exact h2
   |some z=>
    let⟨b,rfl⟩:=zex e;rw[e]at h2
    cases b with
    |false=>exact h2
    |true=>
     erw[blO,onO,cond_true,R.bind_assoc]at h2 ⊢;exact h2
  let⟨k,e,h2⟩:=zib h2';refine⟨B,φ2,st2,v,w,.bl k,rs2,rv.step s2,rw,e,λz' H' φ' s' rs' rz=>?_⟩;erw[yd]at rz;refine⟨k,rz,?_⟩
  cases k with
  |false=>exact⟨AC,rfl,h2 _ H' φ' s' rs' rfl⟩
  |true=>
   refine tE.bind rs' (re2.step s') (Run.on s' h2) λz H3 v3 st3 φ3 s3 rs3 re3 rv3 h3=>?_
   cases eq:yN p w v3 with
   |none=>rw[eq]at h3;exact h3.elim
   |some q=>
    let⟨b,rfl⟩:=zex eq;rw[eq]at h3;refine⟨B,φ3,st3,w,v3,.bl b,rs3,(rw.step s').step s3,rv3,eq,λz2 H4 φ4 s4 rs4 rz4=>?_⟩;erw[yd]at rz4;exact⟨b,rz4,h3 b H4 φ4 s4 rs4 rfl⟩
theorem yg.at{vs:List PV}{xs:List V}{i:Int}{v:PV}(l:yg K cl B φ H vs xs)(h:at? vs i=AA v):∃x,atI xs i=AA x/\yd K cl B φ H v x:=by
 unfold at? at h;rw[l.length]at h;unfold atI
 cases e:ixI xs.length i with
 |none=>rw[e]at h;cases h
 |some j=>
  rw[e]at h;have e':ixN xs.length i=AA j:=e;rw[e'];exact l.get j h
theorem yF.list{n:Nat}{vs:List PV}{x:V}(rs:yF K cl B φ H st)(r:yd K cl B φ H (.loc n) x)(h:st[n]?=AA (.lst vs)):∃a xs,x=.ref a/\φ[n]?=AA (AA a)/\H a=AA (.lst xs)/\yg K cl B φ H vs xs:=by
 erw[yd]at r;let⟨hn,a,rfl,ha⟩:=r;let⟨b,hb⟩:=rs.liv n _ h (by intro z;cases z);obtain rfl:=ha b hb;let⟨o,ho,ro⟩:=rs.obj n b hb;rw[h]at ho;cases ho;let⟨xs,hx,l⟩:=ro;exact⟨b,xs,rfl,hb,hx,l⟩
def rTS(S:Se)(X:Cx)(f:SO->PV->PV->Option PV):R2:=λx y H Q=>∃B φ st v w z,yF X.K S.cl B φ H st/\yd X.K S.cl B φ H v x/\yd X.K S.cl B φ H w y/\f st v w=AA z /\
 ∀z' H' φ',Step φ H φ' H'->yF X.K S.cl B φ' H' st->yd X.K S.cl B φ' H' z z'->Q z' H'
theorem zcZ{α:Type}{xs:List α}{i:PV}{z:α}(h:yba xs i=AA z):∃k,i=.int k/\at? xs k=AA z:=by
 cases i with
 |int k=>exact⟨k,rfl,h⟩
 |_=>cases h
theorem zmz:IxR X (rTS S X idxV):=by
 rintro value slice pins s σ H x y v u Q I rx ry ⟨B,φ,st,a,i,z,rs,ra,ri,e,q⟩ hs
 cases a with
 |tp k vs=>
  let⟨k,rfl,e⟩:=zcZ e;erw[yd]at ra ri;subst ri;let⟨p,xs,rfl,rt,l⟩:=ra;let⟨w,e1,rw⟩:=l.at e;exact zgv value slice pins s σ H _ _ v u Q I rx ry (.inr (.inl ⟨p,xs,k,w,rfl,rfl,rt.sq,e1,q w H φ .rfl rs rw⟩)) hs
 |lst vs=>
  let⟨k,rfl,e⟩:=zcZ e;erw[yd]at ra ri;subst ri;let⟨p,xs,rfl,rt,l⟩:=ra;let⟨w,e1,rw⟩:=l.at e;exact zgv value slice pins s σ H _ _ v u Q I rx ry (.inl ⟨p,xs,k,w,rfl,rfl,rt.sq,e1,q w H φ .rfl rs rw⟩) hs
 |loc n=>
  erw[idxV]at e;split at e
  .rename_i vs h1;let⟨k,rfl,e⟩:=zcZ e;erw[yd]at ri;subst ri;let⟨p,xs,rfl,_,hx,l⟩:=rs.list ra h1;let⟨w,e1,rw⟩:=l.at e;exact zgv value slice pins s σ H _ _ v u Q I rx ry (.inl ⟨p,xs,k,w,rfl,rfl,.of hx,e1,q w H φ .rfl rs rw⟩) hs
  .cases e
 |str t=>
  erw[idxV]at e;split at e
  .rename_i hl
   cases e1:yba t.cps.toList i with
   |none=>rw[e1]at e;cases e
   |some c=>
    rw[e1]at e
    cases e
    let⟨k,rfl,e1⟩:=zcZ e1;erw[yd]at ra ri;subst ra ri;exact zgv value slice pins s σ H _ _ v u Q I rx ry (.inr (.inr ⟨t,k,c,rfl,rfl,by rw[<-zD];exact hl,e1,q _ H φ .rfl rs (by erw[yd])⟩)) hs
  .cases e
 |_=>cases e
theorem znT(ha:PE X a (tE S X ca))(hb:PE X b (tE S X cb))(hs:ybG b:=by exact λ_ _=>rfl):PE X (.Subscript a b pos) (tE S X (.idx ca cb)):=
 (zpX zmz ha hb hs).imp λσ H Q ⟨B,φ,st,ρ,rs,re,h⟩=>by
  erw[ev]at h;refine tE.bind rs re h λx H1 v st1 φ1 s1 rs1 re1 rv h1=>tE.bind rs1 re1 h1 λy H2 w st2 φ2 s2 rs2 re2 rw h2=>?_;let⟨z,e,q⟩:=zas h2 rs2;exact⟨B,φ2,st2,v,w,z,rs2,rv.step s2,rw,e,q⟩
theorem yg.cut{vs:List PV}{xs:List V}(lo hi:Option Int)(l:yg K cl B φ H vs xs):yg K cl B φ H (IC.cut vs lo hi) (ycv xs lo hi):=by
 have e1:∀n o,ycN n o=HT.sIx n 0 o:=λn o=>by cases o<;>rfl
 have e2:∀n o,ydc n o=HT.sIx n n o:=λn o=>by cases o<;>rfl
 unfold IC.cut ycv;rw[l.length,e1,e2];exact(l.drop _).take _
def tO(S:Se)(X:Cx)(c:Ce):TO:=λσ H Q=>tE S X c σ H λx H1=>(x=.non/\Q AD H1) \/ ∃i,x=.int i/\Q (AA i) H1
theorem zlz:PO X AD (tO S X (.cst .non)):=λpins s σ H Q I h=>by
 refine zms pins s σ H Q I ?_;let⟨B,φ,st,ρ,rs,re,h⟩:=h;erw[ev]at h;rcases h.ok rs (x:=V.non) (by erw[yd])with q|⟨i,z,_⟩
 .exact q.2
 .cases z
theorem zmO(ha:PE X a (tE S X ca)):PO X (AA a) (tO S X ca):=by
 intro pins s σ H Q I hw;rw[evalPart_some];refine thn (ha pins s σ H _ I hw) λu s1 kq=>?_;let⟨x,H1,I1,r1,q1⟩:=kq;rcases q1 with⟨rfl,q⟩|⟨i,rfl,q⟩
 .cases r1
  exact⟨AD,H1,I1,.none,q⟩
 .let⟨t,rfl⟩:=r1;exact⟨AA i,H1,I1,.int i t,q⟩
def rSl(S:Se)(X:Cx):V->Option Int->Option Int->Hp->VK->Prop:=λx lo hi H Q=>∃B φ st v z,yF X.K S.cl B φ H st/\yd X.K S.cl B φ H v x/\ycF v lo hi=AA z /\
 ∀z' H' φ',Step φ H φ' H'->yF X.K S.cl B φ' H' st->yd X.K S.cl B φ' H' z z'->Q z' H'
theorem zbL{prog:Aa}{w:Ao}{A:Ay}{E:AG->AJ->Prop}{s:AJ}{t sl:AI}{items:Array AG}{vl vu:AG}{lo hi:Option Int}{Q:AG->AJ->Prop}(ht:HG s.heap t items)(hs:s.heap.IsSliceOf sl vl vu .none)(pl:FF vl lo)(pu:FF vu hi)
  (hw:HT.sIx items.size 0 lo=0/\HT.sIx items.size items.size hi=items.size)
  (h:Q (.ref t) s):A3 (model prog w) A (getItem (.ref t) (.ref sl)) Q E s:=by
 let⟨os,hos,hcs,hds⟩:=id hs;have hTs:s.TypeIs (.ref sl) "slice":=⟨os,hos,hcs⟩;unfold getItem
 try with_reducible refine DE ?_
 first|refine AH (AN ?_)|skip
 refine AH (Eg ht.typeIs (by decide) ?_);refine AH (B6 (name:=AF "__getitem__") ht.typeIs Al
  (CN Al ht.typeIs EC ?_ (ET _ _)))
 show A3 _ _ (Cp (.ref t) >>= _) _ _ s;refine AH (Ea ht ?_);refine AH (FG hTs ?_);rw[if_pos (by decide)];refine AH (HT.sliceApplied_gen hs pl pu ?_);have hyes:(((HT.sIx items.size 0 lo:Nat):Int)==0&&(1:Int)==1&&(HT.sIx items.size items.size hi-HT.sIx items.size 0 lo)==items.size)=true:=by
  rw[hw.1,hw.2];simp
 show A3 _ _ (if (((HT.sIx items.size 0 lo:Nat):Int)==0&&(1:Int)==1&&(HT.sIx items.size items.size hi-HT.sIx items.size 0 lo)==items.size)=AB then _ else _) _ _ s;rw[if_pos hyes];refine AH (AH (FG ht.typeIs (AN ?_)));rw[if_pos (by decide)]
 first
  |exact AH (AN (AN ⟨_,rfl,AN h⟩))
  |exact AH (FC (AN ⟨_,rfl,AN h⟩))
  |(wp_step;wp_step;exact⟨_,rfl,AN h⟩)
noncomputable def yf6(K:AE):V->Option Int->Option Int->Hp->VK->Prop:=λx lo hi H Q=>∃a xs,x=.ref a/\SqT K H a xs /\
 (HT.sIx xs.length 0 lo=0/\HT.sIx xs.length xs.length hi=xs.length)/\Q (.ref a) H
theorem zjF:SlR X (yf6 X.K):=by
 intro pins s σ H x v vl vu lo hi sl Q I rx hs pl pu h;let⟨a,xs,rfl,hx,hw,q⟩:=h
 cases rx
 let⟨its,r,ht,hz⟩:=I.tuple hx;have hlen:its.toArray.size=xs.length:=by rw[AY];exact r.length.symm
 refine⟨"tuple",_,Al.lookup,ht.typeIs,?_⟩;exact zbL ht hs pl pu (by rw[hlen];exact hw) ⟨.ref a,H,I,rfl,q⟩
noncomputable def yg7:V->Option Int->Option Int->Hp->VK->Prop:=λx lo hi H Q=>∃y:AS,x=.str y/\y.length<=sizeLine/\Q (.str ⟨((y.cps.toList.drop (HT.sIx y.cps.toList.length 0 lo)).take (HT.sIx y.cps.toList.length y.cps.toList.length hi-HT.sIx y.cps.toList.length 0 lo)).toArray⟩) H
theorem yfC(lo hi:Option Int)(n:Nat):EI lo hi 1 n=sliceRange ((HT.sIx n 0 lo:Nat):Int) ((HT.sIx n n hi:Nat):Int) 1:=by
 unfold EI;erw[show (1:Int) > 0 by decide,if_true]
 congr 1
 .cases lo with
  |none=>simp[HT.sIx]
  |some i=>
   erw[HT.sIx]
   by_cases h:i<0
   .simp only[h,if_true]<;>lia
   .simp only[h,if_false]<;>lia
 .cases hi with
  |none=>simp[HT.sIx]
  |some i=>
   erw[HT.sIx]
   by_cases h:i<0
   .simp only[h,if_true]<;>lia
   .simp only[h,if_false]<;>lia
theorem zhv(y:AS)(lo hi:Option Int):Txt.slice y lo hi=⟨((y.cps.toList.drop (HT.sIx y.cps.toList.length 0 lo)).take (HT.sIx y.cps.toList.length y.cps.toList.length hi-HT.sIx y.cps.toList.length 0 lo)).toArray⟩:=by
 have hn:y.length=y.cps.toList.length:=by simp[Str.length]
 unfold Txt.slice;rw[yfC,hn,sliceRange_one];have ha:=HT.sIx_le y.cps.toList.length 0 (DL _) lo;have hb:=HT.sIx_le y.cps.toList.length y.cps.toList.length (AT _) hi;generalize HT.sIx y.cps.toList.length 0 lo=a at *;generalize HT.sIx y.cps.toList.length y.cps.toList.length hi=b at *;split
 .rename_i c;erw[Ap,List.length_range,AK,beq_iff_eq]at c;obtain⟨rfl,rfl⟩:a=0/\b=y.cps.toList.length:=by lia
  rw[Gx,Nat.sub_zero,G5]
 .rw[pick_run]
theorem zmP:SlR X yg7:=by
 intro pins s σ H x v vl vu lo hi sl Q I rx hs pl pu h;let⟨y,rfl,hz,q⟩:=h;let⟨t,rfl⟩:=rx;rw[<-zhv]at q;refine⟨"str",_,PySem.F.slot_str_getitem.lookup,Gu _ _ _,?_⟩;have go:∀l u:Option (Int×Hd),vl=partValue l->vu=partValue u->lo=l.map (·.1)->hi=u.map (·.1)->A3 (model X.prog X.w) X.A (getItem (.str y t) (.ref sl)) (EP X pins σ Q) X.xe s:=by
  rintro l u rfl rfl rfl rfl
  refine wpAny_getItem_str_slice (l:=l) (u:=u) (st:=AD) hs rfl ?_;exact post_val_or_str ⟨B1 (Txt.slice_le y _ _) hz,λt' k=>⟨.str _,H,I.tok k,⟨_,rfl⟩,q⟩⟩
 cases pl with
 |none=>
  cases pu with
  |none=>exact go AD AD rfl rfl rfl rfl
  |int j u=>exact go AD (AA (j,u)) rfl rfl rfl rfl
 |int i t1=>
  cases pu with
  |none=>exact go (AA (i,t1)) AD rfl rfl rfl rfl
  |int j u=>exact go (AA (i,t1)) (AA (j,u)) rfl rfl rfl rfl
theorem zna:SlR X (rSl S X):=by
 rintro pins s σ H x v vl vu lo hi sl Q I rx hs pl pu ⟨B,φ,st,w,z,rs,rw,e,q⟩
 have e1:∀n o,ycN n o=HT.sIx n 0 o:=λn o=>by cases o<;>rfl
 have e2:∀n o,ydc n o=HT.sIx n n o:=λn o=>by cases o<;>rfl
 cases w with
 |tp k vs=>
  erw[ycF]at e;split at e
  .rename_i c
   cases e
   have rw':=rw;erw[yd]at rw;let⟨p,xs,rfl,rt,l⟩:=rw;refine zjF pins s σ H _ v vl vu lo hi sl Q I rx hs pl pu ⟨p,xs,rfl,rt.sq,?_,q _ H φ .rfl rs rw'⟩;rw[l.length,e1,e2]at c;exact c
  .rename_i c
   cases e
   erw[yd]at rw;let⟨p,xs,rfl,rt,l⟩:=rw;refine znA pins s σ H _ v vl vu lo hi sl Q I rx hs pl pu ⟨p,xs,rfl,rt.sq,?_,λt ht=>q _ _ φ (.upd ht) (rs.upd ht) (.tup_new ht rs (l.cut lo hi))⟩;rw[l.length,e1,e2]at c;exact c
 |str y=>
  erw[ycF]at e;split at e
  .rename_i c
   cases e
   erw[yd]at rw;subst rw;refine zmP pins s σ H _ v vl vu lo hi sl Q I rx hs pl pu ⟨y,rfl,by rw[<-zD];exact c,?_⟩;have:=q (.str ⟨(cut y.cps.toList lo hi).toArray⟩) H φ .rfl rs (by erw[yd]);rw[cut,e1,e2]at this;exact this
  .cases e
 |lst vs=>
  erw[ycF]at e
  cases e
  erw[yd]at rw;let⟨p,xs,rfl,rt,l⟩:=rw;exact zir pins s σ H _ v vl vu lo hi sl Q I rx hs pl pu ⟨p,xs,rfl,rt.sq,λt ht=>q _ _ φ (.upd ht) (rs.upd ht) (.lst_new ht rs (l.cut lo hi))⟩
 |scr vs=>
  erw[ycF]at e
  cases e
  erw[yd]at rw;let⟨p,xs,rfl,rt,l⟩:=rw;exact zir pins s σ H _ v vl vu lo hi sl Q I rx hs pl pu ⟨p,xs,rfl,(by rcases rt with rt|rt;exact .inl rt.1;exact .inr rt),λt ht=>q _ _ φ (.upd ht) (rs.upd ht) (.lst_new ht rs (l.cut lo hi))⟩
 |_=>cases e
theorem znr{lo hi:Option AW}(ha:PE X a (tE S X ca))(hl:PO X lo (tO S X cb))(hh:PO X hi (tO S X cc)):PE X (.Subscript a (.Slice lo hi AD p2) pos) (tE S X (.slc ca cb cc)):=
 (zjC zna ha hl hh).imp λσ H Q ⟨B,φ,st,ρ,rs,re,h⟩=>by
  erw[ev]at h;have oi:∀{v:PV} {x:V} {o:Option Int} {B φ H},yd X.K S.cl B φ H v x->ycg v=AA o->(x=.non/\o=AD) \/ ∃i,x=.int i/\o=AA i:=λ{v x o B φ H} r e=>by
   cases v with
   |non=>erw[yd]at r;cases e;exact .inl ⟨r,rfl⟩
   |int i=>erw[yd]at r;cases e;exact .inr ⟨i,r,rfl⟩
   |_=>cases e
  refine tE.bind rs re h λx H1 v st1 φ1 s1 rs1 re1 rv h1=>tE.bind rs1 re1 h1 λy H2 w st2 φ2 s2 rs2 re2 rw h2=>?_
  cases eo:ycg w with
  |none=>rw[eo]at h2;exact h2.elim
  |some o1=>
   rw[eo]at h2;have key:tO S X cc σ H2 λu H3=>rSl S X x o1 u H3 Q:=by
    refine tE.bind rs2 re2 h2 λy' H3 w' st3 φ3 s3 rs3 re3 rw' h3=>?_;let⟨z,e,q⟩:=zas h3 rs3;unfold yc3 at e
    cases eo':ycg w' with
    |none=>rw[eo']at e;cases e
    |some o2=>
     rw[eo']at e;have fin:rSl S X x o1 o2 H3 Q:=⟨B,φ3,st3,v,z,rs3,(rv.step s2).step s3,e,q⟩;rcases oi rw' eo' with⟨rfl,rfl⟩|⟨i,rfl,rfl⟩
     .exact .inl ⟨rfl,fin⟩
     .exact .inr ⟨i,rfl,fin⟩
   rcases oi rw eo with⟨rfl,rfl⟩|⟨i,rfl,rfl⟩
   .exact .inl ⟨rfl,key⟩
   .exact .inr ⟨i,rfl,key⟩
end
section
variable {S:Se}{X:Cx}{σ:St}{B:AI->Prop}{φ φ1:Ph}{H H1:Hp}{st:SO}{ρ:IC.Env}{p pos p2:C1}{a b c d:AW}{ca cb cc:Ce}{es:List AW}{ces:Ces}{K:AE}{cl:Nat->AI}
def rB(S:Se)(X:Cx)(k:Blt):List V->Hp->VK->Prop:=λxs H Q=>∃B φ st vs z,yF X.K S.cl B φ H st/\yg X.K S.cl B φ H vs xs/\yaA k st vs=AA z /\
 ∀z' H' φ',Step φ H φ' H'->yF X.K S.cl B φ' H' st->yd X.K S.cl B φ' H' z z'->Q z' H'
theorem yg.one{v:PV}{xs:List V}(l:yg K cl B φ H [v] xs):∃x,xs=[x]/\yd K cl B φ H v x:=by
 erw[yg]at l;let⟨y,ys,rfl,r,rfl⟩:=l;exact⟨y,rfl,r⟩
theorem yg.two{v w:PV}{xs:List V}(l:yg K cl B φ H [v,w] xs):∃x y,xs=[x,y]/\yd K cl B φ H v x/\yd K cl B φ H w y:=by
 erw[yg]at l;let⟨y,ys,rfl,r,z,zs,rfl,r2,rfl⟩:=l;exact⟨y,z,rfl,r,r2⟩
theorem zen{k:Blt}{st:SO}{vs:List PV}{z:PV}(h:yaA k st vs=AA z)(h2:∀x y,yaA k st [x,y]=AD):∃x,vs=[x]:=by
 match vs,h with
 |[x],_=>exact⟨x,rfl⟩
 |[x,y],h=>rw[h2]at h;cases h
theorem zdI{v:PV}{x:V}{vs:List PV}(rs:yF K cl B φ H st)(r:yd K cl B φ H v x)(h:yah st v=AA vs):∃a xs,x=.ref a/\SqL K H a xs/\yg K cl B φ H vs xs:=by
 cases v with
 |lst ws=>
  cases h
  erw[yd]at r;let⟨a,xs,rfl,rt,l⟩:=r;exact⟨a,xs,rfl,rt.sq,l⟩
 |loc n=>
  erw[yah]at h;split at h
  .rename_i ws hw
   cases h
   let⟨a,xs,rfl,_,hx,l⟩:=rs.list r hw;exact⟨a,xs,rfl,.of hx,l⟩
  .cases h
 |_=>cases h
theorem znR{v:PV}{x:V}{vs:List PV}(rs:yF K cl B φ H st)(r:yd K cl B φ H v x)(h:yb8 st v=AA vs):∃a xs,x=.ref a/\(SqL K H a xs \/ SqT K H a xs)/\yg K cl B φ H vs xs:=by
 cases v with
 |tp k ws=>
  cases h
  erw[yd]at r;let⟨a,xs,rfl,rt,l⟩:=r;exact⟨a,xs,rfl,.inr rt.sq,l⟩
 |lst ws=>
  let⟨a,xs,e,q,l⟩:=zdI rs r (vs:=vs) h;exact⟨a,xs,e,.inl q,l⟩
 |loc n=>
  let⟨a,xs,e,q,l⟩:=zdI rs r (vs:=vs) h;exact⟨a,xs,e,.inl q,l⟩
 |_=>cases h
theorem znv:yat X (.builtin "len") (rB S X .len):=by
 rintro pins s σ H xs us Q I r ⟨B,φ,st,vs,z,rs,l,e,q⟩
 let⟨v,rfl⟩:=zen e λ_ _=>rfl;let⟨x,rfl,rv⟩:=l.one;erw[yaA,lenV]at e;split at e
 .rename_i t;split at e
  .rename_i c
   cases e
   erw[yd]at rv;subst rv;exact zfw pins s σ H _ us Q I r ⟨t,rfl,by rw[<-zD];exact c,q _ H φ .rfl rs (by erw[yd])⟩
  .cases e
 .cases e1:yb8 st v with
  |none=>rw[e1]at e;cases e
  |some ws=>
   rw[e1]at e
   cases e
   let⟨a,ys,rfl,h,l⟩:=znR rs rv e1;refine zfu pins s σ H _ us Q I r ⟨a,ys,rfl,?_,q _ H φ .rfl rs (by erw[yd];rw[l.length])⟩;exact h
theorem znb{k:Blt}{st:SO}{vs:List PV}{z:PV}(h:yaA k st vs=AA z)(h2:∀x,yaA k st [x]=AD):∃x y,vs=[x,y]:=by
 match vs,h with
 |[x,y],_=>exact⟨x,y,rfl⟩
 |[x],h=>rw[h2]at h;cases h
theorem zpv(hc:X.calm=AB):yat X (.builtin "min") (rB S X .min):=by
 rintro pins s σ H xs us Q I r ⟨B,φ,st,vs,z,rs,l,e,q⟩
 let⟨v,w,rfl⟩:=znb e λ_=>rfl;let⟨x,y,rfl,rv,rw⟩:=l.two;erw[yaA,yeO]at e;split at e
 .cases e
  erw[yd]at rv rw;subst rv rw;exact ziO hc pins s σ H _ us Q I r ⟨_,_,rfl,q _ H φ .rfl rs (by erw[yd])⟩
 .cases e
theorem zle:∀{vs:List PV} {m:Int},ydq vs=AA m->∃ns:List Int,vs=ns.map .int/\m∈ns/\∀a∈ns,a<=m
 |[],m,h=>by cases h
 |[.int i],m,h=>by cases h;exact⟨[i],rfl,by simp,by simp⟩
 |.int i::w::r,m,h=>by
  erw[ydq]at h;split at h
  .rename_i c e
   cases h
   let⟨ns,e1,e2,e3⟩:=zle e;refine⟨i::ns,by rw[e1];rfl,?_,λa ha=>?_⟩
   .split
    .exact AV _ e2
    .exact As
   .rcases AO.mp ha with rfl|ha
    .split<;>lia
    .have:=e3 a ha;split<;>lia
  .cases h
 |.non::r,m,h=>by cases r<;>cases h
 |.bl _::r,m,h=>by cases r<;>cases h
 |.str _::r,m,h=>by cases r<;>cases h
 |.tp _ _::r,m,h=>by cases r<;>cases h
 |.lst _::r,m,h=>by cases r<;>cases h
 |.loc _::r,m,h=>by cases r<;>cases h
 |.exn _::r,m,h=>by cases r<;>cases h
 |.scr _::r,m,h=>by cases r<;>cases h
theorem yg.ints:∀{ns:List Int} {xs:List V},yg K cl B φ H (ns.map .int) xs->xs=ns.map V.int
 |[],xs,h=>by simpa only[Ak,yg] using h
 |n::ns,xs,h=>by
  erw[AL,yg]at h;let⟨y,ys,rfl,r,l⟩:=h;erw[yd]at r;rw[r,yg.ints l];rfl
theorem yg.bls:∀{ns:List Bool} {xs:List V},yg K cl B φ H (ns.map .bl) xs->xs=ns.map V.bl
 |[],xs,h=>by simpa only[Ak,yg] using h
 |n::ns,xs,h=>by
  erw[AL,yg]at h;let⟨y,ys,rfl,r,l⟩:=h;erw[yd]at r;rw[r,yg.bls l];rfl
theorem zl3{v w z:PV}(e:maxV v w=AA z):∃i j,v=.int i/\w=.int j/\z=.int (if i<j then j else i):=by
 unfold maxV at e;split at e
 .exact⟨_,_,rfl,rfl,(AZ e).symm⟩
 .cases e
theorem zop(hc:X.calm=AB):yat X (.builtin "max") (rB S X .max):=by
 rintro pins s σ H xs us Q I r ⟨B,φ,st,vs,z,rs,l,e,q⟩
 rcases vs with _|⟨v,_|⟨w,_|⟨u',t⟩⟩⟩
 .simp[yaA]at e
 .let⟨x,rfl,rv⟩:=l.one;erw[yaA]at e
  cases e1:yah st v with
  |none=>rw[e1]at e;cases e
  |some ws=>
   rw[e1]at e;erw[B3]at e
   cases e2:ydq ws with
   |none=>rw[e2]at e;cases e
   |some m=>
    rw[e2]at e;obtain rfl:=AZ e;let⟨ns,rfl,hm,hb⟩:=zle e2;let⟨a,ys,rfl,h,l⟩:=zdI rs rv e1;rw[l.ints]at h;refine zij hc pins s σ H _ us Q I r ⟨a,ns,rfl,h,List.length_pos_of_mem hm,λM h1 h2=>?_⟩;have:M=m:=by
     have:=hb M h1;have:=h2 m hm;lia
    subst this;exact q _ H φ .rfl rs (by erw[yd])
 .let⟨x,y,rfl,rv,rw⟩:=l.two;have e:maxV v w=AA z:=e;let⟨i,j,rfl,rfl,rfl⟩:=zl3 e;erw[yd]at rv rw;subst rv rw;exact zh9 hc pins s σ H _ us Q I r ⟨i,j,rfl,q (.int (if i<j then j else i)) H φ .rfl rs (by erw[yd])⟩
 .simp[yaA]at e
theorem zj8:yat X (.type "tuple") (rB S X .tuple):=by
 rintro pins s σ H xs us Q I r ⟨B,φ,st,vs,z,rs,l,e,q⟩
 let⟨v,rfl⟩:=zen e λ_ _=>rfl;let⟨x,rfl,rv⟩:=l.one;erw[yaA,yeU]at e;split at e
 .cases e
  erw[yd]at rv;let⟨a,ys,rfl,rt,l⟩:=rv;exact zcm pins s σ H _ us Q I r ⟨a,ys,rfl,.inr ⟨rt.sq,q _ H φ .rfl rs (by erw[yd];exact⟨a,ys,rfl,rt,l⟩)⟩⟩
 .cases e1:yah st v with
  |none=>rw[e1]at e;cases e
  |some ws=>
   rw[e1]at e
   cases e
   let⟨a,ys,rfl,h,l⟩:=zdI rs rv e1;exact zcm pins s σ H _ us Q I r ⟨a,ys,rfl,.inl ⟨h,λt ht=>q _ _ φ (.upd ht) (rs.upd ht) (.tup_new ht rs l)⟩⟩
theorem zkL:∀{vs:List PV} {m:Bool},IC.allB vs=AA m->∃ns:List Bool,vs=ns.map .bl/\m=ns.all id
 |[],m,h=>by cases h;exact⟨[],rfl,rfl⟩
 |.bl i::r,m,h=>by
  erw[IC.allB]at h;split at h
  .rename_i c e
   cases h
   let⟨ns,e1,e2⟩:=zkL e;exact⟨i::ns,by rw[e1];rfl,by rw[e2];rfl⟩
  .cases h
 |.non::r,m,h=>by cases h
 |.int _::r,m,h=>by cases h
 |.str _::r,m,h=>by cases h
 |.tp _ _::r,m,h=>by cases h
 |.lst _::r,m,h=>by cases h
 |.loc _::r,m,h=>by cases h
 |.exn _::r,m,h=>by cases h
 |.scr _::r,m,h=>by cases h
theorem zk5:∀{vs:List PV} {m:Int},ycE vs=AA m->∃ns:List Int,vs=ns.map .int/\m=ns.sum
 |[],m,h=>by cases h;exact⟨[],rfl,rfl⟩
 |.int i::r,m,h=>by
  erw[ycE]at h;split at h
  .rename_i c e
   cases h
   let⟨ns,e1,e2⟩:=zk5 e;exact⟨i::ns,by rw[e1];rfl,by rw[e2,HE]⟩
  .cases h
 |.non::r,m,h=>by cases h
 |.bl _::r,m,h=>by cases h
 |.str _::r,m,h=>by cases h
 |.tp _ _::r,m,h=>by cases h
 |.lst _::r,m,h=>by cases h
 |.loc _::r,m,h=>by cases h
 |.exn _::r,m,h=>by cases h
 |.scr _::r,m,h=>by cases h
theorem zok(hc:X.calm=AB):yat X (.builtin "all") (rB S X .all):=by
 rintro pins s σ H xs us Q I r ⟨B,φ,st,vs,z,rs,l,e,q⟩
 let⟨v,rfl⟩:=zen e λ_ _=>rfl;let⟨x,rfl,rv⟩:=l.one;erw[yaA]at e
 cases e1:yah st v with
 |none=>rw[e1]at e;cases e
 |some ws=>
  rw[e1]at e;erw[B3]at e
  cases e2:IC.allB ws with
  |none=>rw[e2]at e;cases e
  |some m=>
   rw[e2]at e
   cases e
   let⟨ns,rfl,rfl⟩:=zkL e2;let⟨a,ys,rfl,h,l⟩:=zdI rs rv e1;rw[l.bls]at h;exact zko hc pins s σ H _ us Q I r ⟨a,ns,rfl,h,q _ H φ .rfl rs (by erw[yd])⟩
theorem zn0(hc:X.calm=AB):yat X (.builtin "sum") (rB S X .sum):=by
 rintro pins s σ H xs us Q I r ⟨B,φ,st,vs,z,rs,l,e,q⟩
 let⟨v,rfl⟩:=zen e λ_ _=>rfl;let⟨x,rfl,rv⟩:=l.one;erw[yaA]at e
 cases e1:yah st v with
 |none=>rw[e1]at e;cases e
 |some ws=>
  rw[e1]at e;erw[B3]at e
  cases e2:ycE ws with
  |none=>rw[e2]at e;cases e
  |some m=>
   rw[e2]at e
   cases e
   let⟨ns,rfl,rfl⟩:=zk5 e2;let⟨a,ys,rfl,h,l⟩:=zdI rs rv e1;rw[l.ints]at h;exact zjP hc pins s σ H _ us Q I r ⟨a,ns,rfl,h,q _ H φ .rfl rs (by erw[yd])⟩
variable {x:AS}{id T:String}{k:Blt}
theorem zpf(hc:yat X (.builtin id) (rB S X k))(hg:Gl X x)(hm:X.mg x=AD)(hv:bootBuiltins x=AA (.builtin id))(ha:PA X (a::es) (tAs S X ces))(hn:x ≠ "__name__":=by decide)(hdb:(x==("__debug__":AS))=false:=by decide)
  (he:starEach (a::es) X.env=(AC,eval a X.env)::starEach es X.env:=by rfl) (hpl:(backTo pos (starEach es X.env)).any (·.1)=false:=by rfl):PE X (.Call (.Name x p) (a::es) [] pos) (tE S X (.blt k ces)):=
 (zgE hc hg hm hv ha hn hdb he hpl).imp λσ H Q ⟨B,φ,st,ρ,rs,re,h⟩=>by
  erw[ev]at h;refine tAs.bind rs re h λxs H1 vs st1 φ1 s1 rs1 re1 rv h1=>?_;let⟨z,e,q⟩:=zas h1 rs1;exact⟨B,φ1,st1,vs,z,rs1,rv,e,q⟩
theorem zmi(hc:yat X (.type T) (rB S X k))(hg:Gl X x)(hm:X.mg x=AD)(hv:bootBuiltins x=AA (.type T))(ha:PA X (a::es) (tAs S X ces))(hn:x ≠ "__name__":=by decide)(hdb:(x==("__debug__":AS))=false:=by decide)
  (he:starEach (a::es) X.env=(AC,eval a X.env)::starEach es X.env:=by rfl) (hpl:(backTo pos (starEach es X.env)).any (·.1)=false:=by rfl):PE X (.Call (.Name x p) (a::es) [] pos) (tE S X (.blt k ces)):=
 (zhw hc hg hm hv ha hn hdb he hpl).imp λσ H Q ⟨B,φ,st,ρ,rs,re,h⟩=>by
  erw[ev]at h;refine tAs.bind rs re h λxs H1 vs st1 φ1 s1 rs1 re1 rv h1=>?_;let⟨z,e,q⟩:=zas h1 rs1;exact⟨B,φ1,st1,vs,z,rs1,rv,e,q⟩
end
section
variable {S:Se}{X:Cx}{σ:St}{B:AI->Prop}{φ φ1:Ph}{H H1:Hp}{st:SO}{ρ:IC.Env}{p pos p2 apos:C1}{a b c d:AW}{ca cb cc:Ce}{es:List AW}{ces:Ces}{K:AE}{cl:Nat->AI}
theorem Step.put{l:AI}{u:HO}(hl:AA l∈φ):Step φ H φ (L2.upd H l u):=
 ⟨λb o n e=>by rw[zk (show b≠l from λz=>n (by rw[z];exact hl))];exact e,AT _,λ_ _ _ e=>e,λ_ h=>.inl h⟩
theorem yF.put{n:Nat}{l:AI}{u:HO}{o:Ob}(rs:yF K cl B φ H st)(hn:φ[n]?=AA (AA l))(ho:ycs K cl B φ (L2.upd H l u) o l):yF K cl B φ (L2.upd H l u) (st.set n o):=by
 have hm:AA l∈φ:=A5 hn;have s:Step φ H φ (L2.upd H l u):=.put hm;have hlt:n<st.length:=by rw[<-rs.len];exact(BO.mp hn).1
 refine⟨by rw[Ba];exact rs.len,rs.inj,λm a e=>?_,λm o' e ho'=>?_,rs.nb,λa h=>?_⟩
 .by_cases hmn:m=n
  .subst hmn;rw[hn]at e;cases e;exact⟨o,by rw[Ab hlt],ho⟩
  .let⟨o',q,r⟩:=rs.obj m a e;refine⟨o',by rw[AR (BP hmn)];exact q,r.step s ?_⟩;rw[zk]
   rintro rfl
   exact hmn (rs.inj m n a e hn)
 .by_cases hmn:m=n
  .subst hmn;exact⟨l,hn⟩
  .rw[AR (BP hmn)]at e;exact rs.liv m o' e ho'
 .let⟨w,e⟩:=rs.dom a h
  by_cases z:a=l
  .subst z;exact⟨u,zu⟩
  .exact⟨w,by rw[zk z];exact e⟩
theorem yb5:1000000<=sizeLine:=by rw[Dq];decide
theorem ziK{m:Mth}{v:PV}{st:SO}{α β:Type}{Rel:Ph->Hp->α->β->Prop}{k:Bool->R α}{Q:β->Hp->Prop}(h:Run S X σ B φ H Rel (onO (yaR m st v) k) Q):∃b,yaR m st v=AA b/\Run S X σ B φ H Rel (k b) Q:=by
 cases e:yaR m st v with
 |none=>rw[e]at h;exact h.elim
 |some z=>rw[e]at h;exact⟨z,rfl,h⟩
theorem zig(ha:PE X a (tE S X ca))(hb:PE X b (tE S X cb))(hs:starEach [b] X.env=[(AC,eval b X.env)]:=by rfl)(hbase:attributeBase a "append" X.env (eval a X.env)=eval a X.env:=by rfl)(hline:(apos.endLine==pos.line)=true:=by rfl)
  (hfew:((backTo pos (starEach [b] X.env)).all (λx=>!x.1)&&(backToKw pos (keywordEach [] X.env)).all (λx=>x.1.isSome)&&decide (([b]:List AW).length+([]:List C8).length+(if ([]:List C8).isEmpty then 0 else 1)<30))=true:=by rfl):
  PE X (.Call (.Attribute a "append" apos) [b] [] pos) (tE S X (.mth .append ca (.cons cb .nil))):=
 (zp2 PySem.F.plainAttrs_list FV PySem.F.type_list_append zeZ ha (zep (S:=S) hb zh0 hs) hbase hfew hline hs rfl).imp λσ H Q ⟨B,φ,st,ρ,rs,re,h⟩=>by
  erw[ev]at h;refine tE.bind rs re h λx H1 v st1 φ1 s1 rs1 re1 rv h1=>?_;let⟨_,e1,h1⟩:=ziK h1;have t1:∃ws,yah st1 v=AA ws:=by
   erw[yaR]at e1
   cases q:yah st1 v with
   |none=>rw[q]at e1;cases e1
   |some ws=>exact⟨ws,rfl⟩
  let⟨ws,t1⟩:=t1;let⟨l,xs,rfl,hl,_⟩:=zdI rs1 rv t1;refine⟨.inl ⟨rfl,xs,hl⟩,tAs.bind rs1 re1 h1 λys H2 vs st2 φ2 s2 rs2 re2 rvs h2=>?_⟩;have rv2:=rv.step s2;rcases vs with _|⟨w,_|⟨w',t⟩⟩
  .exact h2.elim
  .let⟨y,rfl,rw⟩:=rvs.one;unfold ycq at h2;erw[yd3]at h2;split at h2
   .rename_i n;split at h2
    .rename_i zs hz;split at h2
     .rename_i c;let⟨l',xs',e,hn,hx,lr⟩:=rs2.list rv2 hz
      cases e
      refine⟨l,xs',y,rfl,rfl,hx,by have:=yb5;have:=lr.length;lia,?_⟩;exact h2 _ _ φ2 (.put (A5 hn)) (rs2.put hn ⟨_,zu,(lr.append (by erw[yg];exact⟨y,[],rfl,rw,rfl⟩)).step (.put (A5 hn))⟩) (by erw[yd])
     .exact h2.elim
    .exact h2.elim
   .exact h2.elim
  .exact h2.elim
theorem znC(ha:PE X a (tE S X ca)):PE X a (tE S X (.frz ca)):=
 ha.imp λσ H Q ⟨B,φ,st,ρ,rs,re,h⟩=>by
  erw[ev]at h;refine tE.bind rs re h λx H1 v st1 φ1 s1 rs1 re1 rv h1=>?_;unfold ydn at h1;split at h1
  .rename_i n;split at h1
   .rename_i vs hv;let⟨l,xs,rfl,hn,hx,lr⟩:=rs1.list rv hv;have hm:AA l∈φ1:=A5 hn;have hlt:n<φ1.length:=(BO.mp hn).1;have nl:AA l∉φ1.set n none:=λz=>by
     let⟨m,e⟩:=D8.mp z
     by_cases hmn:m=n
     .subst hmn;rw[Ab hlt]at e;cases e
     .rw[AR (BP hmn)]at e;exact hmn (rs1.inj m n l e hn)
    have sb:∀b,AA b∈φ1.set n AD->AA b∈φ1:=λb z=>by
     let⟨m,e⟩:=D8.mp z
     by_cases hmn:m=n
     .subst hmn;rw[Ab hlt]at e;cases e
     .rw[AR (BP hmn)]at e;exact A5 e
    have s:Step φ1 H1 (φ1.set n AD) H1:=⟨λ_ _ _ e=>e,by simp,λm a hm' e=>by
     by_cases hmn:m=n
     .subst hmn;rw[Ab hlt]at e;cases e
     .rw[AR (BP hmn)]at e;exact e,λb z=>.inl (sb b z)⟩
    refine h1 _ H1 (φ1.set n AD) s ⟨by simp[rs1.len],λm k a e1 e2=>?_,λm a e=>?_,λm o e ho=>?_,λa z=>rs1.nb a (sb a z),rs1.dom⟩ ?_
    .by_cases h1':m=n
     .subst h1';rw[Ab hlt]at e1;cases e1
     .by_cases h2':k=n
      .subst h2';rw[Ab hlt]at e2;cases e2
      .rw[AR (BP h1')]at e1;rw[AR (BP h2')]at e2;exact rs1.inj m k a e1 e2
    .by_cases hmn:m=n
     .subst hmn;rw[Ab hlt]at e;cases e
     .rw[AR (BP hmn)]at e;let⟨o,q,r⟩:=rs1.obj m a e;exact⟨o,by rw[AR (BP hmn)];exact q,r.step s rfl⟩
    .by_cases hmn:m=n
     .subst hmn;rw[Ab (by rw[<-rs1.len];exact hlt)]at e;cases e;exact absurd rfl ho
     .rw[AR (BP hmn)]at e ⊢;exact rs1.liv m o e ho
    .simp only[yd];exact⟨l,xs,rfl,⟨hx,rs1.nb l hm,nl⟩,lr.step s⟩
   .exact h1.elim
  .exact h1.ok rs1 rv
end
section
variable (S:Se)(X:Cx)
def yaM(B:AI->Prop)(φ:Ph)(H:Hp)(f:Fl)(D:Ends):Prop:=
 match f with
 |.nx ρ' st'=>∀σ' H' φ',Step φ H φ' H'->yF X.K S.cl B φ' H' st'->yU X.K S.cl B φ' H' ρ' σ'->D.nx σ' H'
 |.rt v st'=>∀x H' φ',Step φ H φ' H'->yF X.K S.cl B φ' H' st'->yd X.K S.cl B φ' H' v x->D.rt x H'
 |.bk ρ' st'=>∀σ' H' φ',Step φ H φ' H'->yF X.K S.cl B φ' H' st'->yU X.K S.cl B φ' H' ρ' σ'->D.bk σ' H'
 |.ct ρ' st'=>∀σ' H' φ',Step φ H φ' H'->yF X.K S.cl B φ' H' st'->yU X.K S.cl B φ' H' ρ' σ'->D.ct σ' H'
 |.exc k ρ' st'=>∀σ' φ1 H1 e s',Step φ H φ1 H1->yU X.K S.cl B φ1 H1 ρ' σ'->ExcAt S X σ' B φ1 H1 k st' e s'->X.xe e s'
 |.bad=>False
def tS(c:Cs):TS:=λD σ H=>∃B φ st ρ,yF X.K S.cl B φ H st/\yU X.K S.cl B φ H ρ σ/\yaM S X B φ H (ex S.call ρ st c) D
def tSs(c:Css):TS:=λD σ H=>∃B φ st ρ,yF X.K S.cl B φ H st/\yU X.K S.cl B φ H ρ σ/\yaM S X B φ H (exs S.call ρ st c) D
end
section
variable {S:Se}{X:Cx}{σ:St}{B:AI->Prop}{φ φ1:Ph}{H H1:Hp}{st:SO}{ρ:IC.Env}{D:Ends}{pos p2 px:C1}{a b c o:AW}{ca cb cc:Ce}{s1:CF}{ss ss':List CF}{c1:Cs}{cs cs':Css}
theorem yaM.on{f:Fl}(s:Step φ H φ1 H1)(h:yaM S X B φ H f D):yaM S X B φ1 H1 f D:=by
 cases f with
 |nx ρ st=>exact λσ' H' φ' t=>h σ' H' φ' (s.trans t)
 |rt ρ st=>exact λσ' H' φ' t=>h σ' H' φ' (s.trans t)
 |bk ρ st=>exact λσ' H' φ' t=>h σ' H' φ' (s.trans t)
 |ct ρ st=>exact λσ' H' φ' t=>h σ' H' φ' (s.trans t)
 |exc k ρ st=>exact λσ' φ2 H2 e s' t=>h σ' φ2 H2 e s' (s.trans t)
 |bad=>exact h
theorem tE.fl{k:PV->SO->Fl}{P:V->Hp->Prop}(rs:yF X.K S.cl B φ H st)(re:yU X.K S.cl B φ H ρ σ)(h:yaM S X B φ H ((ev S.call ρ st ca).fl ρ k) D)
  (n:∀x H1 v st1 φ1,Step φ H φ1 H1->yF X.K S.cl B φ1 H1 st1->yU X.K S.cl B φ1 H1 ρ σ->yd X.K S.cl B φ1 H1 v x->yaM S X B φ1 H1 (k v st1) D->P x H1):tE S X ca σ H P:=by
 refine⟨B,φ,st,ρ,rs,re,?_⟩
 cases e:ev S.call ρ st ca with
 |ok v st'=>
  rw[e]at h;exact λx H' φ' s rs' rv=>n x H' v st' φ' s rs' (re.step s) rv (h.on s)
 |exc k st'=>
  rw[e]at h;exact λe s' x=>h σ φ H e s' .rfl re x
 |bad=>rw[e]at h;exact h
theorem PS.imp{t t':TS}(h:PS X s1 t')(k:∀D σ H,t D σ H->t' D σ H):PS X s1 t:=λpins s σ H D I q=>h pins s σ H D I (k D σ H q)
theorem PSs.imp{t t':TS}(h:PSs X ss t')(k:∀D σ H,t D σ H->t' D σ H):PSs X ss t:=λpins s σ H D I q=>h pins s σ H D I (k D σ H q)
theorem yU.set{K:AE}{cl:Nat->AI}(r:yU K cl B φ H ρ σ)(i:Nat){v:PV}{x:V}(rv:yd K cl B φ H v x):yU K cl B φ H (ρ.set i (AA v)) (σ.set i (AA x)):=by
 refine⟨by rw[Ba,Ba];exact r.len,λj w e=>?_⟩
 by_cases h:j=i
 .subst h
  by_cases hl:j<ρ.length
  .rw[Ab hl]at e
   cases e
   exact⟨x,by rw[Ab (by rw[<-r.len];exact hl)],rv⟩
  .rw[BN (by rw[Ba];lia)]at e
   cases e
 .rw[AR (BP h)]at e ⊢;exact r.get j w e
theorem zow:PSs X [] (tSs S X .nil):=yc2.imp λD σ H ⟨B,φ,st,ρ,rs,re,h⟩=>by
 erw[exs]at h;exact h σ H φ .rfl rs re
theorem zmW(h1:PS X s1 (tS S X c1))(h2:PSs X ss (tSs S X cs)):PSs X (s1::ss) (tSs S X (.cons c1 cs)):=
 (zgn h1 h2).imp λD σ H ⟨B,φ,st,ρ,rs,re,h⟩=>by
  erw[exs]at h;refine⟨B,φ,st,ρ,rs,re,?_⟩
  cases e:ex S.call ρ st c1 with
  |nx ρ1 st1=>
   rw[e]at h;exact λσ' H' φ' s rs' re'=>⟨B,φ',st1,ρ1,rs',re',h.on s⟩
  |rt v st1=>rw[e]at h;exact h
  |bk ρ1 st1=>rw[e]at h;exact h
  |ct ρ1 st1=>rw[e]at h;exact h
  |exc k ρ1 st1=>rw[e]at h;exact h
  |bad=>rw[e]at h;exact h
theorem zmn(he:PE X a (tE S X ca))(hs:swapsWith a AD pos.line X.env=pure false:=by rfl):PS X (.Expr a pos) (tS S X (.expr ca)):=
 (zmj he hs).imp λD σ H ⟨B,φ,st,ρ,rs,re,h⟩=>by
  erw[ex]at h;exact tE.fl rs re h λx H1 v st1 φ1 s rs1 re1 rv h1=>h1 σ H1 φ1 .rfl rs1 re1
theorem zn6(he:PE X a (tE S X ca)):PS X (.Return (AA a) pos) (tS S X (.ret ca)):=
 (zk7 he).imp λD σ H ⟨B,φ,st,ρ,rs,re,h⟩=>by
  erw[ex]at h;exact tE.fl rs re h λx H1 v st1 φ1 s rs1 re1 rv h1=>h1 x H1 φ1 .rfl rs1 rv
theorem zlv:PS X (.Return AD pos) (tS S X (.ret (.cst .non))):=
 ycV.imp λD σ H ⟨B,φ,st,ρ,rs,re,h⟩=>by
  erw[ex,ev,R.fl]at h;exact h .non H φ .rfl rs (by erw[yd])
theorem znt{i:Nat}{x:AS}(hN:X.N.Nodup)(hi:X.N[i]?=AA x)(hx:Loc X.env.scope x)(he:PE X a (tE S X ca))(hs:swapsWith a (AA (.Name x px)) pos.line X.env=pure false:=by rfl)
  (hf:X.fn x=AB \/ X.env.scope.names.lookup x=AA .local:=by first|exact .inl rfl|exact .inr rfl|assumption):PS X (.Assign [.Name x px] a pos) (tS S X (.asg (.n i) ca)):=
 (zli hN hi hx he hs hf).imp λD σ H ⟨B,φ,st,ρ,rs,re,h⟩=>by
  erw[ex]at h;exact tE.fl rs re h λx H1 v st1 φ1 s rs1 re1 rv h1=>h1 _ H1 φ1 .rfl rs1 (re1.set i rv)
theorem flT(r:R PV)(f:Bool->SO->Fl):(r.fl ρ λx st1=>onF (yaQ st1 x) λk=>f k st1)=(ybg r).fl ρ f:=by
 cases r with
 |ok v s=>
  erw[R.fl,ybg,R.bind]
  cases yaQ s v<;>rfl
 |exc c s=>rfl
 |bad=>rfl
theorem tTs.fl{k:Bool->SO->Fl}{P:Bool->Hp->Prop}(rs:yF X.K S.cl B φ H st)(re:yU X.K S.cl B φ H ρ σ)(h:yaM S X B φ H ((ybg (ev S.call ρ st ca)).fl ρ k) D)
  (n:∀b H1 st1 φ1,Step φ H φ1 H1->yF X.K S.cl B φ1 H1 st1->yU X.K S.cl B φ1 H1 ρ σ->yaM S X B φ1 H1 (k b st1) D->P b H1):tTs S X ca σ H P:=by
 refine⟨B,φ,st,ρ,rs,re,?_⟩
 cases e:ybg (ev S.call ρ st ca)with
 |ok v st'=>
  rw[e]at h;exact λx H' φ' s rs' rv=>by
   subst rv;exact n v H' st' φ' s rs' (re.step s) (h.on s)
 |exc k st'=>
  rw[e]at h;exact λe s' x=>h σ φ H e s' .rfl re x
 |bad=>rw[e]at h;exact h
theorem zp7(hc:PT X c (tTs S X cc))(ha:PSs X ss (tSs S X cs))(hb:PSs X ss' (tSs S X cs')):PS X (.If c ss ss' pos) (tS S X (.ite cc cs cs')):=
 (zqt hc ha hb).imp λD σ H ⟨B,φ,st,ρ,rs,re,h⟩=>by
  erw[ex]at h;rw[flT _ λk st1=>cond k (exs S.call ρ st1 cs) (exs S.call ρ st1 cs')]at h;refine tTs.fl rs re h λk H1 st1 φ1 s rs1 re1 h1=>?_
  cases k with
  |true=>exact⟨B,φ1,st1,ρ,rs1,re1,h1⟩
  |false=>exact⟨B,φ1,st1,ρ,rs1,re1,h1⟩
theorem znI{i:Nat}{x:AS}{op:Dp}{bo:BOp}(hN:X.N.Nodup)(hi:X.N[i]?=AA x)(hx:Loc X.env.scope x)(he:PE X a (tE S X ca))(ho:PIp X op (rT2 S X (ybS bo)))
  (hf:X.fn x=AB \/ X.env.scope.names.lookup x=AA .local:=by first|exact .inl rfl|exact .inr rfl|assumption) (hd:(x==("__debug__":AS))=false:=by decide) (hcd:(x==("__classdict__":AS))=false:=by decide):PS X (.AugAssign (.Name x px) op a pos) (tS S X (.aug i bo ca)):=
 (zkR hN hi hx he ho hf).imp λD σ H ⟨B,φ,st,ρ,rs,re,h⟩=>by
  erw[ex]at h
  cases q:ρ[i]? with
  |none=>rw[q]at h;exact h.elim
  |some w=>
   cases w with
   |none=>rw[q]at h;exact h.elim
   |some w=>
    rw[q]at h;let⟨y,hy,rw⟩:=re.get i w q;refine⟨y,hy,tE.fl rs re h λz H1 v st1 φ1 s rs1 re1 rv h1=>?_⟩
    cases e:ybS bo w v with
    |none=>rw[e]at h1;exact h1.elim
    |some u=>
     rw[e]at h1;exact⟨B,φ1,st1,w,v,u,rs1,rw.step s,rv,e,λz' H' φ' s' rs' rz=>h1 _ H' φ' s' rs' ((re1.step s').set i rz)⟩
end
section
variable (S:Se)(X:Cx)
structure Drw(B:AI->Prop)(φ0:Ph)(H0:Hp)(xs:List PV)(J:It):Prop where
 stop:∀φ H,Step φ0 H0 φ H->J.stop xs.length H
 go:∀(i:Nat) φ H,Step φ0 H0 φ H->i<xs.length->J.go i H
 yld:∀(i:Nat) φ H st x H' (B':AI->Prop),(∀y,B' y->B y \/ H0 y=AD)->Step φ0 H0 φ H->yF X.K S.cl B' φ H st->i<xs.length->J.yld i H x H'->∃v,xs[i]?=AA v/\yd X.K S.cl B' φ H' v x/\∀b o,H b=AA o->H' b=AA o
noncomputable abbrev RD(B:AI->Prop):Ph->Hp->List PV->It->Prop:=λφ H=>Drw S X B φ H
def tI(c:Cit):TI:=λσ H R=>∃B φ st ρ,yF X.K S.cl B φ H st/\yU X.K S.cl B φ H ρ σ/\Run S X σ B φ H (RD S X B) (evi S.call ρ st c) R
end
section
variable {S:Se}{X:Cx}{σ:St}{B:AI->Prop}{φ φ1:Ph}{H H1:Hp}{st:SO}{ρ:IC.Env}{D:Ends}{pos p p2 px:C1}{a b c o tg l:AW}{ca cb cc:Ce}{es:List AW}{ces:Ces}{ss:List CF}{cs:Css}{ci:Cit}{ct:Tg}
theorem zlH:PE X a (tE S X .nope):=λpins s σ H Q I ⟨B,φ,st,ρ,rs,re,h⟩=>by
 erw[ev]at h;exact h.elim
theorem zl1{s1:CF}:PS X s1 (tS S X .nope):=λpins s σ H D I ⟨B,φ,st,ρ,rs,re,h⟩=>by
 erw[ex]at h;exact h.elim
theorem PI.imp{t t':TI}(h:PI X tg l t')(k:∀σ H R,t σ H R->t' σ H R):PI X tg l t:=λpins s σ H R I q=>h pins s σ H R I (k σ H R q)
theorem zpe{tl:TE}(hl:PE X l tl):PI X tg l (λσ H R=>tl σ H λx H1=>∃a,x=.ref a/\(((∃xs,SqL X.K H1 a xs)/\R (Itl X.K a) H1) \/ ((∃xs,SqT X.K H1 a xs)/\R (Itt X.K a) H1))):=by
 intro pins s σ H R I h;refine thn (hl pins s σ H _ I h) λv s1 kq=>?_;let⟨x,H1,I1,r1,q1⟩:=kq;let⟨a,e,q1⟩:=q1;subst e
 cases r1
 rcases q1 with⟨⟨xs,hq⟩,q⟩|⟨⟨xs,hq⟩,q⟩
 .let⟨its,rv,p,hz⟩:=I1.list hq;refine GS p.isList ?_;refine⟨s1.heap.objs.size,[s1.heap.objs.size],_,_,H1,rfl,I1.kept (t':=s1.toks) λb o e=>AM _ e,ziw a _,⟨_,A6 _ rfl,rfl,rfl⟩,λb hb=>?_,q⟩;have e:b=s1.heap.objs.size:=by simpa using hb
  subst e;exact I1.fpOk (AT _) (I1.hok.fresh (AT _))
 .let⟨its,rv,p,hz⟩:=I1.tuple hq;refine CW (show s1.heap.IsTuple a its.toArray from p) ?_;refine⟨s1.heap.objs.size,[s1.heap.objs.size],_,_,H1,rfl,I1.kept (t':=s1.toks) λb o e=>AM _ e,zg5 a _,⟨_,A6 _ rfl,rfl,rfl⟩,λb hb=>?_,q⟩;have e:b=s1.heap.objs.size:=by simpa using hb
  subst e;exact I1.fpOk (AT _) (I1.hok.fresh (AT _))
theorem zlt{k:Bool}{vs:List PV}{xs:List V}{y:AI}(rt:ybV X.K B φ H k y xs)(l:yg X.K S.cl B φ H vs xs):Drw S X B φ H vs (Itt X.K y):=by
 have hl:=l.length;refine⟨λφ' H' s=>⟨xs,(rt.step s).sq,by lia⟩,λi φ' H' s hi=>⟨xs,xs[i]'(by lia),(rt.step s).sq,by simp[show i<xs.length by lia]⟩,λi φ' H' st x H2 B' hB s rs hi q=>?_⟩;let⟨rfl,q⟩:=q;obtain⟨v,hv⟩:∃v,vs[i]?=AA v:=⟨vs[i],by simp[hi]⟩;let⟨x',hx',rv⟩:=l.get i hv;have:=q xs (rt.step s).sq;rw[this]at hx'
 cases hx'
 exact⟨v,hv,(rv.moreB hB).step s,λ_ _ e=>e⟩
theorem zl5{vs:List PV}{xs:List V}{y:AI}(rt:yc4 B φ H y xs)(l:yg X.K S.cl B φ H vs xs):Drw S X B φ H vs (Itl X.K y):=by
 have hl:=l.length;refine⟨λφ' H' s=>⟨xs,(rt.step s).sq,by lia⟩,λi φ' H' s hi=>⟨xs,xs[i]'(by lia),(rt.step s).sq,by simp[show i<xs.length by lia]⟩,λi φ' H' st x H2 B' hB s rs hi q=>?_⟩;let⟨rfl,q⟩:=q;obtain⟨v,hv⟩:∃v,vs[i]?=AA v:=⟨vs[i],by simp[hi]⟩;let⟨x',hx',rv⟩:=l.get i hv;have:=q xs (rt.step s).sq;rw[this]at hx'
 cases hx'
 exact⟨v,hv,(rv.moreB hB).step s,λ_ _ e=>e⟩
theorem zpD(hl:PE X l (tE S X ca)):PI X tg l (tI S X (.seq ca)):=
 (zpe hl).imp λσ H R ⟨B,φ,st,ρ,rs,re,h⟩=>by
  erw[evi]at h;refine tE.bind rs re h λx H1 v st1 φ1 s1 rs1 re1 rv h1=>?_
  cases v with
  |tp k vs=>
   erw[yd]at rv;let⟨y,xs,rfl,rt,l⟩:=rv;exact⟨y,rfl,.inr ⟨⟨xs,rt.sq⟩,h1.ok rs1 (zlt rt l)⟩⟩
  |lst vs=>
   erw[yd]at rv;let⟨y,xs,rfl,rt,l⟩:=rv;exact⟨y,rfl,.inl ⟨⟨xs,rt.sq⟩,h1.ok rs1 (zl5 rt l)⟩⟩
  |_=>exact h1.elim
theorem zd0:∀(n:Nat) (lo d:Int) (i:Nat),(yu n lo d)[i]?=if i<n then AA (.int (lo+i*d))else AD
 |0,lo,d,i=>by simp[yu]
 |n+1,lo,d,0=>by simp[yu]
 |n+1,lo,d,i+1=>by
  erw[yu,AQ];rw[zd0 n (lo+d) d i]
  by_cases h:i<n
  .rw[if_pos h,if_pos (by lia),Int.natCast_succ,BL,Bg,Int.add_assoc,Cy d]
  .rw[if_neg h,if_neg (by lia)]
theorem zbo:∀(n:Nat) (lo d:Int),(yu n lo d).length=n
 |0,lo,d=>rfl
 |n+1,lo,d=>by simp[yu,zbo n]
theorem zhz{lo:Int}{n:Nat}:Drw S X B φ H (yu n lo 1) (Itr lo n):=by
 refine⟨λφ' H' s=>by rw[zbo];exact AT _,λi φ' H' s hi=>by rw[zbo]at hi;exact hi,λi φ' H' st x H2 B' hB s rs hi q=>?_⟩;rw[zbo]at hi;let⟨rfl,rfl⟩:=q;refine⟨.int (lo+i),?_,by erw[yd],λ_ _ e=>e⟩;rw[zd0,if_pos hi,C2]
theorem zia{o:Option (List PV)}{st:SO}{Q:It->Hp->Prop}(h:Run S X σ B φ H (RD S X B) (toL o st) Q):∃xs,o=AA xs/\Run S X σ B φ H (RD S X B) (.ok xs st) Q:=by
 cases o with
 |none=>exact h.elim
 |some z=>exact⟨z,rfl,h⟩
theorem zic(hg:Gl X "range")(hm:X.mg "range"=AD)(ha:PE X a (tE S X ca))(hs:starEach [a] X.env=[(AC,eval a X.env)]:=by rfl):PI X tg (.Call (.Name "range" p) [a] [] pos) (tI S X (.range1 ca)):=
 (ziy hg hm (zbO ha ybr hs) hs).imp λσ H R ⟨B,φ,st,ρ,rs,re,h⟩=>by
  erw[evi]at h;refine tE.bind rs re h λx H1 v st1 φ1 s1 rs1 re1 rv h1=>?_;let⟨xs,e,h1⟩:=zia h1
  cases v with
  |int j=>
   erw[ybY]at e;split at e
   .cases e
    erw[yd]at rv;subst rv;exact⟨j,rfl,by lia,by lia,h1.ok rs1 zhz⟩
   .cases e
  |_=>cases e
theorem zdL:∀(xs:List PV) (k i:Nat),(yL k xs)[i]?=(xs[i]?).map λx=>.tup [.int ((k+i:Nat):Int),x]
 |[],k,i=>by simp[yL]
 |x::xs,k,0=>by simp[yL]
 |x::xs,k,i+1=>by
  erw[yL,AQ];rw[zdL xs (k+1) i];have:k+1+i=k+(i+1):=by lia
  rw[this]
theorem zdg:∀(xs:List PV) (k:Nat),(yL k xs).length=xs.length
 |[],k=>rfl
 |x::xs,k=>by simp[yL,zdg xs]
theorem zkf{k:Bool}{vs:List PV}{xs:List V}{y:AI}(rt:ybV X.K B φ H k y xs)(l:yg X.K S.cl B φ H vs xs):Drw S X B φ H (yL 0 vs) (Ite X.K y):=by
 have hl:=l.length;have hp:=zdg vs 0;refine⟨λφ' H' s=>⟨xs,(rt.step s).sq,by lia⟩,λi φ' H' s hi=>⟨xs,xs[i]'(by lia),(rt.step s).sq,by simp[show i<xs.length by lia]⟩,λi φ' H' st x H2 B' hB s rs hi q=>?_⟩;let⟨T,hT,rfl,q⟩:=q;obtain⟨v,hv⟩:∃v,vs[i]?=AA v:=⟨vs[i]'(by lia),by simp[show i<vs.length by lia]⟩;let⟨x',hx',rv⟩:=l.get i hv;have e:=q xs x' (rt.step s).sq hx';subst e;refine⟨.tup [.int i,v],?_,.tup_new hT rs ?_,λb o e=>by rw[zk (zq e hT)];exact e⟩
 .rw[zdL,hv];simp
 .simp only[yg,yd];exact⟨_,_,rfl,rfl,x',[],rfl,(rv.moreB hB).step s,rfl⟩
theorem zmg{es:List AW}{kk:Nat}{tp:C1}(hg:Gl X "enumerate")(hm:X.mg "enumerate"=AD)(ha:PE X a (tE S X ca))(hs:starEach [a] X.env=[(AC,eval a X.env)]:=by rfl):
  PI X (.Tuple es kk tp) (.Call (.Name "enumerate" p) [a] [] pos) (tI S X (.enum ca)):=
 (zjT hg hm (zbO ha ybr hs) hs).imp λσ H R ⟨B,φ,st,ρ,rs,re,h⟩=>by
  erw[evi]at h;refine tE.bind rs re h λx H1 v st1 φ1 s1 rs1 re1 rv h1=>?_
  cases v with
  |tp k vs=>
   erw[yd]at rv;let⟨y,xs,rfl,rt,l⟩:=rv;exact⟨y,rfl,⟨xs,rt.sq⟩,h1.ok rs1 (zkf rt l)⟩
  |_=>exact h1.elim
def tG(S:Se)(X:Cx)(t:Tg):TG:=λv σ H Q=>∃B φ st ρ w ρ',yF X.K S.cl B φ H st/\yU X.K S.cl B φ H ρ σ/\yd X.K S.cl B φ H w v/\yR t w ρ=AA ρ'/\∀σ',yU X.K S.cl B φ H ρ' σ'->Q σ' H
theorem PG.imp{t t':TG}(h:PG X tg t')(k:∀v σ H Q,t v σ H Q->t' v σ H Q):PG X tg t:=λpins s σ H v u Q I rv q=>h pins s σ H v u Q I rv (k v σ H Q q)
theorem zmQ{i:Nat}{x:AS}(hN:X.N.Nodup)(hi:X.N[i]?=AA x)(hx:Loc X.env.scope x)(hf:X.fn x=AB \/ X.env.scope.names.lookup x=AA .local:=by first|exact .inl rfl|exact .inr rfl|assumption):PG X (.Name x pos) (tG S X (.n i)):=
 (ziu hN hi hx hf).imp λv σ H Q ⟨B,φ,st,ρ,w,ρ',rs,re,rv,e,q⟩=>by
  cases e
  exact q _ (re.set i rv)
noncomputable def gNs(l:List Nat):TGs:=λvs σ H Q=>vs.length=l.length/\Q ((l.zip vs).foldl (λσ p=>σ.set p.1 (AA p.2)) σ) H
theorem PGs.imp{es:List AW}{t t':TGs}(h:PGs X es t')(k:∀v σ H Q,t v σ H Q->t' v σ H Q):PGs X es t:=λpins s σ H vs us Q I rv q=>h pins s σ H vs us Q I rv (k vs σ H Q q)
theorem zlL:PGs X [] (gNs []):=yc1.imp λvs σ H Q ⟨h,q⟩=>by
 cases vs with
 |nil=>exact⟨rfl,q⟩
 |cons _ _=>cases h
theorem zks{es:List AW}{l:List Nat}{i:Nat}{x:AS}(hN:X.N.Nodup)(hi:X.N[i]?=AA x)(hx:Loc X.env.scope x)(h2:PGs X es (gNs l))(hf:X.fn x=AB \/ X.env.scope.names.lookup x=AA .local:=by first|exact .inl rfl|exact .inr rfl|assumption):PGs X (.Name x pos::es) (gNs (i::l)):=
 (zkp (ziu hN hi hx hf) h2).imp λvs σ H Q ⟨h,q⟩=>by
  cases vs with
  |nil=>cases h
  |cons v vs=>exact⟨v,vs,rfl,by simpa using h,q⟩
theorem yU.sets{K:AE}{cl:Nat->AI}:∀(l:List Nat) {vs:List PV} {xs:List V} {ρ:IC.Env} {σ:St},yU K cl B φ H ρ σ->yg K cl B φ H vs xs ->
  yU K cl B φ H ((l.zip vs).foldl (λρ p=>ρ.set p.1 (AA p.2)) ρ) ((l.zip xs).foldl (λσ p=>σ.set p.1 (AA p.2)) σ)
 |[],vs,xs,ρ,σ,re,l=>by simpa using re
 |i::is,[],xs,ρ,σ,re,l=>by
  erw[yg]at l;subst l;simpa using re
 |i::is,v::vs,xs,ρ,σ,re,l=>by
  erw[yg]at l;let⟨y,ys,rfl,r,l⟩:=l;erw[EW,Dy];exact yU.sets is (re.set i r) l
theorem zo4{es:List AW}{l:List Nat}{k:Nat}(hc:X.calm=AB)(h:PGs X es (gNs l))(hn:(assignEach es X.env).length=l.length:=by rfl)(hst:(assignEach es X.env).findIdx? (·.1)=none:=by rfl):PG X (.Tuple es k pos) (tG S X (.t l)):=
 (znY hc h hn hst).imp λv σ H Q ⟨B,φ,st,ρ,w,ρ',rs,re,rv,e,q⟩=>by
  cases w with
  |tp kk vs=>
   erw[yR]at e;split at e
   .rename_i c
    cases e
    erw[yd]at rv;let⟨y,xs,rfl,rt,lr⟩:=rv;have hl:=lr.length;exact⟨y,xs,rfl,rt.sq,by lia,by lia,q _ (yU.sets l re lr)⟩
   .cases e
  |_=>cases e
theorem zmM{es:List AW}{l:List Nat}{k:Nat}(he:PE X a (tE S X ca))(hg:PG X (.Tuple es k p2) (tG S X (.t l)))(hs:swapsWithSole [.Tuple es k p2] a pos.line X.env=pure false:=by rfl)(hw:swappedStores [.Tuple es k p2] a X.env=pure none:=by rfl):
  PS X (.Assign [.Tuple es k p2] a pos) (tS S X (.asg (.t l) ca)):=
 (zkU he hg hs hw).imp λD σ H ⟨B,φ,st,ρ,rs,re,h⟩=>by
  erw[ex]at h;refine tE.fl rs re h λx H1 v st1 φ1 s rs1 re1 rv h1=>?_
  cases e:yR (.t l) v ρ with
  |none=>rw[e]at h1;exact h1.elim
  |some ρ'=>
   rw[e]at h1;exact⟨B,φ1,st1,ρ,v,ρ',rs1,re1,rv,e,λσ' re'=>h1 σ' H1 φ1 .rfl rs1 re'⟩
theorem tI.fl{k:List PV->SO->Fl}{P:It->Hp->Prop}(rs:yF X.K S.cl B φ H st)(re:yU X.K S.cl B φ H ρ σ)(h:yaM S X B φ H ((evi S.call ρ st ci).fl ρ k) D)
  (n:∀x H1 v st1 φ1,Step φ H φ1 H1->yF X.K S.cl B φ1 H1 st1->yU X.K S.cl B φ1 H1 ρ σ->Drw S X B φ1 H1 v x->yaM S X B φ1 H1 (k v st1) D->P x H1):tI S X ci σ H P:=by
 refine⟨B,φ,st,ρ,rs,re,?_⟩
 cases e:evi S.call ρ st ci with
 |ok v st'=>
  rw[e]at h;exact λx H' φ' s rs' rv=>n x H' v st' φ' s rs' (re.step s) rv (h.on s)
 |exc k st'=>
  rw[e]at h;exact λe s' x=>h σ φ H e s' .rfl re x
 |bad=>rw[e]at h;exact h
theorem zpG(hp:Es (model X.prog X.w) X.A X.env X.xe)(hc:X.calm=AB)(hi:PI X tg l (tI S X ci))(hg:PG X tg (tG S X ct))(hb:PSs X ss (tSs S X cs))(hs:∀x,foldedSetIterable l X.env x=pure x:=by intro _;rfl):
  PS X (.For tg l ss [] pos) (tS S X (.for ct ci cs)):=
 (zos hp hc hi hg hb hs).imp λD σ H ⟨B,φ,st,ρ,rs,re,h⟩=>by
  erw[ex]at h;refine tI.fl rs re h λJ H1 xs st1 φ1 s1 rs1 re1 dr h1=>?_;refine⟨λi m σ H=>∃φ st ρ,i+m=xs.length/\Step φ1 H1 φ H/\yF X.K S.cl B φ H st/\yU X.K S.cl B φ H ρ σ/\yaM S X B φ H (forL ct (λρ2 st2=>exs S.call ρ2 st2 cs) (xs.drop i) ρ st) D,
   ⟨xs.length,φ1,st1,ρ,by lia,.rfl,rs1,re1,by simpa using h1⟩,?_⟩
  rintro i m σ2 H2 ⟨φ2,st2,ρ2,hm,s2,rs2,re2,h2⟩
  by_cases hi:i<xs.length
  .refine .inr ⟨dr.go i φ2 H2 s2 hi,λσ' H'=>∃φ st ρ,Step φ1 H1 φ H'/\yF X.K S.cl B φ H' st/\yU X.K S.cl B φ H' ρ σ'/\yaM S X B φ H' (forL ct (λρ2 st2=>exs S.call ρ2 st2 cs) (xs.drop (i+1)) ρ st) D,
    λσ' H' ⟨φ,st,ρ,s,q⟩=>⟨m-1,by lia,φ,st,ρ,by lia,s,q⟩,λx H3 hy=>?_⟩
   let⟨v,hv,rv,kk⟩:=dr.yld i φ2 H2 st2 x H3 B (λ_ z=>.inl z) s2 rs2 hi hy;have e:xs.drop i=v::xs.drop (i+1):=by
    rw[Eb hi];rw[By hi]at hv;rw[AZ hv]
   have s3:Step φ2 H2 φ2 H3:=⟨λb o _ e=>kk b o e,AT _,λ_ _ _ e=>e,λ_ h=>.inl h⟩;have rs3:yF X.K S.cl B φ2 H3 st2:=rs2.same kk;rw[e,forL]at h2
   cases eb:yR ct v ρ2 with
   |none=>rw[eb]at h2;exact h2.elim
   |some ρ3=>
    rw[eb]at h2;refine⟨B,φ2,st2,ρ2,v,ρ3,rs3,re2.step s3,rv,eb,λσ' re'=>⟨B,φ2,st2,ρ3,rs3,re',?_⟩⟩;have h3:=yaM.on s3 h2;dsimp only at h3
    cases ee:exs S.call ρ3 st2 cs with
    |nx ρ4 st4=>
     rw[ee]at h3;exact λσ4 H4 φ4 s4 rs4 re4=>⟨φ4,st4,ρ4,s2.trans (s3.trans s4),rs4,re4,yaM.on s4 h3⟩
    |ct ρ4 st4=>
     rw[ee]at h3;exact λσ4 H4 φ4 s4 rs4 re4=>⟨φ4,st4,ρ4,s2.trans (s3.trans s4),rs4,re4,yaM.on s4 h3⟩
    |bk ρ4 st4=>rw[ee]at h3;exact h3
    |rt v4 st4=>rw[ee]at h3;exact h3
    |exc k ρ4 st4=>rw[ee]at h3;exact h3
    |bad=>rw[ee]at h3;exact h3
  .have e:i=xs.length:=by lia
   subst e;rw[G6,forL]at h2;exact .inl ⟨dr.stop φ2 H2 s2,h2 σ2 H2 φ2 .rfl rs2 re2⟩
theorem zjW(hp:Es (model X.prog X.w) X.A X.env X.xe)(hc:PT X c (tTs S X cc))(hb:PSs X ss (tSs S X cs)):PS X (.While c ss [] pos) (tS S X (.while cc cs)):=
 (zkk hp hc hb).imp λD σ H ⟨B,φ,st,ρ,rs,re,h⟩=>by
  erw[ex]at h;refine⟨λm σ H=>∃φ st ρ,yF X.K S.cl B φ H st/\yU X.K S.cl B φ H ρ σ/\yaM S X B φ H (yax (λρ2 st2=>ev S.call ρ2 st2 cc) (λρ2 st2=>exs S.call ρ2 st2 cs) m ρ st) D,⟨100000,φ,st,ρ,rs,re,h⟩,?_⟩
  rintro m σ2 H2 ⟨φ2,st2,ρ2,rs2,re2,h2⟩
  cases m with
  |zero=>exact h2.elim
  |succ m=>
   rw[yax]at h2;rw[flT _ λk st1=>cond k (yaG (exs S.call ρ2 st1 cs) λρ2 st2=>yax (λρ2 st2=>ev S.call ρ2 st2 cc) (λρ2 st2=>exs S.call ρ2 st2 cs) m ρ2 st2) (.nx ρ2 st1)]at h2;refine tTs.fl rs2 re2 h2 λk H3 st3 φ3 s3 rs3 re3 h3=>?_
   cases k with
   |false=>exact h3 σ2 H3 φ3 .rfl rs3 re3
   |true=>
    refine⟨λσ' H'=>∃φ st ρ,yF X.K S.cl B φ H' st/\yU X.K S.cl B φ H' ρ σ'/\yaM S X B φ H' (yax (λρ2 st2=>ev S.call ρ2 st2 cc) (λρ2 st2=>exs S.call ρ2 st2 cs) m ρ st) D,
     λσ' H' q=>⟨m,by lia,q⟩,B,φ3,st3,ρ2,rs3,re3,?_⟩
    erw[cond_true]at h3
    cases ee:exs S.call ρ2 st3 cs with
    |nx ρ4 st4=>
     rw[ee]at h3;exact λσ4 H4 φ4 s4 rs4 re4=>⟨φ4,st4,ρ4,rs4,re4,yaM.on s4 h3⟩
    |ct ρ4 st4=>
     rw[ee]at h3;exact λσ4 H4 φ4 s4 rs4 re4=>⟨φ4,st4,ρ4,rs4,re4,yaM.on s4 h3⟩
    |bk ρ4 st4=>rw[ee]at h3;exact h3
    |rt v4 st4=>rw[ee]at h3;exact h3
    |exc k ρ4 st4=>rw[ee]at h3;exact h3
    |bad=>rw[ee]at h3;exact h3
end
section
variable (S:Se)(K:AE)
def yfi{α β:Type}(B:AI->Prop)(φ:Ph)(H:Hp)(Rel:Ph->Hp->α->β->Prop)(r:R α)(Q:β->Hp->Prop):Prop:=
 match r with
 |.ok v st'=>∀x H' φ',Step φ H φ' H'->yF K S.cl B φ' H' st'->Rel φ' H' v x->Q x H'
 |_=>False
def tE0(c:Ce):TE:=λσ H Q=>∃B φ st ρ,yF K S.cl B φ H st/\yU K S.cl B φ H ρ σ/\yfi S K B φ H (λφ H=>yd K S.cl B φ H) (ev S.call ρ st c) Q
def tT0(c:Ce):TT:=λσ H Q=>∃B φ st ρ,yF K S.cl B φ H st/\yU K S.cl B φ H ρ σ/\yfi S K B φ H RB (ybg (ev S.call ρ st c)) Q
def tG0(t:Tg):TG:=λv σ H Q=>∃B φ st ρ w ρ',yF K S.cl B φ H st/\yU K S.cl B φ H ρ σ/\yd K S.cl B φ H w v/\yR t w ρ=AA ρ'/\∀σ',yU K S.cl B φ H ρ' σ'->Q σ' H
end
section
variable {S:Se}{X:Cx}{K:AE}{cl:Nat->AI}{σ:St}{B:AI->Prop}{φ φ1:Ph}{H H1:Hp}{st:SO}{ρ:IC.Env}{pos p p2 px:C1}{a b c o tg l elt iter:AW}{ca cb cc ce:Ce}{ci:Cit}{ct:Tg}
theorem zmt(hK:X.K=K)(h:PE X a (tE S X ca)):PE X a (tE0 S K ca):=by
 subst hK;refine h.imp λσ H Q kq=>?_;let⟨B,φ,st,ρ,rs,re,q⟩:=kq;refine ⟨B,φ,st,ρ,rs,re,?_⟩
 cases e:ev S.call ρ st ca with
 |ok v st'=>rw[e]at q;exact q
 |exc k st'=>rw[e]at q;exact q.elim
 |bad=>rw[e]at q;exact q
theorem zmh(hK:X.K=K)(h:PT X a (tTs S X ca)):PTs X [a] (tT0 S K ca):=by
 subst hK;refine zl2 (h.imp λσ H Q kq=>?_);let⟨B,φ,st,ρ,rs,re,q⟩:=kq;refine ⟨B,φ,st,ρ,rs,re,?_⟩
 cases e:ybg (ev S.call ρ st ca)with
 |ok v st'=>rw[e]at q;exact q
 |exc k st'=>rw[e]at q;exact q.elim
 |bad=>rw[e]at q;exact q
theorem zjr:PTs X [] (tT0 S K (.cst (.bl AB))):=λpins s σ H Q I ⟨B,φ,st,ρ,rs,re,q⟩=>by
 refine zmm pins s σ H Q I ?_;erw[ev,ybg,R.bind,yaQ,onO]at q;exact q AB H φ .rfl rs rfl
theorem zlV(hK:X.K=K)(h:PG X tg (tG S X ct)):PG X tg (tG0 S K ct):=by
 subst hK;exact h
theorem ybV.skip{k:Bool}{D y:AI}{u:HO}{xs:List V}(hD:B D)(r:ybV K B φ H k y xs):ybV K B φ (L2.upd H D u) k y xs:=by
 rcases r with⟨r,b,n⟩|r
 .exact .inl ⟨by rw[zk (show y≠D from λz=>b (z ▸ hD))];exact r,b,n⟩
 .exact .inr r
mutual
theorem yd.skip{D:AI}{u:HO}(hD:B D):∀(v:PV) (x:V),yd K cl B φ H v x->yd K cl B φ (L2.upd H D u) v x
 |.non,x,h=>by erw[yd]at h ⊢;exact h
 |.bl b,x,h=>by erw[yd]at h ⊢;exact h
 |.int i,x,h=>by erw[yd]at h ⊢;exact h
 |.str y,x,h=>by erw[yd]at h ⊢;exact h
 |.tp k vs,x,h=>by
  erw[yd]at h ⊢;let⟨y,xs,e,r,l⟩:=h;exact⟨y,xs,e,r.skip hD,yg.skip hD vs xs l⟩
 |.lst vs,x,h=>by
  erw[yd]at h ⊢;let⟨y,xs,e,⟨r,b,n⟩,l⟩:=h;exact⟨y,xs,e,⟨by rw[zk (show y≠D from λz=>b (z ▸ hD))];exact r,b,n⟩,yg.skip hD vs xs l⟩
 |.loc n,x,h=>by erw[yd]at h ⊢;exact h
 |.exn c,x,h=>by
  erw[yd]at h ⊢;let⟨y,e,r,b,n⟩:=h;exact⟨y,e,by rw[zk (show y≠D from λz=>b (z ▸ hD))];exact r,b,n⟩
 |.scr vs,x,h=>by
  erw[yd]at h ⊢;let⟨y,xs,e,r,l⟩:=h;refine⟨y,xs,e,?_,yg.skip hD vs xs l⟩;rcases r with⟨r,b,n⟩|r
  .refine .inl ⟨?_,b,n⟩;have ne:y≠D:=λz=>b (z ▸ hD);rcases r with r|⟨o,r⟩
   .exact .inl (by rw[zk ne];exact r)
   .exact .inr ⟨o,by rw[zk ne];exact r⟩
  .exact .inr r
theorem yg.skip{D:AI}{u:HO}(hD:B D):∀(v:List PV) (x:List V),yg K cl B φ H v x->yg K cl B φ (L2.upd H D u) v x
 |[],x,h=>by erw[yg]at h ⊢;exact h
 |v::vs,x,h=>by
  erw[yg]at h ⊢;let⟨y,ys,e,r,l⟩:=h;exact⟨y,ys,e,yd.skip hD v y r,yg.skip hD vs ys l⟩
end
theorem DK.skip{D:AI}{u:HO}(hD:B D):∀{kvs:List (PV×PV)} {ks:List (Key×V)},DK K cl B φ H kvs ks->DK K cl B φ (L2.upd H D u) kvs ks
 |[],ks,h=>h
 |(k,v)::r,ks,h=>by
  let⟨q,x,t,e,m,rv,l⟩:=h;exact⟨q,x,t,e,m,rv.skip hD,DK.skip hD l⟩
theorem DT.skip{D:AI}{u:HO}(hD:B D):∀{kvs:List (PV×PV)} {ks:List (List Key×V)},DT K cl B φ H kvs ks->DT K cl B φ (L2.upd H D u) kvs ks
 |[],ks,h=>h
 |(k,v)::r,ks,h=>by
  let⟨q,x,t,e,m,rv,l⟩:=h;exact⟨q,x,t,e,m,rv.skip hD,DT.skip hD l⟩
theorem FS.skip{D:AI}{u:HO}(hD:B D):∀{kvs:List (AS×PV)} {ks:List (AS×V)},FS K cl B φ H kvs ks->FS K cl B φ (L2.upd H D u) kvs ks
 |[],ks,h=>h
 |(k,v)::r,ks,h=>by
  let⟨x,t,e,rv,l⟩:=h;exact⟨x,t,e,rv.skip hD,FS.skip hD l⟩
theorem yF.skip{D:AI}{u:HO}(hD:B D)(rs:yF K cl B φ H st):yF K cl B φ (L2.upd H D u) st:=by
 refine⟨rs.len,rs.inj,λn y e=>?_,rs.liv,rs.nb,λy h=>?_⟩
 .let⟨o,q,r⟩:=rs.obj n y e;have ne:y≠D:=λz=>rs.nb y (A5 e) (z ▸ hD);refine⟨o,q,?_⟩
  cases o with
  |lst vs=>
   let⟨xs,hx,l⟩:=r;exact⟨xs,by rw[zk ne];exact hx,l.skip hD⟩
  |dct t kvs=>
   cases t with
   |false=>
    let⟨xs,hx,l⟩:=r;exact⟨xs,by rw[zk ne];exact hx,l.skip hD⟩
   |true=>
    let⟨xs,hx,l⟩:=r;exact⟨xs,by rw[zk ne];exact hx,l.skip hD⟩
  |ins c fs=>
   let⟨ks,⟨dx,hx⟩,l⟩:=r;exact⟨ks,⟨dx,by rw[zk ne];exact hx⟩,l.skip hD⟩
  |dead=>exact r.elim
 .by_cases z:y=D
  .subst z;exact⟨u,zu⟩
  .let⟨w,e⟩:=rs.dom y h;exact⟨w,by rw[zk z];exact e⟩
theorem yU.skip{D:AI}{u:HO}(hD:B D)(re:yU K cl B φ H ρ σ):yU K cl B φ (L2.upd H D u) ρ σ:=⟨re.len,λi v e=>by
 let⟨x,h,q⟩:=re.get i v e;exact⟨x,h,q.skip hD⟩⟩
noncomputable def Bx(B:AI->Prop)(D:AI):AI->Prop:=λy=>B y \/ y=D
theorem zhA{D:AI}(hn:H D=AD):∀y,Bx B D y->B y \/ H y=none:=λy z=>z.elim .inl λq=>.inr (q ▸ hn)
theorem yd.more{D:AI}(hn:H D=AD){v:PV}{x:V}(h:yd K cl B φ H v x):yd K cl (Bx B D) φ H v x:=h.moreB (zhA hn)
theorem yg.more{D:AI}(hn:H D=AD){v:List PV}{x:List V}(h:yg K cl B φ H v x):yg K cl (Bx B D) φ H v x:=h.moreB (zhA hn)
mutual
theorem yd.less{D:AI}:∀(v:PV) (x:V),yd K cl (Bx B D) φ H v x->yd K cl B φ H v x
 |.non,x,h=>by erw[yd]at h ⊢;exact h
 |.bl b,x,h=>by erw[yd]at h ⊢;exact h
 |.int i,x,h=>by erw[yd]at h ⊢;exact h
 |.str y,x,h=>by erw[yd]at h ⊢;exact h
 |.tp k vs,x,h=>by
  erw[yd]at h ⊢;let⟨y,xs,e,r,l⟩:=h;refine⟨y,xs,e,?_,yg.less vs xs l⟩;rcases r with⟨r,b,n⟩|r
  .exact .inl ⟨r,λz=>b (.inl z),n⟩
  .exact .inr r
 |.lst vs,x,h=>by
  erw[yd]at h ⊢;let⟨y,xs,e,⟨r,b,n⟩,l⟩:=h;exact⟨y,xs,e,⟨r,λz=>b (.inl z),n⟩,yg.less vs xs l⟩
 |.loc n,x,h=>by erw[yd]at h ⊢;exact h
 |.exn c,x,h=>by
  erw[yd]at h ⊢;let⟨y,e,r,b,n⟩:=h;exact⟨y,e,r,λz=>b (.inl z),n⟩
 |.scr vs,x,h=>by
  erw[yd]at h ⊢;let⟨y,xs,e,r,l⟩:=h;refine⟨y,xs,e,?_,yg.less vs xs l⟩;rcases r with⟨r,b,n⟩|r
  .exact .inl ⟨r,λz=>b (.inl z),n⟩
  .exact .inr r
theorem yg.less{D:AI}:∀(v:List PV) (x:List V),yg K cl (Bx B D) φ H v x->yg K cl B φ H v x
 |[],x,h=>by erw[yg]at h ⊢;exact h
 |v::vs,x,h=>by
  erw[yg]at h ⊢;let⟨y,ys,e,r,l⟩:=h;exact⟨y,ys,e,yd.less v y r,yg.less vs ys l⟩
end
theorem DK.more{D:AI}(hn:H D=AD):∀{kvs:List (PV×PV)} {ks:List (Key×V)},DK K cl B φ H kvs ks->DK K cl (Bx B D) φ H kvs ks
 |[],ks,h=>h
 |(k,v)::r,ks,h=>by
  let⟨q,x,t,e,m,rv,l⟩:=h;exact⟨q,x,t,e,m,rv.more hn,DK.more hn l⟩
theorem DT.more{D:AI}(hn:H D=AD):∀{kvs:List (PV×PV)} {ks:List (List Key×V)},DT K cl B φ H kvs ks->DT K cl (Bx B D) φ H kvs ks
 |[],ks,h=>h
 |(k,v)::r,ks,h=>by
  let⟨q,x,t,e,m,rv,l⟩:=h;exact⟨q,x,t,e,m,rv.more hn,DT.more hn l⟩
theorem FS.more{D:AI}(hn:H D=AD):∀{kvs:List (AS×PV)} {ks:List (AS×V)},FS K cl B φ H kvs ks->FS K cl (Bx B D) φ H kvs ks
 |[],ks,h=>h
 |(k,v)::r,ks,h=>by
  let⟨x,t,e,rv,l⟩:=h;exact⟨x,t,e,rv.more hn,FS.more hn l⟩
theorem DK.less{D:AI}:∀{kvs:List (PV×PV)} {ks:List (Key×V)},DK K cl (Bx B D) φ H kvs ks->DK K cl B φ H kvs ks
 |[],ks,h=>h
 |(k,v)::r,ks,h=>by
  let⟨q,x,t,e,m,rv,l⟩:=h;exact⟨q,x,t,e,m,rv.less,DK.less l⟩
theorem DT.less{D:AI}:∀{kvs:List (PV×PV)} {ks:List (List Key×V)},DT K cl (Bx B D) φ H kvs ks->DT K cl B φ H kvs ks
 |[],ks,h=>h
 |(k,v)::r,ks,h=>by
  let⟨q,x,t,e,m,rv,l⟩:=h;exact⟨q,x,t,e,m,rv.less,DT.less l⟩
theorem FS.less{D:AI}:∀{kvs:List (AS×PV)} {ks:List (AS×V)},FS K cl (Bx B D) φ H kvs ks->FS K cl B φ H kvs ks
 |[],ks,h=>h
 |(k,v)::r,ks,h=>by
  let⟨x,t,e,rv,l⟩:=h;exact⟨x,t,e,rv.less,FS.less l⟩
theorem yF.less{D:AI}(rs:yF K cl (Bx B D) φ H st):yF K cl B φ H st:=by
 refine⟨rs.len,rs.inj,λn y e=>?_,rs.liv,λy h z=>rs.nb y h (.inl z),λy h=>rs.dom y (.inl h)⟩;let⟨o,q,r⟩:=rs.obj n y e;refine⟨o,q,?_⟩
 cases o with
 |lst vs=>let⟨xs,hx,l⟩:=r;exact⟨xs,hx,l.less⟩
 |dct t kvs=>cases t<;>(let⟨xs,hx,l⟩:=r;exact⟨xs,hx,l.less⟩)
 |ins c fs=>let⟨ks,hx,l⟩:=r;exact⟨ks,hx,l.less⟩
 |dead=>exact r.elim
theorem yF.more{D:AI}{u:HO}(hn:H D=AD)(rs:yF K cl B φ H st):yF K cl (Bx B D) φ (L2.upd H D u) st:=by
 have nD:AA D∉φ:=λz=>by
  let⟨w,e⟩:=rs.there z;rw[hn]at e;cases e
 have s:Step φ H φ (L2.upd H D u):=.upd hn;have rs':=rs.upd (o:=u) hn;refine⟨rs.len,rs.inj,λn y e=>?_,rs.liv,λy h z=>z.elim (rs.nb y h) λq=>nD (q ▸ h),λy h=>?_⟩
 .let⟨o,q,r⟩:=rs.obj n y e;have ne:y≠D:=λz=>nD (z ▸ A5 e);have hD:Bx B D D:=.inr rfl;refine⟨o,q,?_⟩
  cases o with
  |lst vs=>let⟨xs,hx,l⟩:=r;exact⟨xs,by rw[zk ne];exact hx,(l.more hn).skip hD⟩
  |dct t kvs=>
   cases t with
   |false=>let⟨xs,hx,l⟩:=r;exact⟨xs,by rw[zk ne];exact hx,(l.more hn).skip hD⟩
   |true=>let⟨xs,hx,l⟩:=r;exact⟨xs,by rw[zk ne];exact hx,(l.more hn).skip hD⟩
  |ins c fs=>let⟨ks,⟨dx,hx⟩,l⟩:=r;exact⟨ks,⟨dx,by rw[zk ne];exact hx⟩,(l.more hn).skip hD⟩
  |dead=>exact r.elim
 .rcases h with h|h
  .exact rs'.dom y h
  .subst h;exact⟨u,zu⟩
theorem yU.more{D:AI}{u:HO}(hn:H D=AD)(re:yU K cl B φ H ρ σ):yU K cl (Bx B D) φ (L2.upd H D u) ρ σ:=⟨re.len,λi v e=>by
 let⟨x,h,q⟩:=re.get i v e;exact⟨x,h,(q.more hn).skip (.inr rfl)⟩⟩
noncomputable def yaH:Tg->List (Option Nat)->Bool
 |.n i,sl=>decide (sl[i]?=AA AD)
 |.t l,sl=>l.all λi=>decide (sl[i]?=AA AD)
theorem zge:∀(l:List Nat) (vs:List PV) (ρ:IC.Env) (j:Nat),j∉l->((l.zip vs).foldl (λρ p=>ρ.set p.1 (AA p.2)) ρ)[j]?=ρ[j]?
 |[],vs,ρ,j,h=>by simp
 |i::is,[],ρ,j,h=>by simp
 |i::is,v::vs,ρ,j,h=>by
  erw[EW,Dy];rw[zge is vs _ j λz=>h (AV _ z),AR]
  rintro rfl
  exact h As
theorem zgs:∀(l:List Nat) (vs:List PV) (ρ:IC.Env),((l.zip vs).foldl (λρ p=>ρ.set p.1 (AA p.2)) ρ).length=ρ.length
 |[],vs,ρ=>by simp
 |i::is,[],ρ=>by simp
 |i::is,v::vs,ρ=>by
  erw[EW,Dy];rw[zgs is vs,Ba]
theorem yU.untgt{sl:List (Option Nat)}{ρ0 ρ1:IC.Env}{v:PV}(hf:yaH ct sl=AB)(h0:∀(i:Nat),sl[i]?=AA AD->ρ0[i]?=AA AD)(hb:yR ct v ρ0=AA ρ1)(re:yU K cl B φ H ρ1 σ):yU K cl B φ H ρ0 σ:=by
 cases ct with
 |n i=>
  cases hb
  erw[yaH,decide_eq_true_eq]at hf;refine⟨by rw[<-re.len,Ba],λj w e=>re.get j w ?_⟩;rw[AR]
  .exact e
  .rintro rfl
   rw[h0 _ hf]at e;cases e
 |t l=>
  cases v with
  |tp k vs=>
   erw[yR]at hb;split at hb
   .cases hb
    erw[yaH,Bc,decide_eq_true_eq]at hf;refine⟨by rw[<-re.len,zgs],λj w e=>re.get j w ?_⟩;rw[zge]
    .exact e
    .intro z;rw[h0 _ (hf j z)]at e;cases e
   .cases hb
  |_=>cases hb
theorem yU.inn{sl:List (Option Nat)}(re:yU K cl B φ H ρ σ):yU K cl B φ H (sl.map λo=>o.bind λj=>(ρ[j]?).join) (L2.inn sl σ):=by
 unfold L2.inn;refine⟨by simp,λi v e=>?_⟩;rw[Bt]at e ⊢
 cases q:sl[i]? with
 |none=>rw[q]at e;cases e
 |some o=>
  rw[q]at e
  cases o with
  |none=>cases e
  |some j=>
   erw[DI,B3,Option.some.injEq]at e ⊢
   cases q2:ρ[j]? with
   |none=>rw[q2]at e;cases e
   |some w=>
    rw[q2]at e;erw[G7]at e;subst e;let⟨x,hx,rv⟩:=re.get j v q2;exact⟨x,by rw[hx];rfl,rv⟩
theorem ycl:1000000<sizeLine:=by rw[Dq];decide
theorem znN{α:Type}{o:Option Bool}{k:Bool->R α}{z:α}{s:SO}(h:onO o k=.ok z s):∃b,o=AA b/\k b=.ok z s:=by
 cases o with
 |none=>cases h
 |some b=>exact⟨b,rfl,h⟩
theorem za7{α β:Type}{r:R α}{k:α->SO->R β}{z:β}{s:SO}(h:r.bind k=.ok z s):∃a s1,r=.ok a s1/\k a s1=.ok z s:=by
 cases r with
 |ok a s1=>exact⟨a,s1,rfl,h⟩
 |exc c s=>cases h
 |bad=>cases h
theorem zi4{sl:List (Option Nat)}(hf:yaH ct sl=AB){H:Hp}{Q:VK}(h:tE S X (.comp sl ct ci cc ce) σ H Q):ydO sl (tI S X ci) (tG0 S X.K ct) (tT0 S X.K cc) (tE0 S X.K ce) σ H Q:=by
  let⟨B,φ,st,ρ,rs,re,h⟩:=h;erw[ev]at h;refine⟨B,φ,st,ρ,rs,re,(Run.bind h).mono λJ H1 kq=>?_⟩;let⟨xs,st1,φ1,s1,rs1,dr,h1⟩:=kq;refine λD hD=>?_
  generalize hone:(λ(x:PV) (st2:SO)=>match yR ct x (sl.map λo=>o.bind λj=>(ρ[j]?).join)with
   |none=>(R.bad:R (Option PV))
   |some ρ1=>(ev S.call ρ1 st2 cc).bind λb st3=>onO (yaQ st3 b) λk=>cond k ((ev S.call ρ1 st3 ce).bind λy st4=>.ok (AA y) st4) (.ok AD st3))=one at h1
  cases e:ya0 one xs st1 with
  |exc k s=>rw[e]at h1;exact h1.elim
  |bad=>rw[e]at h1;exact h1.elim
  |ok zs st5=>
   rw[e]at h1;erw[ycd]at h1;split at h1
   case isFalse=>exact h1.elim
   rename_i hz;have nB:¬B D:=rs1.nB hD;have nD:AA D∉φ1:=λz=>by
    let⟨w,e⟩:=rs1.there z;rw[hD]at e;cases e
   refine⟨λi m σc ys H2=>∃φ2 st2 vs rest,i+m=xs.length/\Step φ1 H1 φ2 H2/\H2 D=AA (.lst ys)/\AA D∉φ2/\yF X.K S.cl (Bx B D) φ2 H2 st2/\yU X.K S.cl (Bx B D) φ2 H2 (sl.map λo=>o.bind λj=>(ρ[j]?).join) σc /\
     yg X.K S.cl (Bx B D) φ2 H2 vs ys/\ya0 one (xs.drop i) st2=.ok rest st5/\vs++rest=zs,
    ⟨xs.length,φ1,st1,[],zs,by lia,.upd hD,zu,nD,rs1.more hD,(yU.inn (re.step s1)).more hD,by erw[yg],by simpa using e,rfl⟩,?_⟩
   rintro i m σc ys H2 ⟨φ2,st2,vs,rest,hm,s2,hD2,nD2,rs2,re2,l2,ec,ez⟩
   refine⟨hD2,?_⟩
   by_cases hi:i<xs.length
   .have hl2:=l2.length;have hml:=ycl;have hzl:=congrArg Cc ez;rw[Af]at hzl;refine .inr ⟨dr.go i φ2 H2 s2 hi,by lia,λσ' ys' H'=>∃φ2 st2 vs rest,Step φ1 H1 φ2 H'/\H' D=AA (.lst ys')/\AA D∉φ2/\yF X.K S.cl (Bx B D) φ2 H' st2/\yU X.K S.cl (Bx B D) φ2 H' (sl.map λo=>o.bind λj=>(ρ[j]?).join) σ' /\
     yg X.K S.cl (Bx B D) φ2 H' vs ys'/\ya0 one (xs.drop (i+1)) st2=.ok rest st5/\vs++rest=zs,λσ' ys' H' ⟨φ2,st2,vs,rest,q⟩=>⟨m-1,by lia,φ2,st2,vs,rest,by lia,q⟩,λx H3 hy=>?_⟩
    let⟨v,hv,rv,kk⟩:=dr.yld i φ2 H2 st2 x H3 (Bx B D) (λy z=>z.elim .inl λq=>.inr (q ▸ hD)) s2 rs2 hi hy;have s3:Step φ2 H2 φ2 H3:=⟨λb o _ e=>kk b o e,AT _,λ_ _ _ e=>e,λ_ h=>.inl h⟩;have rs3:yF X.K S.cl (Bx B D) φ2 H3 st2:=rs2.same kk;have ed:xs.drop i=v::xs.drop (i+1):=by
     rw[Eb hi];rw[By hi]at hv;rw[AZ hv]
    rw[ed,ya0]at ec;let⟨o,st3,e1,ec⟩:=za7 ec;let⟨rest',st4,e2,ec⟩:=za7 ec;rw[<-hone]at e1;dsimp only at e1
    cases eb:yR ct v (sl.map λo=>o.bind λj=>(ρ[j]?).join)with
    |none=>rw[eb]at e1;cases e1
    |some ρ1=>
     rw[eb]at e1;dsimp only at e1;let⟨bv,st6,e3,e1⟩:=za7 e1;let⟨k,e4,e1⟩:=znN e1;have er:st4=st5/\yb7 o rest'=rest:=by
      injection ec with q1 q2;exact⟨q2,q1⟩
     let⟨rfl,rfl⟩:=er;refine⟨Bx B D,φ2,st2,_,v,ρ1,rs3,re2.step s3,rv,eb,λσ4 re4=>⟨Bx B D,φ2,st2,ρ1,rs3,re4,?_⟩⟩;have et:ybg (ev S.call ρ1 st2 cc)=.ok k st6:=by
      rw[e3];erw[ybg,R.bind,e4,onO]
     rw[et]
     rintro k' H5 φ5 s5 rs5 rfl
     have nD5:AA D∉φ5:=λz=>by
      rcases s5.new D z with q|q
      .exact nD2 q
      .rw[kk D _ hD2]at q;cases q
     have hD5:H5 D=AA (.lst ys):=s5.keep D _ nD2 (kk D _ hD2);have s25:Step φ1 H1 φ5 H5:=s2.trans (s3.trans s5);have l5:=(l2.step s3).step s5;have re5:yU X.K S.cl (Bx B D) φ5 H5 ρ1 σ4:=re4.step s5;have h0:∀(i:Nat),sl[i]?=AA AD->(sl.map λo=>o.bind λj=>(ρ[j]?).join)[i]?=AA none:=λi q=>by
      rw[Bt,q];rfl
     cases k with
     |false=>
      erw[cond_false]at e1
      cases e1
      exact⟨φ5,_,vs,rest',s25,hD5,nD5,rs5,yU.untgt hf h0 eb re5,l5,e2,ez⟩
     |true=>
      erw[cond_true]at e1;let⟨y,st7,e5,e1⟩:=za7 e1
      cases e1
      refine⟨Bx B D,φ5,st6,ρ1,rs5,re5,?_⟩;rw[e5];intro y' H6 φ6 s6 rs6 ry;have nD6:AA D∉φ6:=λz=>by
       rcases s6.new D z with q|q
       .exact nD5 q
       .rw[hD5]at q;cases q
      have hD6:H6 D=AA (.lst ys):=s6.keep D _ nD5 hD5;have hBD:Bx B D D:=.inr rfl;refine⟨hD6,φ6,_,vs++[y],rest',?_,zu,nD6,rs6.skip hBD,(yU.untgt hf h0 eb (re5.step s6)).skip hBD,((l5.step s6).append (by erw[yg];exact⟨y',[],rfl,ry,rfl⟩)).skip hBD,e2,?_⟩
      .have s16:=s25.trans s6;exact⟨λb o n q=>by rw[zk (zq q hD)];exact s16.keep b o n q,s16.len,s16.pre,s16.new⟩
      .simpa [yb7] using ez
   .have ei:i=xs.length:=by lia
    subst ei;rw[G6,ya0]at ec
    cases ec
    refine .inl ⟨dr.stop φ2 H2 s2,h1 (.ref D) H2 φ2 s2 rs2.less ?_⟩;erw[yd];exact⟨D,ys,rfl,⟨hD2,nB,nD2⟩,by rw[<-ez,BD];exact l2.less⟩
theorem zly{sc:Br}{NC:List AS}{sl:List (Option Nat)}{ifs:List AW}(hc:X.calm=AB)(O:yav X sc NC sl)(hf:yaH ct sl=AB)(hi:PI X tg iter (tI S X ci))(hg:∀j,PG (cxC X sc NC j) tg (tG0 S X.K ct))
  (ht:∀j,PTs (cxC X sc NC j) ifs (tT0 S X.K cc)) (he:∀j,PE (cxC X sc NC j) elt (tE0 S X.K ce)) (hs:∀x,foldedSetIterable iter X.env x=pure x:=by intro _;rfl):
  PE X (.ListComp elt [⟨tg,iter,ifs,0⟩] sc pos) (tE S X (.comp sl ct ci cc ce)):=
 (zlu hc O hi hg ht he hs).imp λσ H Q h=>zi4 hf h
end
end L2
namespace IC
open PySem
def RLe{α:Type}(r q:R α):Prop:=r=.bad \/ r=q
def FLe(f g:Fl):Prop:=f=.bad \/ f=g
abbrev Cl:=Nat->List PV->SO->R PV
def CLe(c d:Cl):Prop:=∀f a s,RLe (c f a s) (d f a s)
theorem RLe.rfl{α:Type}{r:R α}:RLe r r:=.inr (DW _)
theorem FLe.rfl{f:Fl}:FLe f f:=.inr (DW _)
theorem RLe.bind{α β:Type}{r q:R α}{k l:α->SO->R β}(h:RLe r q)(hk:∀a s,RLe (k a s) (l a s)):RLe (r.bind k) (q.bind l):=by
 rcases h with h|h
 .subst h;exact .inl (DW _)
 .subst h
  cases r with
  |ok a s=>exact hk a s
  |exc c s=>exact .rfl
  |bad=>exact .rfl
theorem RLe.fl{α:Type}{r q:R α}{ρ:Env}{k l:α->SO->Fl}(h:RLe r q)(hk:∀a s,FLe (k a s) (l a s)):FLe (r.fl ρ k) (q.fl ρ l):=by
 rcases h with h|h
 .subst h;exact .inl (DW _)
 .subst h
  cases r with
  |ok a s=>exact hk a s
  |exc c s=>exact .rfl
  |bad=>exact .rfl
theorem RLe.comp{r q:R (List PV)}(h:RLe r q):RLe (ycd r) (ycd q):=by
 rcases h with h|h
 .subst h;exact .inl (DW _)
 .subst h;exact .rfl
theorem zhq{α:Type}{x:PV}{k l:Bool->R α}(h:∀b,RLe (k b) (l b)):RLe (onBl x k) (onBl x l):=by
 cases x with
 |bl b=>exact h b
 |_=>exact .rfl
theorem zfc{α:Type}{x:Option Bool}{k l:Bool->R α}(h:∀b,RLe (k b) (l b)):RLe (onO x k) (onO x l):=by
 cases x with
 |some b=>exact h b
 |none=>exact .rfl
theorem zld{x:Option Bool}{k l:Bool->Fl}(h:∀b,FLe (k b) (l b)):FLe (onF x k) (onF x l):=by
 cases x with
 |some b=>exact h b
 |none=>exact .rfl
theorem znd{α:Type}{x:Option (Option Int)}{k l:Option Int->R α}(h:∀b,RLe (k b) (l b)):RLe (onP x k) (onP x l):=by
 cases x with
 |some b=>exact h b
 |none=>exact .rfl
theorem zc0{α:Type}{b:Bool}{r q r' q':R α}(h:RLe r q)(h':RLe r' q'):RLe (cond b r r') (cond b q q'):=by
 cases b
 .exact h'
 .exact h
theorem zgd{b:Bool}{r q r' q':Fl}(h:FLe r q)(h':FLe r' q'):FLe (cond b r r') (cond b q q'):=by
 cases b
 .exact h'
 .exact h
theorem zcN{f g:PV->SO->R (Option PV)}(h:∀x s,RLe (f x s) (g x s)):∀xs s,RLe (ya0 f xs s) (ya0 g xs s)
 |[],s=>.rfl
 |x::xs,s=>(h x s).bind λo s1=>(zcN h xs s1).bind λys s2=>.rfl
theorem zdd{f g:Fl}{k l:Env->SO->Fl}(h:FLe f g)(hk:∀ρ s,FLe (k ρ s) (l ρ s)):FLe (yaG f k) (yaG g l):=by
 rcases h with h|h
 .subst h;exact .inl (DW _)
 .subst h
  cases f with
  |nx ρ s=>exact hk ρ s
  |ct ρ s=>exact hk ρ s
  |_=>exact .rfl
theorem zet{t:Tg}{f g:Env->SO->Fl}(h:∀ρ s,FLe (f ρ s) (g ρ s)):∀xs ρ s,FLe (forL t f xs ρ s) (forL t g xs ρ s)
 |[],ρ,s=>.rfl
 |x::xs,ρ,s=>by
  unfold forL
  cases yR t x ρ with
  |none=>exact .rfl
  |some ρ1=>exact zdd (h ρ1 s) λρ2 s2=>zet h xs ρ2 s2
theorem zeX{t u:Env->SO->R PV}{f g:Env->SO->Fl}(ht:∀ρ s,RLe (t ρ s) (u ρ s))(h:∀ρ s,FLe (f ρ s) (g ρ s)):∀n ρ s,FLe (yax t f n ρ s) (yax u g n ρ s)
 |0,ρ,s=>.rfl
 |n+1,ρ,s=>by
  unfold yax;exact(ht ρ s).fl λx s1=>zld λb=>zgd (zdd (h ρ s1) λρ2 s2=>zeX ht h n ρ2 s2) .rfl
mutual
theorem zj{c d:Cl}(h:CLe c d):∀(e:Ce) (ρ:Env) (s:SO),RLe (ev c ρ s e) (ev d ρ s e)
 |.cst v,ρ,s=>by exact .rfl
 |.var i,ρ,s=>by exact .rfl
 |.bin o a b,ρ,s=>by
  exact(zj h a ρ s).bind λx s1=>(zj h b ρ s1).bind λy s2=>.rfl
 |.neg a,ρ,s=>by
  exact(zj h a ρ s).bind λx s1=>.rfl
 |.not a,ρ,s=>by
  exact(zj h a ρ s).bind λx s1=>.rfl
 |.and a b,ρ,s=>by
  refine(zj h a ρ s).bind λx s1=>?_;exact zhq λk=>zc0 (zj h b ρ s1) .rfl
 |.or a b,ρ,s=>by
  refine(zj h a ρ s).bind λx s1=>?_;exact zhq λk=>zc0 .rfl (zj h b ρ s1)
 |.cmp o a b,ρ,s=>by
  exact(zj h a ρ s).bind λx s1=>(zj h b ρ s1).bind λy s2=>.rfl
 |.chain o p a b k,ρ,s=>by
  refine(zj h a ρ s).bind λx s1=>(zj h b ρ s1).bind λy s2=>?_;exact zfc λq=>zc0 ((zj h k ρ s2).bind λz s3=>.rfl) .rfl
 |.ite k a b,ρ,s=>by
  exact(zj h k ρ s).bind λx s1=>zfc λq=>zc0 (zj h a ρ s1) (zj h b ρ s1)
 |.tup es,ρ,s=>by
  exact(zaP h es ρ s).bind λx s1=>.rfl
 |.lst es,ρ,s=>by
  exact(zaP h es ρ s).bind λx s1=>.rfl
 |.newl es,ρ,s=>by
  exact(zaP h es ρ s).bind λx s1=>.rfl
 |.dict0 t,ρ,s=>by exact .rfl
 |.idx a i,ρ,s=>by
  exact(zj h a ρ s).bind λx s1=>(zj h i ρ s1).bind λy s2=>.rfl
 |.slc a l u,ρ,s=>by
  exact(zj h a ρ s).bind λx s1=>(zj h l ρ s1).bind λy s2=>znd λo=>(zj h u ρ s2).bind λz s3=>.rfl
 |.call f es,ρ,s=>by
  exact(zaP h es ρ s).bind λx s1=>h f x s1
 |.blt b es,ρ,s=>by
  exact(zaP h es ρ s).bind λx s1=>.rfl
 |.mth m o es,ρ,s=>by
  exact(zj h o ρ s).bind λx s1=>zfc λ_=>(zaP h es ρ s1).bind λy s2=>.rfl
 |.isi a ts,ρ,s=>by
  exact(zj h a ρ s).bind λx s1=>.rfl
 |.comp sl tg it k e,ρ,s=>by
  refine(ziL h it ρ s).bind λxs s1=>?_;have q:=λ(f g:PV->SO->R (Option PV)) (hfg:∀x s,RLe (f x s) (g x s))=>zcN hfg xs s1;refine RLe.comp (zcN (λx s2=>?_) xs s1)
  cases yR tg x _ with
  |none=>exact .rfl
  |some ρ1=>
   dsimp only;exact(zj h k ρ1 s2).bind λb s3=>zfc λq=>zc0 ((zj h e ρ1 s3).bind λy s4=>.rfl) .rfl
 |.nope,ρ,s=>by exact .rfl
 |.frz a,ρ,s=>by
  exact(zj h a ρ s).bind λx s1=>.rfl
 |.dix D a,ρ,s=>by
  exact(zj h a ρ s).bind λx s1=>.rfl
 |.din a D,ρ,s=>by
  exact(zj h a ρ s).bind λx s1=>.rfl
 |.fld q a f,ρ,s=>by
  exact(zj h a ρ s).bind λx s1=>.rfl
 |.new q i es,ρ,s=>by
  refine(zaP h es ρ s).bind λx s1=>RLe.bind ?_ λv s2=>.rfl;rcases h i (.loc s1.length::x) (s1++[.ins q []])with e|e
  .rw[e];exact .inl (DW _)
  .rw[e];exact .rfl
 |.mcl q i m o es,ρ,s=>by
  exact(zj h o ρ s).bind λx s1=>zfc λ_=>(zaP h es ρ s1).bind λy s2=>h i (x::y) s2
theorem zaP{c d:Cl}(h:CLe c d):∀(e:Ces) (ρ:Env) (s:SO),RLe (evs c ρ s e) (evs d ρ s e)
 |.nil,ρ,s=>by exact .rfl
 |.cons e es,ρ,s=>by
  exact(zj h e ρ s).bind λx s1=>(zaP h es ρ s1).bind λy s2=>.rfl
theorem ziL{c d:Cl}(h:CLe c d):∀(e:Cit) (ρ:Env) (s:SO),RLe (evi c ρ s e) (evi d ρ s e)
 |.seq e,ρ,s=>by
  exact(zj h e ρ s).bind λx s1=>.rfl
 |.range1 a,ρ,s=>by
  exact(zj h a ρ s).bind λx s1=>.rfl
 |.range2 a b,ρ,s=>by
  exact(zj h a ρ s).bind λx s1=>(zj h b ρ s1).bind λy s2=>.rfl
 |.rangeD a b,ρ,s=>by
  exact(zj h a ρ s).bind λx s1=>(zj h b ρ s1).bind λy s2=>.rfl
 |.enum e,ρ,s=>by
  exact(zj h e ρ s).bind λx s1=>.rfl
 |.zip a b,ρ,s=>by
  exact(zj h a ρ s).bind λx s1=>(zj h b ρ s1).bind λy s2=>.rfl
 |.revl e,ρ,s=>by
  exact(zj h e ρ s).bind λx s1=>.rfl
 |.revr e,ρ,s=>by
  exact(zj h e ρ s).bind λx s1=>.rfl
 |.chars e,ρ,s=>by
  exact(zj h e ρ s).bind λx s1=>.rfl
end
mutual
theorem zp4{c d:Cl}(h:CLe c d):∀(x:Cs) (ρ:Env) (s:SO),FLe (ex c ρ s x) (ex d ρ s x)
 |.expr e,ρ,s=>by
  exact(zj h e ρ s).fl λx s1=>.rfl
 |.asg t e,ρ,s=>by
  exact(zj h e ρ s).fl λx s1=>.rfl
 |.six o i e,ρ,s=>by
  exact(zj h e ρ s).fl λx s1=>(zj h o ρ s1).fl λy s2=>(zj h i ρ s2).fl λz s3=>.rfl
 |.dput o i e,ρ,s=>by
  exact(zj h e ρ s).fl λx s1=>(zj h o ρ s1).fl λy s2=>(zj h i ρ s2).fl λz s3=>.rfl
 |.aug i o e,ρ,s=>by
  first|unfold ev|unfold ex|unfold evs|unfold evi|unfold exs
  split
  .exact(zj h e ρ s).fl λx s1=>.rfl
  .exact .rfl
 |.ret e,ρ,s=>by
  exact(zj h e ρ s).fl λx s1=>.rfl
 |.ite k a b,ρ,s=>by
  exact(zj h k ρ s).fl λx s1=>zld λq=>zgd (za1 h a ρ s1) (za1 h b ρ s1)
 |.for t it b,ρ,s=>by
  exact(ziL h it ρ s).fl λxs s1=>zet (λρ2 s2=>za1 h b ρ2 s2) xs ρ s1
 |.while k b,ρ,s=>by
  exact zeX (λρ2 s2=>zj h k ρ2 s2) (λρ2 s2=>za1 h b ρ2 s2) _ ρ s
 |.nope,ρ,s=>by exact .rfl
 |.mkr i D n es,ρ,s=>by
  refine(zj h n ρ s).fl λx s1=>?_;split
  .exact((zaP h es _ s1).bind λvs s2=>h _ vs s2).fl λv s3=>.rfl
  .exact .rfl
 |.sfl q o f e,ρ,s=>by
  exact(zj h e ρ s).fl λx s1=>(zj h o ρ s1).fl λy s2=>.rfl
theorem za1{c d:Cl}(h:CLe c d):∀(x:Css) (ρ:Env) (s:SO),FLe (exs c ρ s x) (exs d ρ s x)
 |.nil,ρ,s=>by exact .rfl
 |.cons x xs,ρ,s=>by
  first|unfold ev|unfold ex|unfold evs|unfold evi|unfold exs
  rcases zp4 h x ρ s with e|e
  .rw[e];exact .inl (DW _)
  .rw[e]
   cases ex d ρ s x with
   |nx ρ1 s1=>exact za1 h xs ρ1 s1
   |_=>exact .rfl
end
theorem zfq(T:Nat->Option Fn):∀k,CLe (yc T k) (yc T (k+1))
 |0,f,a,s=>.inl (DW _)
 |k+1,f,a,s=>by
  have h:=zfq T k;rw[yc,yc]
  cases T f with
  |none=>exact .rfl
  |some fn=>
   dsimp only;split
   .split
    .split
     .rcases za1 h fn.body (a.map AA++Au (fn.ns-fn.np) AD) []with e|e
      .rw[e];exact .inl (DW _)
      .rw[e];exact .rfl
     .exact .rfl
    .rcases za1 h fn.body (a.map AA++Au (fn.ns-fn.np) AD) s with e|e
     .rw[e];exact .inl (DW _)
     .rw[e];exact .rfl
   .exact .rfl
theorem zaw{T:Nat->Option Fn}{k:Nat}{f:Nat}{a:List PV}{s s':SO}{v:PV}(h:yc T k f a s=.ok v s'):∀j,yc T (k+j) f a s=.ok v s'
 |0=>h
 |j+1=>by
  have q:=zaw h j;rcases zfq T (k+j) f a s with e|e
  .rw[q]at e;cases e
  .rw[Dl]at e;rw[<-e];exact q
end IC
namespace L2
open PySem PySem.Spec PyProof.Rows IC
def spI(K:AE)(cl:Nat->AI)(call:Nat->List PV->SO->R PV)(f:Nat):Sp:=λvs H Q E=>∃B φ st args,yF K cl B φ H st/\yg K cl B φ H args vs/\match call f args st with
 |.ok v st'=>∀x H' φ',Step φ H φ' H'->yF K cl B φ' H' st'->yd K cl B φ' H' v x->Q x H'
 |.exc c st'=>∀H' φ',Step φ H φ' H'->yF K cl B φ' H' st'->E (.ref (cl c)) AD H'
 |.bad=>False
section
variable {S:Se}{X:Cx}{k:Nat}{f:AI}{fd:BK}{ps ks:List AS}{sp:Sp}{dvs:List V}{ds:List AG}{x:AS}{p pos:C1}{e:AW}{es:List AW}{t tk:TA}{CX:CXT}{σ:St}{H:Hp}
theorem zc8{pins:List (AI×CK)}{s:AJ}{Q:VK}{us:List AG}{vs:List V}{E:XK}(F:yaO X.prog X.w X.K X.mg X.base CX k f fd ps sp)(hr:yaB k X.A)(hb:Binds X.K fd ps ds)(hd:Vals dvs ds)
  (I:Inv X pins σ H s) (r:Vals vs us) (h:sp (vs++dvs) H Q E) (hx:∀e s',CX X.stack H s E e s'->X.xe e s'):A3 (model X.prog X.w) X.A (call (.ref f) us) (EP X pins σ Q) X.xe s:=by
 have r2:Vals (vs++dvs) (us++ds):=r.append hd;have hl:(us++ds).length=ps.length:=by rw[<-r2.length];exact F.len _ _ _ _ h
 refine Gq (EF (F.run X.A X.stack s H ⟨us,[]⟩ (us++ds) (vs++dvs) Q E hr I.env0 (hb s us I.kIn hl) r2 h) λr s' hq=>?_)
 cases r with
 |error e=>exact hx e s' hq
 |ok fl=>
  cases fl with
  |ret u=>exact I.after hq
  |next=>exact Bn hq
  |brk=>exact Bn hq
  |cont=>exact Bn hq
noncomputable def ycx(CX:CXT)(X:Cx)(sp:Sp)(dvs:List V)(t:TA):TE:=λσ H Q=>t σ H λvs H1=>∃E:XK,sp (vs++dvs) H1 Q E/\∀pins s e s',Inv X pins σ H1 s->CX X.stack H1 s E e s'->X.xe e s'
theorem zj6(F:yaO X.prog X.w X.K X.mg X.base CX k f fd ps sp)(hr:yaB k X.A)(hg:Gl X x)(hm:X.mg x=AA (.ref f))(hk:BA X.K (.ref f)=AB)(hb:Binds X.K fd ps ds)(hd:Vals dvs ds)
  (ha:PA X (e::es) t) (hdb:(x==("__debug__":AS))=false:=by decide) (he:starEach (e::es) X.env=(AC,eval e X.env)::starEach es X.env:=by rfl) (hpl:(backTo pos (starEach es X.env)).any (·.1)=false:=by rfl):
  PE X (.Call (.Name x p) (e::es) [] pos) (ycx CX X sp dvs t):=by
 intro pins s σ H Q I h;refine B8 (zdG I hg hm ?_ hdb);refine DJ (h₀:=X.base) I.ok.mod.kin hk (thn (ha pos pins s σ H _ I h) λus s1 kq=>?_) he hpl;let⟨vs,H1,I1,r,E,q,hx⟩:=kq;refine ⟨I1.kIn,?_⟩;exact zc8 F hr hb hd I1 r q λe s' c=>hx pins s1 e s' I1 c
theorem zhs(F:yaO X.prog X.w X.K X.mg X.base CX k f fd ps sp)(hr:yaB k X.A)(hg:Gl X x)(hm:X.mg x=AA (.ref f))(hk:BA X.K (.ref f)=AB)(hb:Binds X.K fd ps ds)(hd:Vals dvs ds)
  (hdb:(x==("__debug__":AS))=false:=by decide):PE X (.Call (.Name x p) [] [] pos) (ycx CX X sp dvs yds):=by
 intro pins s σ H Q I h;let⟨E,q,hx⟩:=h;refine B8 (zdG I hg hm ?_ hdb);exact Ff I.kIn hk (zc8 F hr hb hd I .nil q λe s' c=>hx pins s e s' I c)
variable {B:AI->Prop}{φ:Ph}{st:SO}{ces:Ces}{fi:Nat}
theorem zbb{vs:List PV}{xs:List V}{Q:VK}(rs:yF X.K S.cl B φ H st)(l:yg X.K S.cl B φ H vs xs)(h:Run S X σ B φ H (RV S X B) (S.call fi vs st) Q):
  ∃E:XK,spI X.K S.cl S.call fi xs H Q E/\∀pins s e s',Inv X pins σ H s->CX1 X.prog X.w X.stack H s E e s'->X.xe e s':=by
 cases c:S.call fi vs st with
 |ok v st'=>
  rw[c]at h;refine⟨λ_ _ _=>False,⟨B,φ,st,vs,rs,l,by rw[c];exact h⟩,λpins s e s' _ z=>?_⟩;let⟨_,_,_,_,_,_,_,_,_,_,_,_,_,_,z⟩:=z;exact z.elim
 |exc k st'=>
  rw[c]at h;refine⟨λcls _ H'=>cls=.ref (S.cl k)/\∃φ',Step φ H φ' H'/\yF X.K S.cl B φ' H' st',⟨B,φ,st,vs,rs,l,by rw[c];exact λH' φ' s r=>⟨rfl,φ',s,r⟩⟩,λpins s e s' I z=>h e s' (.inl ⟨pins,H,s,φ,I,.rfl,z⟩)⟩
 |bad=>rw[c]at h;exact h.elim
theorem zmk(F:yaO X.prog X.w X.K X.mg X.base (CX1 X.prog X.w) k f fd ps (spI X.K S.cl S.call fi))(hr:yaB k X.A)(hg:Gl X x)(hm:X.mg x=AA (.ref f))(hk:BA X.K (.ref f)=AB)(hb:Binds X.K fd ps [])
  (ha:PA X (e::es) (tAs S X ces)) (hdb:(x==("__debug__":AS))=false:=by decide) (he:starEach (e::es) X.env=(AC,eval e X.env)::starEach es X.env:=by rfl) (hpl:(backTo pos (starEach es X.env)).any (·.1)=false:=by rfl):
  PE X (.Call (.Name x p) (e::es) [] pos) (tE S X (.call fi ces)):=
 (zj6 F hr hg hm hk hb .nil ha hdb he hpl).imp λσ H Q ⟨B,φ,st,ρ,rs,re,h⟩=>by
  erw[ev]at h;refine tAs.bind rs re h λxs H1 vs st1 φ1 s1 rs1 re1 rv h1=>?_;rw[BD];exact zbb rs1 rv h1
theorem zjD(F:yaO X.prog X.w X.K X.mg X.base (CX1 X.prog X.w) k f fd ps (spI X.K S.cl S.call fi))(hr:yaB k X.A)(hg:Gl X x)(hm:X.mg x=AA (.ref f))(hk:BA X.K (.ref f)=AB)(hb:Binds X.K fd ps [])
  (hdb:(x==("__debug__":AS))=false:=by decide):PE X (.Call (.Name x p) [] [] pos) (tE S X (.call fi .nil)):=
 (zhs F hr hg hm hk hb .nil hdb).imp λσ H Q ⟨B,φ,st,ρ,rs,re,h⟩=>by
  erw[ev,evs,R.bind]at h;exact zbb rs (by erw[yg];rfl) h
end
section
variable {P:Aa}{w:Ao}{K:AE}{mg:AS->Option AG}{base:BI}{cl:Nat->AI}{T:Nat->Option IC.Fn}{fi:Nat}{fn:IC.Fn}{x qual:AS}{stm:CF}{f:AI}{fd:BK}{N ps:List AS}{k:Nat}
theorem CX1.mono{outer:List B7}{H:Hp}{s:AJ}{E E':XK}{e:AG}{s':AJ}(h:CX1 P w outer H s E e s')(n:∀cls H',E cls AD H'->E' cls AD H'):CX1 P w outer H s E' e s':=by
 let⟨a,cls,a0,H',Bh,r1,r2,r3,r4,r5,r6,r7,r8,r9,r10⟩:=h;exact⟨a,cls,a0,H',Bh,r1,r2,r3,r4,r5,r6,r7,r8,r9,n _ _ r10⟩
theorem yU.start{B:AI->Prop}{φ:Ph}{H:Hp}{args:List PV}{vs:List V}(l:yg K cl B φ H args vs)(n:Nat)(hn:N.length-vs.length=n):yU K cl B φ H (args.map AA++Au n AD) (L2.start N vs):=by
 have hl:=l.length;unfold L2.start;refine⟨by simp[hl,hn],λi v e=>?_⟩
 by_cases hi:i<args.length
 .rw[Am (by simpa using hi),Bt]at e
  cases q:args[i]? with
  |none=>rw[q]at e;cases e
  |some v'=>
   rw[q]at e
   cases e
   let⟨y,hy,rv⟩:=l.get i q;exact⟨y,by rw[Am (by simp;lia),Bt,hy];rfl,rv⟩
 .rw[Av (by simp;lia),Ew]at e;split at e<;>cases e
theorem leave{N:List AS}{scope:Br}{cd:AG}{A:Ay}{outer:List B7}{s₀:AJ}{H₀:Hp}{E:XK}{call:Nat->List PV->SO->R PV}{σ:St}{B:AI->Prop}{φ:Ph}{H:Hp}{c:Nat}{st':SO}{e:AG}{s':AJ}
  (h:ExcAt ⟨cl,call,AB⟩ (ya4 (CX1 P w) P w K mg base N qual scope f cd A outer s₀ H₀ E) σ B φ H c st' e s') (n:∀φ' H',Step φ H φ' H'->yF K cl B φ' H' st'->E (.ref (cl c)) AD H'):
  (ya4 (CX1 P w) P w K mg base N qual scope f cd A outer s₀ H₀ E).xe e s':=by
 rcases h with⟨pins,H1,s,φ1,I,s1,q⟩|⟨_,pins,H1,s,φ1,h',e0,vs,I,s1,rs,mk,rfl,rfl⟩|⟨_,pins,H1,s,I,q⟩
 .exact yew pins σ H1 s e s' I (q.mono λcls H' ⟨e1,φ',s2,r⟩=>by subst e1;exact n φ' H' (s1.trans s2) r)
 .exact ziR I mk (n φ1 H1 s1 rs)
 .exact yeW I (q.mono λcls H' ⟨e1,φ',s2,r⟩=>by subst e1;exact n φ' H' s2 r)
theorem zkV(hT:T fi=AA fn):∀(args:List PV) (st:SO),yc T (k+1) fi args st ≠ .bad->args.length=fn.np:=λargs st hne=>by
 apply Classical.byContradiction;intro c;apply hne;rw[yc,hT];exact if_neg c
theorem zor(hT:T fi=AA fn)(hnp:ps.length=fn.np){vs:List V}{H:Hp}{Q:VK}{E:XK}(h:spI K cl (yc T (k+1)) fi vs H Q E):vs.length=ps.length:=by
 let⟨B,φ,st,args,rs,l,h⟩:=h;rw[hnp,<-l.length];refine zkV (k:=k) hT args st λz=>?_;rw[z]at h;exact h
theorem zlA(hT:T fi=AA fn)(hns:N.length=fn.ns){scope:Br}{cdv:AG}{A:Ay}{outer:List B7}{s:AJ}{vs:List V}{H:Hp}{Q:VK}{E:XK}(h:spI K cl (yc T (k+1)) fi vs H Q E):
  tSs ⟨cl,yc T k,AB⟩ (ya4 (CX1 P w) P w K mg base N qual scope f cdv A outer s H E) fn.body {nx:=λ_ H'=>Q .non H',rt:=Q} (L2.start N vs) H:=by
 let⟨B,φ,st,args,rs,l,h⟩:=h;have hl:args.length=fn.np:=zkV (k:=k) hT args st λz=>by rw[z]at h;exact h
 have hlen:=l.length;rw[yc,hT]at h;dsimp only at h;rw[if_pos hl]at h
 by_cases hp:fn.pure=AB
 .rw[if_pos hp]at h
  by_cases hz:nLs args=AB
  .rw[if_pos hz]at h;have rs0:yF K cl (λa=>B a \/ AA a∈φ) [] H []:=⟨rfl,λm n a e=>by simp at e,λn a e=>by simp at e,λn o e=>by simp at e,λa z=>by simp at z,λa z=>z.elim (rs.dom a) rs.there⟩;have back:∀{φ':Ph} {H':Hp},Step [] H φ' H'->Step φ H φ H'/\yF K cl B φ H' st:=λ{φ' H'} s'=>
    have kk:∀b o,H b=AA o->H' b=AA o:=λb o e=>s'.keep b o (by simp) e
    ⟨⟨λb o _ e=>kk b o e,AT _,λ_ _ _ e=>e,λ_ h=>.inl h⟩,rs.same kk⟩
   refine⟨_,[],[],_,rs0,yU.start (yg.inn rs.nb args vs hz l) (fn.ns-fn.np) (by lia),?_⟩;show yaM _ _ _ _ _ (exs (yc T k) (args.map AA++Au (fn.ns-fn.np) AD) [] fn.body) _
   cases e:exs (yc T k) (args.map AA++Au (fn.ns-fn.np) AD) [] fn.body with
   |nx ρ' st'=>
    rw[e]at h;intro σ' H' φ' s' rs' re';let⟨s2,r2⟩:=back s';exact h .non H' φ s2 r2 (by erw[yd])
   |rt v st'=>
    rw[e]at h;dsimp only at h
    by_cases hv:nL v=AB
    .rw[if_pos hv]at h;intro y H' φ' s' rs' rv;let⟨s2,r2⟩:=back s';exact h y H' φ s2 r2 (yd.out v y hv rv)
    .rw[if_neg hv]at h;exact h.elim
   |exc c ρ' st'=>
    rw[e]at h;intro σ' φ1 H1 ev s' s1 _ ex;refine leave ex λφ2 H2 s2 _=>?_;let⟨s3,r3⟩:=back (s1.trans s2);exact h H2 φ s3 r3
   |bk ρ' st'=>rw[e]at h;exact h.elim
   |ct ρ' st'=>rw[e]at h;exact h.elim
   |bad=>rw[e]at h;exact h.elim
  .rw[if_neg hz]at h;exact h.elim
 .rw[if_neg hp]at h;refine⟨B,φ,st,_,rs,yU.start l (fn.ns-fn.np) (by lia),?_⟩;show yaM _ _ _ _ _ (exs (yc T k) (args.map AA++Au (fn.ns-fn.np) AD) st fn.body) _
  cases e:exs (yc T k) (args.map AA++Au (fn.ns-fn.np) AD) st fn.body with
  |nx ρ' st'=>
   rw[e]at h;intro σ' H' φ' s' rs' re';exact h .non H' φ' s' rs' (by erw[yd])
  |rt v st'=>
   rw[e]at h;intro y H' φ' s' rs' rv;exact h y H' φ' s' rs' rv
  |exc c ρ' st'=>
   rw[e]at h;intro σ' φ1 H1 ev s' s1 _ ex;exact leave ex λφ2 H2 s2 r2=>h H2 φ2 (s1.trans s2) r2
  |bk ρ' st'=>rw[e]at h;exact h.elim
  |ct ρ' st'=>rw[e]at h;exact h.elim
  |bad=>rw[e]at h;exact h.elim
end
noncomputable def tyN:Ty->String
 |.int=>"int" | .bool=>"bool" | .str=>"str" | .tuple=>"tuple" | .list=>"list" | _=>""
structure yeJ(K:AE)(t:Ty):Prop where
 n:B9 K (.type "NoneType") (.type (tyN t))=AA (ybC .non t)
 b:B9 K (.type "bool") (.type (tyN t))=AA (ybC (.bl AB) t)
 i:B9 K (.type "int") (.type (tyN t))=AA (ybC (.int 0) t)
 s:B9 K (.type "str") (.type (tyN t))=AA (ybC (.str G0) t)
 p:B9 K (.type "tuple") (.type (tyN t))=AA (ybC (.tp AB []) t)
 l:B9 K (.type "list") (.type (tyN t))=AA (ybC (.lst []) t)
section
variable {S:Se}{X:Cx}{σ:St}{B:AI->Prop}{φ:Ph}{H:Hp}{st:SO}{p pos p2 px:C1}{a b c d o:AW}{ca cb cc:Ce}{t:Ty}
def yfI(S:Se)(X:Cx)(t:Ty):List V->Hp->VK->Prop:=λxs H Q=>∃B φ st v x z,xs=[x,.ty (tyN t)]/\yF X.K S.cl B φ H st/\yd X.K S.cl B φ H v x/\ya2 v [t]=AA z/\ydB t=AB /\
 ∀z' H' φ',Step φ H φ' H'->yF X.K S.cl B φ' H' st->yd X.K S.cl B φ' H' z z'->Q z' H'
theorem znh(Z:yeJ X.K t):yat X (.builtin "isinstance") (yfI S X t):=by
 rintro pins s σ H xs us Q I r ⟨B,φ,st,v,x,z,rfl,rs,rv,e,hb,q⟩
 let⟨u,c',rfl,ru,rc⟩:=vals2 r
 cases (show c'=Fx (tyN t)from rc)
 have fin:∀(k:Bool) (tk:Nat),z=.bl k->EP X pins σ Q (.bool k) {s with toks:=tk}:=λk tk ez=>⟨.bl k,H,I.tok tk,rfl,q _ H φ .rfl rs (by subst ez;erw[yd])⟩
 cases v with
 |non=>
  erw[yd]at rv;subst rv
  cases (show u=CQ from ru)
  erw[ya2,hb,if_true]at e;exact Cj PySem.W.kitx_none I.kIn Cf Z.n (λz=>nomatch z) λtk=>fin _ tk (by cases e;cases t<;>rfl)
 |bl k=>
  erw[yd]at rv;subst rv
  cases (show u=EJ k from ru)
  erw[ya2,hb,if_true]at e;exact Cj PySem.W.kitx_bool I.kIn Cf Z.b (λz=>nomatch z) λtk=>fin _ tk (by cases e;cases t<;>rfl)
 |int k=>
  erw[yd]at rv;subst rv;let⟨tk,rfl⟩:=ru;erw[ya2,hb,if_true]at e;exact Cj PySem.W.kitx_int I.kIn Cf Z.i (λz=>nomatch z) λtk=>fin _ tk (by cases e;cases t<;>rfl)
 |str k=>
  erw[yd]at rv;subst rv;let⟨tk,rfl⟩:=ru;erw[ya2,hb,if_true]at e;exact Cj PySem.W.kitx_str I.kIn Cf Z.s (λz=>nomatch z) λtk=>fin _ tk (by cases e;cases t<;>rfl)
 |tp k vs=>
  erw[yd]at rv;let⟨y,ys,rfl,rt,l⟩:=rv
  cases (show u=An y from ru)
  erw[ya2,hb,if_true]at e;let⟨its,_,⟨o,g,c,_,_⟩,_⟩:=I.tuple rt.sq;exact Cj PySem.W.kitx_tuple I.kIn ⟨o,g,c⟩ Z.p (λz=>nomatch z) λtk=>fin _ tk (by cases e;cases t<;>rfl)
 |lst vs=>
  erw[yd]at rv;let⟨y,ys,rfl,rt,l⟩:=rv
  cases (show u=An y from ru)
  erw[ya2,hb,if_true]at e;let⟨_,_,n,_,h1⟩:=(show yag X.prog X.w H s.heap y (.lst ys)from I.hok y _ rt.1);exact Cj PySem.W.kitx_list I.kIn ⟨_,h1,rfl⟩ Z.l (λz=>nomatch z) λtk=>fin _ tk (by cases e;cases t<;>rfl)
 |loc n=>cases e
 |scr n=>cases e
 |exn n=>erw[ya2,Bj,List.all_nil,hb,Dm,if_true]at e;cases e
theorem zog{T:AS}(Z:yeJ X.K t)(ht:ydB t=AB)(hg:Gl X "isinstance")(hm:X.mg "isinstance"=AD)(hgT:Gl X T)(hmT:X.mg T=AD)(hT:bootBuiltins T=AA (.type (tyN t)))(ha:PE X a (tE S X ca))(hnT:T ≠ "__name__":=by decide)(hdT:(T==("__debug__":AS))=false:=by decide)
  (he:starEach [a,.Name T p2] X.env=(AC,eval a X.env)::starEach [.Name T p2] X.env:=by rfl) (hpl:(backTo pos (starEach [.Name T p2] X.env)).any (·.1)=false:=by rfl):
  PE X (.Call (.Name "isinstance" p) [a,.Name T p2] [] pos) (tE S X (.isi ca [t])):=
 (zgE (znh Z) hg hm Gi (zbO ha (zbO (zlE (v:=.ty (tyN t)) hgT hmT hT rfl hnT hdT) ybr) he) (by decide) (by decide) he hpl).imp λσ H Q ⟨B,φ,st,ρ,rs,re,h⟩=>by
  erw[ev]at h;refine tE.bind rs re h λx H1 v st1 φ1 s1 rs1 re1 rv h1=>?_;let⟨z,e,q⟩:=zas h1 rs1;exact⟨B,φ1,st1,v,x,z,rfl,rs1,rv,e,ht,q⟩
theorem zjX{st4:SO}{x y v:PV}(h:ybD st x y v=AA st4):∃n xs k j,x=.loc n/\st[n]?=AA (.lst xs)/\y=.int k/\ixI xs.length k=AA j/\st4=st.set n (.lst (xs.set j v)):=by
 cases x with
 |loc n=>
  erw[ybD]at h
  cases q:st[n]? with
  |none=>rw[q]at h;cases h
  |some o=>
   rw[q]at h
   cases o with
   |lst xs=>
    cases y with
    |int k=>
     dsimp only at h
     cases q2:ixI xs.length k with
     |none=>rw[q2]at h;cases h
     |some j=>rw[q2]at h;exact⟨n,xs,k,j,rfl,q,rfl,q2,(AZ h).symm⟩
    |_=>cases h
   |_=>cases h
 |_=>cases h
theorem yg.put{K:AE}{cl:Nat->AI}:∀{vs:List PV} {xs:List V} (j:Nat) {v:PV} {x:V},yg K cl B φ H vs xs->yd K cl B φ H v x->yg K cl B φ H (vs.set j v) (xs.set j x)
 |[],xs,j,v,x,l,r=>by erw[yg]at l;subst l;simp[yg]
 |w::vs,xs,0,v,x,l,r=>by
  erw[yg]at l;let⟨y,ys,rfl,_,l⟩:=l;erw[Ag,yg];exact⟨x,ys,rfl,r,l⟩
 |w::vs,xs,j+1,v,x,l,r=>by
  erw[yg]at l;let⟨y,ys,rfl,ry,l⟩:=l;erw[Ah,yg];exact⟨y,ys.set j x,rfl,ry,yg.put j l r⟩
theorem znm(he:PE X a (tE S X ca))(ho:PE X b (tE S X cb))(hi:PE X c (tE S X cc))(hs:swapsWithSole [.Subscript b c px] a pos.line X.env=pure false:=by rfl)(hw:swappedStores [.Subscript b c px] a X.env=pure none:=by rfl)
  (hg:PG X (.Subscript b c px) (yfl (tE S X cb) (tE S X cc) ydI):=by exact zk0 ‹_› ‹_› zf7):PS X (.Assign [.Subscript b c px] a pos) (tS S X (.six cb cc ca)):=
 (zkU he hg hs hw).imp λD σ H ⟨B,φ,st,ρ,rs,re,h⟩=>by
  erw[ex]at h;refine tE.fl rs re h λv' H1 v st1 φ1 s1 rs1 re1 rv h1=>tE.fl rs1 re1 h1 λx' H2 x st2 φ2 s2 rs2 re2 rx h2=>tE.fl rs2 re2 h2 λy' H3 y st3 φ3 s3 rs3 re3 ry h3=>?_
  cases e:ybD st3 x y v with
  |none=>rw[e]at h3;exact h3.elim
  |some st4=>
   rw[e]at h3;let⟨n,xs,k,j,rfl,hn,rfl,hj,rfl⟩:=zjX e;erw[yd]at ry;subst ry;let⟨l,ys,rfl,hp,hx,lr⟩:=rs3.list (rx.step s3) hn;refine⟨l,ys,k,j,rfl,rfl,hx,by rw[<-lr.length];exact hj,?_⟩;have s4:Step φ3 H3 φ3 (L2.upd H3 l (.lst (ys.set j v'))):=.put (A5 hp);exact h3 σ _ φ3 s4 (rs3.put hp ⟨_,zu,(lr.put j ((rv.step s2).step s3)).step s4⟩) (re3.step s4)
end
section
variable {S:Se}{X:Cx}{σ:St}{B:AI->Prop}{φ:Ph}{H:Hp}{st:SO}{p pos p2 px py pt pt2 apos:C1}{a b c d o:AW}{ca cb cc:Ce}{kt k2:Nat}
theorem znF{i j:Nat}{x y:AS}(hc:X.calm=AB)(hN:X.N.Nodup)(hi:X.N[i]?=AA x)(hj:X.N[j]?=AA y)(hij:i≠j)(h:PS X (.Assign [.Tuple [.Name x px,.Name y py] kt pt] (.Tuple [a,b] k2 pt2) pos) (yfp i j (tAs S X (.cons ca (.cons cb .nil))))):
  PS X (.Assign [.Tuple [.Name x px,.Name y py] kt pt] (.Tuple [a,b] k2 pt2) pos) (tS S X (.asg (.t [i,j]) (.tup (.cons ca (.cons cb .nil))))):=
 h.imp λD σ H ⟨B,φ,st,ρ,rs,re,h⟩=>by
  erw[ex,ev]at h;refine⟨B,φ,st,ρ,rs,re,?_⟩
  cases e:evs S.call ρ st (.cons ca (.cons cb .nil))with
  |bad=>rw[e]at h;exact h
  |exc k st'=>rw[e]at h;exact λe s' x=>h σ φ H e s' .rfl re x
  |ok vs st'=>
   rw[e]at h;intro xs H' φ' s rs' l;erw[R.bind]at h;split at h
   .rcases vs with _|⟨v,_|⟨w,_|⟨u,t⟩⟩⟩
    .exact h.elim
    .exact h.elim
    .let⟨v',w',rfl,rv,rw⟩:=l.two;refine⟨v',w',rfl,?_⟩;exact h _ H' φ' s rs' (((re.step s).set i rv).set j rw)
    .exact h.elim
   .exact h.elim
theorem zm8{bo:BOp}{v w z:PV}(h:ybS bo v w=AA z):∃i j,v=.int i/\w=.int j/\IC.binI bo i j=AA z:=by
 unfold ybS at h;split at h
 .exact⟨_,_,rfl,rfl,h⟩
 .cases h
theorem zlB:PIp X .Add (rT2 S X (ybS .add)):=by
 rintro pins s σ H x y v u Q I rx ry ⟨B,φ,st,a,b,z,rs,ra,rb,e,q⟩
 let⟨i,j,rfl,rfl,e⟩:=zm8 e
 cases e
 erw[yd]at ra rb;subst ra rb;exact zod pins s σ H _ _ v u Q I rx ry ⟨i,j,rfl,rfl,q _ H φ .rfl rs (by erw[yd])⟩
end
end L2
namespace WK
open PySem L2 IC
def GC(K:AE)(mg:AS->Option AG)(cl:Nat->AI)(x:AS)(v:PV):Prop:=∃y:AI,mg x=AA (.ref y)/\∀B φ H,yd K cl B φ H v (.ref y)
theorem zqe{S:Se}{X:Cx}{x:AS}{v:PV}{pos:C1}(hg:Gl X x)(h:GC X.K X.mg S.cl x v)(hd:(x==("__debug__":AS))=false:=by decide):PE X (.Name x pos) (tE S X (.cst v)):=by
 let⟨y,hm,hk⟩:=h;exact zmd hg hm hk hd
theorem zoM:bootBuiltins "int"=AA (.type "int"):=by decide +kernel
theorem zmo:bootBuiltins "bool"=AA (.type "bool"):=by decide +kernel
theorem zoU:bootBuiltins "str"=AA (.type "str"):=by decide +kernel
theorem zf6:bootBuiltins "tuple"=AA (.type "tuple"):=by decide +kernel
theorem zov:bootBuiltins "len"=AA (.builtin "len"):=by decide +kernel
theorem znO:bootBuiltins "min"=AA (.builtin "min"):=by decide +kernel
theorem zoe:bootBuiltins "max"=AA (.builtin "max"):=by decide +kernel
theorem znV:bootBuiltins "all"=AA (.builtin "all"):=by decide +kernel
theorem znE:bootBuiltins "sum"=AA (.builtin "sum"):=by decide +kernel
theorem zl4{k:Nat}{A:Ay}(r:yaB k A):A.units+1<cLine:=by have:=r.units;lia
end WK
namespace L2
open PySem PySem.Spec PyProof.Rows IC
noncomputable def shC:Sum Ce Int->Option Int
 |.inl _=>AD
 |.inr i=>AA i
noncomputable def yaY:List (Option Int)->List V->List V
 |[],_=>[]
 |some i::r,zs=>.int i::yaY r zs
 |none::r,z::zs=>z::yaY r zs
 |none::_,[]=>[]
noncomputable def pick:List (Option Int)->List V->List V
 |none::r,v::vs=>v::pick r vs
 |some _::r,_::vs=>pick r vs
 |_,_=>[]
noncomputable def nKw:List (Option Int)->Nat
 |[]=>0
 |none::r=>nKw r+1
 |some _::r=>nKw r
noncomputable def yc9:Ces->Nat
 |.nil=>0
 |.cons _ r=>yc9 r+1
def gK(np:Nat)(sh:List (Option Int))(vs zs:List V):List V:=if vs.length=np/\zs.length=nKw sh then vs++yaY sh zs else []
theorem ziB{call:Nat->List PV->SO->R PV}{ρ:IC.Env}:∀(a:Ces) {st st':SO} {vs:List PV},evs call ρ st a=.ok vs st'->vs.length=yc9 a
 |.nil,st,st',vs,h=>by erw[evs]at h;cases h;rfl
 |.cons e r,st,st',vs,h=>by
  erw[evs]at h
  cases q:ev call ρ st e with
  |ok v s1=>
   rw[q]at h;erw[R.bind]at h
   cases q2:evs call ρ s1 r with
   |ok ws s2=>
    rw[q2]at h
    cases h
    simp[yc9,ziB r q2]
   |exc c s=>rw[q2]at h;cases h
   |bad=>rw[q2]at h;cases h
  |exc c s=>rw[q]at h;cases h
  |bad=>rw[q]at h;cases h
theorem zhj{call:Nat->List PV->SO->R PV}{ρ:IC.Env}:∀(a b:Ces) (st:SO),evs call ρ st (yab a b)=(evs call ρ st a).bind λvs st1=>(evs call ρ st1 b).bind λws st2=>.ok (vs++ws) st2
 |.nil,b,st=>by
  erw[yab,evs,R.bind,BW]
  cases evs call ρ st b<;>rfl
 |.cons e r,b,st=>by
  erw[yab,evs]
  cases ev call ρ st e with
  |ok v st1=>
   erw[R.bind];rw[zhj r b st1]
   cases evs call ρ st1 r with
   |ok vs st2=>
    erw[R.bind]
    cases evs call ρ st2 b<;>rfl
   |exc c s=>rfl
   |bad=>rfl
  |exc c s=>rfl
  |bad=>rfl
section
variable {S:Se}{X:Cx}{k:Nat}{f:AI}{fd:BK}{ps ks:List AS}{sp:Sp}{x:AS}{p pos kpos:C1}{e:AW}{es:List AW}{kws:List C8}{nm:Option AS}{t tk:TA}{CX:CXT}{ca:Ce}{ces:Ces}{items:List (Sum Ce Int)}{g:List AG->List AG->List AG}{gV:List V->List V->List V}
theorem zcA{K:AE}{cl:Nat->AI}{B:AI->Prop}{φ:Ph}{H:Hp}{call:Nat->List PV->SO->R PV}{ρ:IC.Env}:∀(items:List (Sum Ce Int)) {st st':SO} {vs:List PV} {xs:List V},evs call ρ st (yw items)=.ok vs st'->yg K cl B φ H vs xs->yaY (items.map shC) (pick (items.map shC) xs)=xs/\(pick (items.map shC) xs).length=nKw (items.map shC)
 |[],st,st',vs,xs,h,l=>by
  erw[yw,evs]at h
  cases h
  erw[yg]at l;subst l;exact⟨rfl,rfl⟩
 |.inl c::r,st,st',vs,xs,h,l=>by
  erw[yw,evs]at h;let⟨v,s1,e1,h⟩:=za7 h;let⟨ws,s2,e2,h⟩:=za7 h
  cases h
  erw[yg]at l;let⟨y,ys,rfl,_,l⟩:=l;let⟨q1,q2⟩:=zcA r e2 l;erw[AL,shC,pick,yaY,nKw,AX,q1,q2];exact⟨trivial,trivial⟩
 |.inr i::r,st,st',vs,xs,h,l=>by
  erw[yw,evs,ev]at h;let⟨v,s1,e1,h⟩:=za7 h;let⟨ws,s2,e2,h⟩:=za7 h
  cases h
  cases e1
  erw[yg,yd]at l;let⟨y,ys,rfl,rfl,l⟩:=l;let⟨q1,q2⟩:=zcA r e2 l;erw[AL,shC,pick,yaY,nKw,q1,q2];exact⟨trivial,trivial⟩
def tK(S:Se)(X:Cx)(items:List (Sum Ce Int)):TA:=λσ H Q=>∃B φ st ρ,yF X.K S.cl B φ H st/\yU X.K S.cl B φ H ρ σ/\Run S X σ B φ H (RL S X B) (evs S.call ρ st (yw items)) λxs H'=>Q (pick (items.map shC) xs) H'
theorem PK.imp{t t':TA}(h:PK X kws t')(k:∀σ H Q,t σ H Q->t' σ H Q):PK X kws t:=λpos pins s σ H Q I q=>h pos pins s σ H Q I (k σ H Q q)
theorem zo3:PK X [] (tK S X []):=ydx.imp λσ H Q ⟨B,φ,st,ρ,rs,re,h⟩=>by
 erw[yw,evs]at h;exact h.ok rs (x:=[]) (by erw[yg])
theorem zpY{i:Int}(h:PK X kws (tK S X items)):PK X kws (tK S X (.inr i::items)):=h.imp λσ H Q ⟨B,φ,st,ρ,rs,re,h⟩=>by
 erw[yw,evs,ev,R.bind]at h;refine⟨B,φ,st,ρ,rs,re,?_⟩
 cases e:evs S.call ρ st (yw items)with
 |ok vs st'=>
  rw[e]at h;intro xs H' φ' s rs' l;exact h (.int i::xs) H' φ' s rs' (by erw[yg,yd];exact⟨_,_,rfl,rfl,l⟩)
 |exc c s=>rw[e]at h;exact h
 |bad=>rw[e]at h;exact h
theorem zql(ha:PE X e (tE S X ca))(h:PK X kws (tK S X items)):PK X (⟨nm,e,kpos⟩ :: kws) (tK S X (.inl ca::items)):=(zlG ha h).imp λσ H Q ⟨B,φ,st,ρ,rs,re,h⟩=>by
 erw[yw,evs]at h;refine tE.bind rs re h λx H1 v st1 φ1 s1 rs1 re1 rv h1=>⟨B,φ1,st1,ρ,rs1,re1,?_⟩;refine(Run.bind (Rel:=RL S X B) h1).mono λxs H2 kq=>?_;let⟨ws,st2,φ2,s2,rs2,l,h2⟩:=kq;exact h2.ok rs2 (x:=x::xs) (by erw[yg];exact⟨x,xs,rfl,rv.step s2,l⟩)
theorem zkG{fi:Nat}(F:yaO X.prog X.w X.K X.mg X.base (CX1 X.prog X.w) k f fd ps (spI X.K S.cl S.call fi))(hr:yaB k X.A)(hg:Gl X x)(hm:X.mg x=AA (.ref f))(hk:BA X.K (.ref f)=AB){np:Nat}(hb:∃g,ybM X.K fd ps ks g (gK np (items.map shC)))(hnp:yc9 ces=np)
  (ha:PA X (e::es) (tAs S X ces)) (hkw:PK X kws (tK S X items)) (hall:(backToKw pos (keywordEach kws X.env)).all (·.1.isSome)=true:=by rfl) (hks:(backToKw pos (keywordEach kws X.env)).filterMap (·.1)=ks:=by rfl)
  (hdb:(x==("__debug__":AS))=false:=by decide) (he:starEach (e::es) X.env=(AC,eval e X.env)::starEach es X.env:=by rfl)
  (hpl:((backTo pos (starEach (e::es) X.env)).any (·.1) || (backToKw pos (keywordEach kws X.env)).any (·.1.isNone))=false:=by rfl):
  PE X (.Call (.Name x p) (e::es) kws pos) (tE S X (.call fi (yab ces (yw items)))):=by
 intro pins s σ H Q I ⟨B,φ,st,ρ,rs,re,h⟩;erw[ev]at h;rw[zhj,R.bind_assoc]at h;refine B8 (zdG I hg hm ?_ hdb);have h0:tAs S X ces σ H λvs H1=>tK S X items σ H1 λzs H2=>∃E:XK,spI X.K S.cl S.call fi (gK np (items.map shC) vs zs) H2 Q E/\∀pins s e s',Inv X pins σ H2 s->CX1 X.prog X.w X.stack H2 s E e s'->X.xe e s':=by
  have hlen:∀vs st',evs S.call ρ st ces=.ok vs st'->vs.length=np:=λvs st' q=>(ziB ces q).trans hnp;refine⟨B,φ,st,ρ,rs,re,?_⟩
  cases q:evs S.call ρ st ces with
  |exc c s=>rw[q]at h;exact h
  |bad=>rw[q]at h;exact h
  |ok vs st1=>
  rw[q]at h;intro xs H1 φ1 s1 rs1 rv;have h1:=Run.on s1 h;have re1:=re.step s1;have hv:=hlen vs st1 q;refine⟨B,φ1,st1,ρ,rs1,re1,?_⟩;have h1:Run S X σ B φ1 H1 (RV S X B) (((evs S.call ρ st1 (yw items)).bind λa st=>(R.ok (vs++a) st:R (List PV))).bind λvs st1=>S.call fi vs st1) Q:=h1;rw[R.bind_assoc]at h1
  cases e:evs S.call ρ st1 (yw items)with
  |ok ws st2=>
   rw[e]at h1;intro ys H2 φ2 s2 rs2 l2;let⟨m1,m2⟩:=zcA items e l2;have eg:gK np (items.map shC) xs (pick (items.map shC) ys)=xs++ys:=by
    unfold gK;rw[if_pos ⟨by rw[<-rv.length];exact hv,m2⟩,m1]
   show ∃E:XK,spI X.K S.cl S.call fi (gK np (items.map shC) xs (pick (items.map shC) ys)) H2 Q E/\_;rw[eg];exact zbb rs2 ((rv.step s2).append l2) (Run.on s2 h1)
  |exc c s=>rw[e]at h1;exact h1
  |bad=>rw[e]at h1;exact h1
 refine PySem.W.callWith_KW (h₀:=X.base) I.ok.mod.kin hk hall (thn (ha pos pins s σ H _ I h0) λus s1 kq=>?_) hpl he;let⟨vs,H1,I1,r,q⟩:=kq;refine thn (hkw pos pins s1 σ H1 _ I1 q) λws s2 kq=>?_;let⟨zs,H2,I2,rz,E,q2,hx⟩:=kq;refine ⟨I2.kIn,?_⟩;rw[hks];let⟨g,hb⟩:=hb;have r2:=hb.rel r rz;have hl:(g us ws).length=ps.length:=by rw[<-r2.length];exact F.len _ _ _ _ q2
 refine Gq (EF (F.run X.A X.stack s2 H2 ⟨us,ks.zip ws⟩ (g us ws) (gK np (items.map shC) vs zs) Q E hr I2.env0 (hb.to s2 us ws I2.kIn hl) r2 q2) λr s' hq=>?_)
 cases r with
 |error e=>exact hx pins s2 e s' I2 hq
 |ok fl=>
  cases fl with
  |ret u=>exact I2.after hq
  |next=>exact Bn hq
  |brk=>exact Bn hq
  |cont=>exact Bn hq
end
noncomputable def ybe:List (Option Int)->List AG->List AG->List AG
 |[],_,_=>[]
 |some _::r,ws,d::ds=>d::ybe r ws ds
 |none::r,w::ws,_::ds=>w::ybe r ws ds
 |_,_,_=>[]
theorem zdo:∀(sh:List (Option Int)) (ds:List Int) {zs:List V} {ws us:List AG},Vals (ds.map V.int) us->Vals zs ws->sh.length=ds.length->(∀p∈sh.zip ds,∀i,p.1=AA i->i=p.2)->Vals (yaY sh zs) (ybe sh ws us)
 |[],ds,zs,ws,us,r,q,hl,h=>.nil
 |some i::r,[],zs,ws,us,rr,q,hl,h=>by simp at hl
 |some i::r,d::ds,zs,ws,_,.cons a b,q,hl,h=>by
  have:i=d:=h (AA i,d) (by simp) i rfl;subst this;exact .cons a (zdo r ds b q (by simpa using hl) λp hp=>h p (by simp[hp]))
 |none::r,[],zs,ws,us,rr,q,hl,h=>by simp at hl
 |none::r,d::ds,_,_,_,.cons a b,.nil,hl,h=>.nil
 |none::r,d::ds,_,_,_,.cons a b,.cons c q,hl,h=>.cons c (zdo r ds b q (by simpa using hl) λp hp=>h p (by simp[hp]))
structure FnD(K:AE)(mg:AS->Option AG)(x:AS)(st:CF)(ps:List AS)(ds:List Int)(f:AI)(fd:BK):Prop where
 ex:∃(oc:AG) (od:Option AI) (dT:AI) (kV doc pm:AG) (an:Option AI) (cdv ct:AG) (osl:Array (Option AG)) (o:CK) (its:Array AG) (n:Nat),
  fd=Bb x x (yan st) (yai st) (yM st) (.ref dT) kV doc pm an cdv ct/\K.lookup f=AA ⟨oc,od,.func fd,osl⟩/\CT K cdv x=AB/\K.lookup dT=AA o/\o.data=.seq its n/\Vals (ds.map V.int) its.toList
 kp:BA K (.ref f)=AB
 m:mg x=AA (.ref f)
theorem kbD{K:AE}{mg:AS->Option AG}{x:AS}{st:CF}{ps ks:List AS}{ds:List Int}{f:AI}{fd:BK}{np off:Nat}{sh:List (Option Int)}(D:FnD K mg x st ps ds f fd)(hnk:ks.length=nKw sh)(hsh:sh.length=(ds.drop off).length)(hd':((sh.zip (ds.drop off)).all λp=>p.1.all λi=>decide (i=p.2))=AB)
  (h:∀(dT:AI) (kV doc pm:AG) (an:Option AI) (cdv ct:AG) (us ws its:List AG),us.length=np->ws.length=ks.length->its.length=ds.length ->
   ∃k,bindArgs (Bb x x (yan st) (yai st) (yM st) (.ref dT) kV doc pm an cdv ct) ⟨us,ks.zip ws⟩=seqItems? (.ref dT) >>= k/\k (AA its.toArray)=pure (ps.zip (us++ybe sh ws (its.drop off)))) (hps:0<ps.length):
  ∃g,ybM K fd ps ks g (gK np sh):=by
 have hd:∀p∈sh.zip (ds.drop off),∀i,p.1=AA i->i=p.2:=λp hp i hi=>by
  have:=Bc.mp hd' p hp;rw[hi]at this;simpa using this
 let⟨oc,od,dT,kV,doc,pm,an,cdv,ct,osl,o,its,n,rfl,lk,hcd,lo,hs,r⟩:=D.ex;refine⟨λus ws=>if us.length=np/\ws.length=nKw sh then us++ybe sh ws (its.toList.drop off)else [],⟨λs us ws KX hl=>?_,λ{vs us zs ws} rv rz=>?_⟩⟩
 .by_cases c:us.length=np/\ws.length=nKw sh
  .rw[if_pos c]at hl ⊢;let⟨k,h1,h2⟩:=h dT kV doc pm an cdv ct us ws its.toList c.1 (by rw[hnk];exact c.2) (by rw[<-r.length,Ap]);exact BindsTo.of_defaults rfl (KX _ _ lo) hs h1 (by simpa using h2)
  .rw[if_neg c]at hl;simp at hl;lia
 .unfold gK;have e1:=rv.length;have e2:=rz.length
  by_cases c:us.length=np/\ws.length=nKw sh
  .rw[if_pos c,if_pos (by lia)];refine rv.append (zdo sh (ds.drop off) ?_ rz hsh hd);rw[List.map_drop];exact r.drop off
  .rw[if_neg c,if_neg (by lia)];exact .nil
section
variable {P:Aa}{w:Ao}{K:AE}{mg:AS->Option AG}{base:BI}{cl:Nat->AI}{T:Nat->Option IC.Fn}{fi:Nat}{fn:IC.Fn}{x:AS}{stm:CF}{f:AI}{fd:BK}{N ps:List AS}{ds:List Int}{k:Nat}
end
theorem zez(a b:Key):peq (yaN a) (yaN b)=decide (a=b):=by
 rw[Dz]
 cases a<;>cases b<;>simp[yaN,peq]
theorem zf4:∀(a b:List Key),ybu (a.map yaN) (b.map yaN)=decide (a=b)
 |[],[]=>by simp[ybu]
 |[],y::ys=>by simp[ybu]
 |x::xs,[]=>by simp[ybu]
 |x::xs,y::ys=>by
  erw[AL,ybu,zez,zf4 xs ys];rw[Dz];simp
theorem zek(a b:List Key):peq (.tup (a.map yaN)) (.tup (b.map yaN))=decide (a=b):=by
 erw[peq,zf4]
theorem zhK{k:PV}(h:ybO k=AB):∃q,k=yaN q:=by
 cases k with
 |int i=>exact⟨.inl i,rfl⟩
 |str i=>exact⟨.inr i,rfl⟩
 |_=>cases h
theorem zhN:∀{ks:List PV},ks.all ybO=AB->∃qs:List Key,ks=qs.map yaN
 |[],_=>⟨[],rfl⟩
 |k::ks,h=>by
  rw[Bj,AK]at h;let⟨q,rfl⟩:=zhK h.1;let⟨qs,rfl⟩:=zhN h.2;exact⟨q::qs,rfl⟩
section
variable {S:Se}{X:Cx}{K:AE}{cl:Nat->AI}{σ:St}{B:AI->Prop}{φ:Ph}{H:Hp}{st:SO}{p pos p2 px apos:C1}{a b c d o:AW}{ca cb cc:Ce}
theorem ybj{q:Key}{x:V}:yd K cl B φ H (yaN q) x ↔ x=kV q:=by
 cases q<;>simp[yaN,yd,kV]
theorem zfh:∀{qs:List Key} {xs:List V},yg K cl B φ H (qs.map yaN) xs->xs=qs.map kV
 |[],xs,l=>by simpa only[Ak,yg] using l
 |q::qs,xs,l=>by
  erw[AL,yg]at l;let⟨y,ys,rfl,r,l⟩:=l;rw[ybj.mp r,zfh l];rfl
theorem DK.look{q:Key}:∀{kvs:List (PV×PV)} {ks:List (Key×V)},DK K cl B φ H kvs ks->∀{v:PV} {x:V},yd K cl B φ H v x->yd K cl B φ H ((IC.look (yaN q) kvs).getD v) ((ybH ks q).getD x)
 |[],ks,h,v,x,r=>by cases h;exact r
 |(k,w)::t,ks,h,v,x,r=>by
  let⟨q',y,s,rfl,rfl,rv,l⟩:=h;erw[IC.look,zez]
  by_cases e:q'=q
  .rw[zbT (p:=(q',y)) e];simp[e,rv]
  .rw[zbS (p:=(q',y)) e];erw[decide_eq_true_eq,e,if_false];exact DK.look l r
theorem DT.look{q:List Key}:∀{kvs:List (PV×PV)} {ks:List (List Key×V)},DT K cl B φ H kvs ks->∀{v:PV} {x:V},yd K cl B φ H v x->yd K cl B φ H ((IC.look (.tup (q.map yaN)) kvs).getD v) ((ybH ks q).getD x)
 |[],ks,h,v,x,r=>by cases h;exact r
 |(k,w)::t,ks,h,v,x,r=>by
  let⟨q',y,s,rfl,rfl,rv,l⟩:=h;erw[IC.look,zek]
  by_cases e:q'=q
  .rw[zbT (p:=(q',y)) e];simp[e,rv]
  .rw[zbS (p:=(q',y)) e];erw[decide_eq_true_eq,e,if_false];exact DT.look l r
theorem DK.any{q:Key}:∀{kvs:List (PV×PV)} {ks:List (Key×V)},DK K cl B φ H kvs ks->(kvs.any λp=>peq p.1 (yaN q))=ks.any λkv=>decide (kv.1=q)
 |[],ks,h=>by cases h;rfl
 |(k,w)::t,ks,h=>by
  let⟨q',y,s,rfl,rfl,rv,l⟩:=h;erw[Bs,zez,DK.any l]
theorem DT.any{q:List Key}:∀{kvs:List (PV×PV)} {ks:List (List Key×V)},DT K cl B φ H kvs ks->(kvs.any λp=>peq p.1 (.tup (q.map yaN)))=ks.any λkv=>decide (kv.1=q)
 |[],ks,h=>by cases h;rfl
 |(k,w)::t,ks,h=>by
  let⟨q',y,s,rfl,rfl,rv,l⟩:=h;erw[Bs,zek,DT.any l]
theorem DK.map{q:Key}{v:PV}{x:V}(r:yd K cl B φ H v x):∀{kvs:List (PV×PV)} {ks:List (Key×V)},DK K cl B φ H kvs ks->DK K cl B φ H (kvs.map λp=>if peq p.1 (yaN q)=AB then(p.1,v)else p) (ks.map λkv=>if kv.1=q then(kv.1,x)else kv)
 |[],ks,h=>by cases h;exact rfl
 |(k,w)::t,ks,h=>by
  let⟨q',y,s,rfl,rfl,rv,l⟩:=h;erw[AL,zez,decide_eq_true_eq]
  by_cases e:q'=q
  .simp only[e,if_true];exact⟨q,x,_,rfl,rfl,r,DK.map r l⟩
  .simp only[e,if_false];exact⟨q',y,_,rfl,rfl,rv,DK.map r l⟩
theorem DT.map{q:List Key}{v:PV}{x:V}(r:yd K cl B φ H v x):∀{kvs:List (PV×PV)} {ks:List (List Key×V)},DT K cl B φ H kvs ks->DT K cl B φ H (kvs.map λp=>if peq p.1 (.tup (q.map yaN))=AB then(p.1,v)else p) (ks.map λkv=>if kv.1=q then(kv.1,x)else kv)
 |[],ks,h=>by cases h;exact rfl
 |(k,w)::t,ks,h=>by
  let⟨q',y,s,rfl,rfl,rv,l⟩:=h;erw[AL,zek,decide_eq_true_eq]
  by_cases e:q'=q
  .simp only[e,if_true];exact⟨q,x,_,rfl,rfl,r,DT.map r l⟩
  .simp only[e,if_false];exact⟨q',y,_,rfl,rfl,rv,DT.map r l⟩
theorem DK.snoc{q:Key}{v:PV}{x:V}(r:yd K cl B φ H v x):∀{kvs:List (PV×PV)} {ks:List (Key×V)},DK K cl B φ H kvs ks->DK K cl B φ H (kvs++[(yaN q,v)]) (ks++[(q,x)])
 |[],ks,h=>by cases h;exact⟨q,x,[],rfl,rfl,r,rfl⟩
 |(k,w)::t,ks,h=>by
  let⟨q',y,s,rfl,rfl,rv,l⟩:=h;exact⟨q',y,_,rfl,rfl,rv,DK.snoc r l⟩
theorem DT.snoc{q:List Key}{v:PV}{x:V}(r:yd K cl B φ H v x):∀{kvs:List (PV×PV)} {ks:List (List Key×V)},DT K cl B φ H kvs ks->DT K cl B φ H (kvs++[(.tup (q.map yaN),v)]) (ks++[(q,x)])
 |[],ks,h=>by cases h;exact⟨q,x,[],rfl,rfl,r,rfl⟩
 |(k,w)::t,ks,h=>by
  let⟨q',y,s,rfl,rfl,rv,l⟩:=h;exact⟨q',y,_,rfl,rfl,rv,DT.snoc r l⟩
theorem DK.put{q:Key}{v:PV}{x:V}{kvs:List (PV×PV)}{ks:List (Key×V)}(l:DK K cl B φ H kvs ks)(r:yd K cl B φ H v x):DK K cl B φ H (IC.put (yaN q) v kvs) (putK ks q x):=by
 unfold IC.put putK;rw[DK.any l];split
 .exact DK.map r l
 .exact DK.snoc r l
theorem DT.put{q:List Key}{v:PV}{x:V}{kvs:List (PV×PV)}{ks:List (List Key×V)}(l:DT K cl B φ H kvs ks)(r:yd K cl B φ H v x):DT K cl B φ H (IC.put (.tup (q.map yaN)) v kvs) (putK ks q x):=by
 unfold IC.put putK;rw[DT.any l];split
 .exact DT.map r l
 .exact DT.snoc r l
theorem DK.len:∀{kvs:List (PV×PV)} {ks:List (Key×V)},DK K cl B φ H kvs ks->kvs.length=ks.length
 |[],ks,h=>by cases h;rfl
 |(k,w)::t,ks,h=>by
  let⟨q',y,s,rfl,rfl,rv,l⟩:=h;simp[DK.len l]
theorem DT.len:∀{kvs:List (PV×PV)} {ks:List (List Key×V)},DT K cl B φ H kvs ks->kvs.length=ks.length
 |[],ks,h=>by cases h;rfl
 |(k,w)::t,ks,h=>by
  let⟨q',y,s,rfl,rfl,rv,l⟩:=h;simp[DT.len l]
theorem yF.dct{n:Nat}{t:Bool}{kvs:List (PV×PV)}{x:V}(rs:yF K cl B φ H st)(r:yd K cl B φ H (.loc n) x)(h:st[n]?=AA (.dct t kvs)):∃y,x=.ref y/\φ[n]?=AA (AA y)/\ycs K cl B φ H (.dct t kvs) y:=by
 erw[yd]at r;let⟨hn,y,rfl,ha⟩:=r;let⟨z,hz⟩:=rs.liv n _ h (by intro z;cases z);obtain rfl:=ha z hz;let⟨o,ho,ro⟩:=rs.obj n z hz;rw[h]at ho;cases ho;exact⟨z,rfl,hz,ro⟩
theorem zeU{v:PV}{t:Bool}{kvs:List (PV×PV)}(h:ybl st v=AA (t,kvs)):∃n,v=.loc n/\st[n]?=AA (.dct t kvs):=by
 cases v with
 |loc n=>
  erw[ybl]at h;split at h
  .rename_i t' xs q
   cases h
   exact⟨n,rfl,q⟩
  .cases h
 |_=>cases h
theorem ziW{k:PV}(h:isKey AC k=AB):∃q,k=yaN q:=zhK h
theorem zi9{k:PV}(h:isKey AB k=AB):∃q:List Key,k=.tup (q.map yaN):=by
 cases k with
 |tp b xs=>
  cases b with
  |false=>
   let⟨qs,rfl⟩:=zhN h;exact⟨qs,rfl⟩
  |true=>cases h
 |_=>cases h
theorem ziE{q:List Key}{x:V}(r:yd K cl B φ H (.tup (q.map yaN)) x):∃y,x=.ref y/\H y=AA (.tup (q.map kV)):=by
 erw[yd]at r;let⟨y,xs,rfl,rt,l⟩:=r;rcases rt with⟨rt,_⟩|⟨z,_⟩
 .exact⟨y,rfl,by rw[rt,zfh l]⟩
 .cases z
theorem zhR:PE X (.Dict [] [] pos) (tE S X (.dict0 AB)):=yci.imp λσ H Q ⟨B,φ,st,ρ,rs,re,h⟩=>by
 erw[ev]at h;exact λp hp=>h _ _ (φ++[AA p]) (.push hp) (rs.push hp (rs.nB hp) ⟨[],zu,rfl⟩) (.loc_new rs)
theorem zpd(hu:X.A.units+1<cLine)(ha:PE X a (tE S X ca))(hb:PE X b (tE S X cb))(hc:PE X c (tE S X cc))(m:M2 X a "get" apos b c pos:=by exact⟨rfl,rfl,rfl,rfl⟩):PE X (.Call (.Attribute a "get" apos) [b,c] [] pos) (tE S X (.mth .get ca (.cons cb (.cons cc .nil)))):=
 (zkj hu ha hb hc m).imp λσ H Q ⟨B,φ,st,ρ,rs,re,h⟩=>by
  erw[ev]at h;refine tE.bind rs re h λx H1 v st1 φ1 s1 rs1 re1 rv h1=>?_;let⟨_,e1,h1⟩:=ziK h1;erw[yaR]at e1
  cases q:ybl st1 v with
  |none=>rw[q]at e1;cases e1
  |some tk=>
   let⟨t,kvs⟩:=tk;let⟨n,rfl,hn⟩:=zeU q;let⟨y,rfl,hy,ro⟩:=rs1.dct rv hn;refine⟨y,rfl,?_,?_⟩
   .cases t with
    |false=>let⟨ks,hk,_⟩:=ro;exact .inl ⟨ks,.inl hk⟩
    |true=>let⟨ks,hk,_⟩:=ro;exact .inr ⟨ks,.inl hk⟩
   .simp only[evs,R.bind_assoc]at h1;refine tE.bind rs1 re1 h1 λkx H2 kv st2 φ2 s2 rs2 re2 rk h2=>tE.bind rs2 re2 h2 λdx H3 dv st3 φ3 s3 rs3 re3 rd h3=>?_;erw[R.bind]at h3;unfold ycq at h3;erw[ydV]at h3
    cases q3:ybl st3 (.loc n)with
    |none=>rw[q3]at h3;exact h3.elim
    |some tk3=>
     let⟨t3,kvs3⟩:=tk3;rw[q3]at h3;dsimp only at h3;split at h3
     .rename_i hk;let⟨n',e',hn3⟩:=zeU q3
      cases e'
      let⟨y3,ey,hy3,ro3⟩:=rs3.dct ((rv.step s2).step s3) hn3
      cases ey
      have rk3:=rk.step s3
      cases t3 with
      |false=>
       let⟨q,rfl⟩:=ziW hk;let⟨ks,hks,l⟩:=ro3;refine⟨ybH ks q,.inl ⟨ks,q,.inl hks,ybj.mp rk3,rfl⟩,h3.ok rs3 (DK.look l rd)⟩
      |true=>
       let⟨q,rfl⟩:=zi9 hk;let⟨ks,hks,l⟩:=ro3;let⟨b',rfl,hb'⟩:=ziE rk3;exact⟨ybH ks q,.inr ⟨ks,q,b',.inl hks,rfl,hb',rfl⟩,h3.ok rs3 (DT.look l rd)⟩
     .exact h3.elim
theorem ziY{st4:SO}{x y v:PV}(h:ybm st x y v=AA st4):∃n t kvs,x=.loc n/\st[n]?=AA (.dct t kvs)/\isKey t y=AB/\kvs.length<1000000/\st4=st.set n (.dct t (IC.put y v kvs)):=by
 cases x with
 |loc n=>
  erw[ybm]at h;split at h
  .rename_i t kvs q;split at h
   .rename_i c;exact⟨n,t,kvs,rfl,q,c.1,c.2,(AZ h).symm⟩
   .cases h
  .cases h
 |_=>cases h
theorem zmI(hu:X.A.units+1<cLine)(ho:PE X b (tE S X cb))(hi:PE X c (tE S X cc))(hv:PE X a (tE S X ca))(hs:swapsWith a (AA (.Subscript b c px)) pos.line X.env=pure false:=by rfl):PS X (.Assign [.Subscript b c px] a pos) (tS S X (.dput cb cc ca)):=
 (zlp hu ho hi hv hs).imp λD σ H ⟨B,φ,st,ρ,rs,re,h⟩=>by
  erw[ex]at h;refine tE.fl rs re h λv' H1 v st1 φ1 s1 rs1 re1 rv h1=>tE.fl rs1 re1 h1 λx' H2 x st2 φ2 s2 rs2 re2 rx h2=>tE.fl rs2 re2 h2 λy' H3 y st3 φ3 s3 rs3 re3 ry h3=>?_
  cases e:ybm st3 x y v with
  |none=>rw[e]at h3;exact h3.elim
  |some st4=>
   rw[e]at h3;let⟨n,t,kvs,rfl,hn,hk,hl,rfl⟩:=ziY e;let⟨l,rfl,hp,ro⟩:=rs3.dct (rx.step s3) hn;have rv3:=(rv.step s2).step s3;have hm:=yb5
   cases t with
   |false=>
    let⟨q,rfl⟩:=ziW hk;let⟨ks,hks,ld⟩:=ro;have s4:Step φ3 H3 φ3 (L2.upd H3 l (.dK (putK ks q v'))):=.put (A5 hp);refine⟨l,_,rfl,.inl ⟨ks,q,hks,ybj.mp ry,by have:=ld.len;lia,rfl⟩,h3 σ _ φ3 s4 (rs3.put hp ⟨_,zu,(ld.put rv3).step s4⟩) (re3.step s4)⟩
   |true=>
    let⟨q,rfl⟩:=zi9 hk;let⟨ks,hks,ld⟩:=ro;let⟨b',rfl,hb'⟩:=ziE ry;have s4:Step φ3 H3 φ3 (L2.upd H3 l (.dT (putK ks q v'))):=.put (A5 hp);refine⟨l,_,rfl,.inr ⟨ks,q,b',hks,rfl,hb',by have:=ld.len;lia,rfl⟩,h3 σ _ φ3 s4 (rs3.put hp ⟨_,zu,(ld.put rv3).step s4⟩) (re3.step s4)⟩
end
section
variable {S:Se}{X:Cx}{σ:St}{B:AI->Prop}{φ:Ph}{H:Hp}{p pos p3 p4:C1}{a b tg:AW}{ca cb:Ce}
end
end L2
namespace WK
open PySem L2 IC
section
variable {K:AE}{cl:Nat->AI}{B:AI->Prop}{φ:Ph}{H:Hp}
theorem zk1:yg K cl B φ H [] []:=by erw[yg]
theorem zi1{v:PV}{x:V}{vs:List PV}{xs:List V}(h:yd K cl B φ H v x)(l:yg K cl B φ H vs xs):yg K cl B φ H (v::vs) (x::xs):=by
 erw[yg];exact⟨x,xs,rfl,h,l⟩
end
theorem zn7{P:Aa}{w:Ao}{outer:List B7}{H:Hp}{s:AJ}{e:AG}{s':AJ}(h:CX1 P w outer H s (λ_ _ _=>False) e s'):False:=by
 let⟨_,_,_,_,_,_,_,_,_,_,_,_,_,_,z⟩:=h;exact z
theorem ziD{K:AE}{cl:Nat->AI}{B:AI->Prop}{φ:Ph}{H:Hp}:∀ns:List Int,yg K cl B φ H (ns.map .int) (ns.map V.int)
 |[]=>zk1
 |n::ns=>zi1 (by erw[yd]) (ziD ns)
def spX(K:AE)(call:Nat->List PV->SO->R PV)(fi:Nat):Sp:=λvs H Q E=>∀cl,spI K cl call fi vs H Q E
theorem zhD{K:AE}{call:Nat->List PV->SO->R PV}{fi:Nat}{H:Hp}{a:AI}{ns:List Int}(ht:∀ns:List Int,ns.length<=63->call fi [.scr (ns.map .int)] []=.ok (.bl AB) [])(hl:ns.length<=63)(hS:SqL K H a (ns.map V.int)):
  spX K call fi [.ref a] H (λv _=>v=.bl AB) λ_ _ _=>False:=by
 intro cl;refine⟨λ_=>False,[],[],[.scr (ns.map .int)],⟨rfl,λm n a e=>by simp at e,λn a e=>by simp at e,λn o e=>by simp at e,λa z=>by simp at z,λa z=>z.elim⟩,zi1 ?_ zk1,?_⟩
 .simp only[yd];refine⟨a,_,rfl,?_,ziD ns⟩;rcases hS with hS|hS
  .exact .inl ⟨hS,λz=>z,by simp⟩
  .exact .inr hS
 .rw[ht ns hl];intro x H' φ' _ _ r;simpa only[yd] using r
end WK
namespace L2
open PySem PySem.Spec PyProof.Rows IC
theorem ziZ{l:List AS}(h:l.Nodup){i j:Nat}(hi:i<l.length)(hj:j<l.length)(e:l[i]=l[j]):i=j:=by
 rcases Nat.lt_trichotomy i j with q|q|q
 .exact absurd e (Ec.mp h i j hi hj q)
 .exact q
 .exact absurd e.symm (Ec.mp h j i hj hi q)
section
variable {X:Cx}{pins:List (AI×CK)}{σ:St}{H:Hp}{s:AJ}
theorem Inv.drop{h':BI}{m:AS->Option AG}{v:Option AG}{i:Nat}{n:AS}(I:Inv X pins σ H s)(hN:X.N.Nodup)(hi:X.N[i]?=AA n)(hm:s.heap.Ns X.env.locals m)(look:∀(i:Nat) (x:AS) (v:V),X.N[i]?=AA x->σ[i]?=AA (AA v)->Vis X.env.scope x->∃u,RelV v u/\Look X.env s.heap m x u)(hs:Cd X.env.locals s.heap h')(hn:h'.Ns X.env.locals (λx=>if x=n then v else m x)):Inv X pins (σ.set i AD) H {s with heap:=h'}:=by
 have k:∀b u,b≠X.env.locals->s.heap.get? b=AA u->h'.get? b=AA u:=λb u hb q=>(hs.2 b hb).trans q;have nl:∀b o,X.s₀.heap.get? b=AA o->b≠X.env.locals:=λb o e=>Ar (A7 (A1 e) I.ok.above);refine⟨I.ok,I.os,I.bare,⟨λb o q n hb hx=>k b o (nl b o q) (I.base.keep b o q n hb hx),λb o q n hb hx=>?_,I.base.free,λb o q hx=>?_,I.base.tups,I.base.frzs,I.base.tbls⟩,⟨_,hn,λj x v e1 e2 hv=>?_⟩,λx c e=>?_,I.free,I.freeC,λp hp=>?_,λb u e=>?_,?_⟩
 .let⟨sl,q1⟩:=I.base.slot b o q n hb hx;exact⟨sl,k b _ (nl b o q) q1⟩
 .let⟨o',q1⟩:=I.base.there b o q hx;exact⟨o',k b o' (nl b o q) q1⟩
 .have hj:j≠i:=λz=>by
   subst z;rw[Cm]at e2;erw[if_true]at e2;split at e2<;>cases e2
  rw[AR (BP hj)]at e2;have hx:x≠n:=λz=>by
   subst z;let⟨l1,g1⟩:=BO.mp e1;let⟨l2,g2⟩:=BO.mp hi;exact hj (ziZ hN l1 l2 (g1.trans g2.symm))
  let⟨u,r,lk⟩:=look j x v e1 e2 hv;refine⟨u,r,?_⟩;rcases lk with⟨q1,q2⟩|⟨q1,c,q2,o,q3,q4⟩
  .exact .inl ⟨q1,by dsimp only;rw[if_neg hx];exact q2⟩
  .exact .inr ⟨q1,c,q2,o,k c o (I.cne x c q2) q3,q4⟩
 .let⟨v,o,ho,hd⟩:=I.cell x c e;exact⟨v,o,k c o (I.cne x c e) ho,hd⟩
 .let⟨q1,q2,q3,q4⟩:=I.pin p hp;exact⟨k _ _ q3 q1,q2,q3,q4⟩
 .refine(I.hok b u e).stay (λc v hc q=>k c v (λz=>?_) q) (λ_ q=>q) λ_ _ q=>q;have fr:=I.free;subst z;rcases hc with z|z
  .rw[z,e]at fr
   cases fr
  .rw[z]at fr
   cases fr
 .rw[Ba];exact I.len
end
section
variable {X:Cx}{body suite:List CF}{b₀:CF}{x n:AS}{np hpos pos:C1}{W:AI}{i:Nat}
end
section
variable {S:Se}{X:Cx}{σ:St}{B:AI->Prop}{φ φ1:Ph}{H H1:Hp}{st:SO}{ρ:IC.Env}{D:Ends}{body suite:List CF}{b₀:CF}{x n:AS}{p p2 np hpos pos cpos:C1}{W:AI}{i:Nat}{cb ch:Css}{a e:AW}{es:List AW}{ca ce:Ce}{ces:Ces}
theorem yU.drop{K:AE}{cl:Nat->AI}(r:yU K cl B φ H ρ σ)(i:Nat):yU K cl B φ H (ρ.set i AD) (σ.set i AD):=by
 refine⟨by rw[Ba,Ba];exact r.len,λj w e=>?_⟩
 by_cases h:j=i
 .subst h;rw[Cm]at e;erw[if_true]at e;split at e<;>cases e
 .rw[AR (BP h)]at e ⊢;exact r.get j w e
noncomputable abbrev Se.quiet(S:Se):Se:={S with may:=AC}
theorem all_nil{P:Nat->Prop}:∀c∈([]:List Nat),P c:=λ_ h=>by cases h
theorem all_cons{P:Nat->Prop}{c:Nat}{cs:List Nat}(h:P c)(t:∀d∈cs,P d):∀d∈c::cs,P d:=λd hd=>by
 rcases AO.mp hd with e|e
 .exact e ▸ h
 .exact t d e
structure ydt(K:AE)(mg:AS->Option AG)(C:AI)(x:AS):Prop where
 m:mg x=AA (.ref C)
 q:Fr K C [.type "ValueError",.type "Exception",.type "BaseException",.type "object"] "ValueError.__new__"=AB
end
section
variable {S:Se}{X:Cx}{p pos p2 px apos:C1}{a b:AW}{ca cb:Ce}
def GCI(mg:AS->Option AG)(x:AS)(i:Int):Prop:=∃t,mg x=AA (.int i t)
theorem zof{x:AS}{i:Int}(hg:Gl X x)(h:GCI X.mg x i)(hd:(x==("__debug__":AS))=false:=by decide):PE X (.Name x pos) (tE S X (.cst (.int i))):=by
 let⟨t,hm⟩:=h;exact(zdy hg hm (show RelV (.int i) (.int i t)from ⟨t,rfl⟩) hd).imp λσ H Q ⟨B,φ,st,ρ,rs,re,h⟩=>by
  erw[ev]at h;exact h.ok rs (by erw[yd])
end
end L2
namespace WE
open PySem PySem.Spec PyProof.Rows
section
variable {prog:Aa}{w:Ao}{A:Ay}{E:AG->AJ->Prop}{s:AJ}
def ydS(h:BI)(a t:AI)(i:Int):Prop:=∃o,h.get? a=AA o/\o.cls=.type "reversed"/\o.data=.fields #[.ref t,rawInt i]
theorem ydS.typeIs{a t:AI}{i:Int}(x:ydS s.heap a t i):s.TypeIs (.ref a) "reversed":=let ⟨o,ho,hc,_⟩:=x;⟨o,ho,hc⟩
end
end WE
namespace L2
open PySem PySem.Spec PyProof.Rows
end L2
namespace L2
open PySem PySem.Spec PyProof.Rows IC
open Classical in
section
variable {S:Se}{X:Cx}{σ:St}{B:AI->Prop}{φ φ1:Ph}{H H1:Hp}{st:SO}{ρ:IC.Env}{p pos p2 px py pt pt2:C1}{a b c d o a' b' c' d':AW}{ca cb cc cd ce cf:Ce}{pins:List (AI×CK)}{s:AJ}{kt k2:Nat}{es:List AW}{ces:Ces}{x:AS}
end
end L2
namespace IC
open PySem
end IC
namespace L2
open PySem PySem.Spec PyProof.Rows IC
section
variable {S:Se}{X:Cx}{σ:St}{B:AI->Prop}{φ:Ph}{H:Hp}{p p2 pos pos2 apos:C1}{a b tg:AW}{ca cb:Ce}
end
end L2
namespace WE
open PySem PySem.Spec PyProof.Rows
section
variable {pg:Aa}{wd:Ao}{A:Ay}{Er:AG->AJ->Prop}{s:AJ}
theorem tit_keep{h h':BI}{i t:AI}{j:Nat}(u:h.IsTupleIter i t j)(k:∀o,h.get? i=AA o->h'.get? i=AA o):h'.IsTupleIter i t j:=let ⟨o,g,r⟩:=u;⟨o,k o g,r⟩
theorem zcM{h h':BI}{t:AI}{xs:Array AG}(u:h.IsTuple t xs)(k:∀o,h.get? t=AA o->h'.get? t=AA o):h'.IsTuple t xs:=let ⟨o,g,r⟩:=u;⟨o,k o g,r⟩
def Kz(z TO i1 i2:AI)(h h':BI):Prop:=∀c o,c≠z->c≠TO->c≠i1->c≠i2->h.get? c=AA o->h'.get? c=AA o
theorem ziJ{z TI TO i1 i2 l1 l2:AI}{j:Nat}{xs ys:Array AG}{x y a b:AG}{Q:AG->AJ->Prop}(D:GV z TI TO i1 i2 l1 l2)
  (gz:Ej s.heap z TI TO .none) (gI:C5 s.heap TI (.ref i1) (.ref i2)) (gO:C5 s.heap TO a b) (u1:s.heap.IsTupleIter i1 l1 j) (u2:s.heap.IsTupleIter i2 l2 j) (t1:s.heap.IsTuple l1 xs) (t2:s.heap.IsTuple l2 ys) (ex:xs[j]?=AA x) (ey:ys[j]?=AA y)
  (k:∀h',Ej h' z TI TO (rawInt s.heap.objs.size)->C5 h' TO x y->h'.IsTupleIter i1 l1 (j+1)->h'.IsTupleIter i2 l2 (j+1)->C5 h' s.heap.objs.size x y->h'.objs.size=s.heap.objs.size+1->Kz z TO i1 i2 s.heap h'->Q (.ref s.heap.objs.size) {s with heap:=h'}):
  A3 (model pg wd) A (HM.«zip.__next__» ⟨[.ref z],[]⟩) (λf s'=>∃v,f=.done (.ret v)/\Q v s') Er s:=by
 show A3 _ _ (field (.ref z) 2 >>= _) _ _ _;refine AH (BS gz rfl (x:=.bool AC) rfl ?_);show A3 _ _ (field (.ref z) 3 >>= _) _ _ _;refine AH (BS gz rfl (x:=.ref TI) rfl ?_);refine AH (Ca gI rfl ?_);show A3 _ _ (Bk (.ref z) >>= _) _ _ _;refine AH ?_;unfold Bk;refine AH (BS gz rfl (x:=.none) rfl (AN ?_));erw[if_true];refine AH (FC ?_);refine AH (BS gz rfl (x:=.ref TO) rfl ?_);refine AH (Cg gz (by simp) λha za sa=>?_)
 replace za:Ej ha z TI TO .ellipsis:=za
 refine AH ?_;erw[G8,Gj,FQ,Gy];refine AH (AH (Ft ?_));show A3 _ _ (B0 (.ref i1) >>= _) _ _ _;refine AH (zcx (tit_keep u1 λo e=>sa.extBut _ _ D.i1z e) (zcM t1 λo e=>sa.extBut _ _ D.l1z e) ex λhb ub sb=>AN ?_);have ob:C5 hb TO a b:=sb.extBut _ _ D.TOi1 (sa.extBut _ _ D.TOz gO);refine AH (Ca ob rfl ?_);refine AH (F2 ob λhc oc sc=>?_)
 replace oc:C5 hc TO x b:=oc
 refine AH (wpAny_letGo (AN ?_));refine AH (AH (Ft ?_));show A3 _ _ (B0 (.ref i2) >>= _) _ _ _;refine AH (zcx (tit_keep u2 λo e=>sc.extBut _ _ D.TOi2.symm (sb.extBut _ _ D.i12.symm (sa.extBut _ _ D.i2z e))) (zcM t2 λo e=>sc.extBut _ _ D.l2TO (sb.extBut _ _ D.l2i1 (sa.extBut _ _ D.l2z e))) ey λhd ud sd=>AN ?_);have od:C5 hd TO x b:=sd.extBut _ _ D.TOi2 oc;refine AH (Ca od rfl ?_);refine AH (F2 od λhe oe se=>?_)
 replace oe:C5 he TO x y:=oe
 refine AH (wpAny_letGo (AN (AN ?_)));refine AH (Ca oe rfl ?_);refine AH (wpAny_newTuple ?_);have sz:he.objs.size=s.heap.objs.size:=by rw[se.1,sd.1,sc.1,sb.1,sa.1]
 have ze:Ej he z TI TO .ellipsis:=se.extBut _ _ D.TOz.symm (sd.extBut _ _ D.i2z.symm (sc.extBut _ _ D.TOz.symm (sb.extBut _ _ D.i1z.symm za)));have ke:Kz z TO i1 i2 s.heap he:=λc o p1 p2 p3 p4 e=>se.extBut _ _ p2 (sd.extBut _ _ p4 (sc.extBut _ _ p2 (sb.extBut _ _ p3 (sa.extBut _ _ p1 e))));have v1:he.IsTupleIter i1 l1 (j+1):=tit_keep ub λo e=>se.extBut _ _ D.TOi1.symm (sd.extBut _ _ D.i12 (sc.extBut _ _ D.TOi1.symm e));have v2:he.IsTupleIter i2 l2 (j+1):=tit_keep ud λo e=>se.extBut _ _ D.TOi2.symm e;have lz:z<he.objs.size:=A1 ze;show A3 _ _ (DC (.ref z) (.ref he.objs.size) >>= _) _ _ _;refine AH ?_;unfold DC;have zf:Ej (he.push {cls:=.type "tuple",data:=.seq #[x,y]}) z TI TO .ellipsis:=AM _ ze;refine AH (Cg zf (by simp) λhg zg sg=>?_)
 replace zg:Ej hg z TI TO (rawInt he.objs.size):=zg
 refine Cg zg (by simp) λhi zi si=>?_
 replace zi:Ej hi z TI TO (rawInt he.objs.size):=zi
 have up:∀c o,c≠z->he.get? c=AA o->hi.get? c=AA o:=λc o p e=>si.extBut _ _ p (sg.extBut _ _ p (AM _ e));have pn:C5 hi he.objs.size x y:=si.extBut _ _ (FD lz) (sg.extBut _ _ (FD lz) (A6 _ rfl));have si8:hi.objs.size=he.objs.size+1:=by rw[si.1,sg.1,CA]
 rw[sz]at zi pn si8;refine AN ⟨_,rfl,?_⟩;show Q (.ref he.objs.size) _;rw[sz];exact k hi zi (up _ _ D.TOz oe) (tit_keep v1 λo e=>up _ o D.i1z e) (tit_keep v2 λo e=>up _ o D.i2z e) pn si8 λc o p1 p2 p3 p4 e=>up c o p1 (ke c o p1 p2 p3 p4 e)
theorem zkz{z TI TO i1 i2 l1 l2:AI}{j:Nat}{xs:Array AG}{a b:AG}{Q:Fin->AJ->Prop}(hh:A.handled=AD)(D:GV z TI TO i1 i2 l1 l2)
  (gz:Ej s.heap z TI TO .none) (gI:C5 s.heap TI (.ref i1) (.ref i2)) (gO:C5 s.heap TO a b) (u1:s.heap.IsTupleIter i1 l1 j) (t1:s.heap.IsTuple l1 xs) (ex:xs[j]?=AD)
  (k:∀h' e,Kz z TO i1 i2 s.heap h'->(∃o,h'.get? e=AA o/\o.cls=.type "StopIteration")->Er (.ref e) {s with heap:=h'}):
  A3 (model pg wd) A (HM.«zip.__next__» ⟨[.ref z],[]⟩) Q Er s:=by
 show A3 _ _ (field (.ref z) 2 >>= _) _ _ _;refine AH (BS gz rfl (x:=.bool AC) rfl ?_);show A3 _ _ (field (.ref z) 3 >>= _) _ _ _;refine AH (BS gz rfl (x:=.ref TI) rfl ?_);refine AH (Ca gI rfl ?_);show A3 _ _ (Bk (.ref z) >>= _) _ _ _;refine AH ?_;unfold Bk;refine AH (BS gz rfl (x:=.none) rfl (AN ?_));erw[if_true];refine AH (FC ?_);refine AH (BS gz rfl (x:=.ref TO) rfl ?_);refine AH (Cg gz (by simp) λha za sa=>?_)
 replace za:Ej ha z TI TO .ellipsis:=za
 refine AH ?_;erw[G8,Gj,FQ,Gy];refine AH (AH (Ft ?_));show A3 _ _ (B0 (.ref i1) >>= _) _ _ _;refine AH (zft hh (tit_keep u1 λo e=>sa.extBut _ _ D.i1z e) (zcM t1 λo e=>sa.extBut _ _ D.l1z e) ex λhb e sb he=>?_);let⟨oe,ge,ce⟩:=he;have zb:Ej hb z TI TO .ellipsis:=sb _ _ D.i1z.symm za;have ne:e≠z:=λq=>by subst q;rw[zb]at ge;cases ge;simp at ce
 exact Cg zb (by simp) λhc _ sc=>k hc e (λc o p1 _ p3 _ q=>sc.extBut _ _ p1 (sb _ _ p3 (sa.extBut _ _ p1 q))) ⟨oe,sc.extBut _ _ ne ge,ce⟩
theorem pyNext_zipT{z TI TO i1 i2 l1 l2:AI}{j:Nat}{xs ys:Array AG}{x y a b:AG}{Q:Option AG->AJ->Prop}(D:GV z TI TO i1 i2 l1 l2)
  (gz:Ej s.heap z TI TO .none) (gI:C5 s.heap TI (.ref i1) (.ref i2)) (gO:C5 s.heap TO a b) (u1:s.heap.IsTupleIter i1 l1 j) (u2:s.heap.IsTupleIter i2 l2 j) (t1:s.heap.IsTuple l1 xs) (t2:s.heap.IsTuple l2 ys) (ex:xs[j]?=AA x) (ey:ys[j]?=AA y)
  (k:∀h',Ej h' z TI TO (rawInt s.heap.objs.size)->C5 h' TO x y->h'.IsTupleIter i1 l1 (j+1)->h'.IsTupleIter i2 l2 (j+1)->C5 h' s.heap.objs.size x y->h'.objs.size=s.heap.objs.size+1->Kz z TO i1 i2 s.heap h'->Q (AA (.ref s.heap.objs.size)) {s with heap:=h'}):
  A3 (model pg wd) A (pyNext (.ref z)) Q Er s:=by
 have ty:s.TypeIs (.ref z) "zip":=⟨_,gz,rfl⟩;unfold pyNext;exact AH (wpAny_attempt (B6 (name:=AF "__next__") ty EA (CN EA ty G9 (ziJ D gz gI gO u1 u2 t1 t2 ex ey λh' a1 a2 a3 a4 a5 a6 a7=>AN (k h' a1 a2 a3 a4 a5 a6 a7)) (GW _))))
theorem pyNext_zipE{z TI TO i1 i2 l1 l2:AI}{j:Nat}{xs:Array AG}{a b:AG}{Q:Option AG->AJ->Prop}(hh:A.handled=AD)(D:GV z TI TO i1 i2 l1 l2)
  (gz:Ej s.heap z TI TO .none) (gI:C5 s.heap TI (.ref i1) (.ref i2)) (gO:C5 s.heap TO a b) (u1:s.heap.IsTupleIter i1 l1 j) (t1:s.heap.IsTuple l1 xs) (ex:xs[j]?=AD)
  (k:∀h',Kz z TO i1 i2 s.heap h'->Q AD {s with heap:=h'}):A3 (model pg wd) A (pyNext (.ref z)) Q Er s:=by
 have ty:s.TypeIs (.ref z) "zip":=⟨_,gz,rfl⟩;unfold pyNext;refine AH (wpAny_attempt (B6 (name:=AF "__next__") ty EA (CN EA ty G9 (zkz hh D gz gI gO u1 t1 ex λh' e kk he=>?_) (GW _))));let⟨o,ho,hc⟩:=he;exact AH (wpAny_isInstance (T:="StopIteration") (b:=AB) ⟨o,ho,hc⟩ isSubtype_stop (AN (k _ kk)))
end
noncomputable abbrev ti(l:AI):Obj:={cls:=.type "tuple_iterator",data:=.fields #[.ref l,.int 0 0]}
abbrev zh1(h:BI)(l1:AI):Heap:=h.push (ti l1)
abbrev zh2(h:BI)(l1 l2:AI):Heap:=(zh1 h l1).push (ti l2)
abbrev zh3(h:BI)(l1 l2:AI):Heap:=(zh2 h l1 l2).push {cls:=.type "tuple",data:=.seq #[.ref h.objs.size,.ref (zh1 h l1).objs.size]}
abbrev zh4(h:BI)(l1 l2:AI):Heap:=(zh3 h l1 l2).push {cls:=.type "tuple",data:=.seq #[.none,.none]}
abbrev zh5(h:BI)(l1 l2:AI):Heap:=(zh4 h l1 l2).push {cls:=.type "zip",data:=.fields #[.none,.bool AC,.bool AC,.ref (zh2 h l1 l2).objs.size,.ref (zh3 h l1 l2).objs.size]}
theorem zgU(l1 l2:AI)(xs ys:Array AG):
  Meets (HM.«zip.__new__» ⟨[.type "zip",.ref l1,.ref l2],[]⟩) (λ_ R s=>s.heap.IsTuple l1 xs/\s.heap.IsTuple l2 ys/\R (.ok (.ret (.ref (zh4 s.heap l1 l2).objs.size))) {s with heap:=zh5 s.heap l1 l2}):=
 .of_wp λprog w A R s h=>by
  let⟨hp,g,d,tk,os⟩:=s;let⟨q1,q2,h⟩:=h;have hsub:=sub_zip;have T1:GP (Ge ⟨hp,g,d,tk,os⟩) l1 xs:=q1;have T2:GP (Ge ⟨hp.push (ti l1),g,d,tk,os⟩) l2 ys:=zcM q2 λo e=>AM _ e
  wp_walk using CW T1,CW T2
  exact⟨_,rfl,h⟩
theorem call_zipT{pg:Aa}{wd:Ao}{A:Ay}{Er:AG->AJ->Prop}{s:AJ}{l1 l2:AI}{xs ys:Array AG}{Q:AG->AJ->Prop}(t1:s.heap.IsTuple l1 xs)(t2:s.heap.IsTuple l2 ys)
  (k:∀h',Ej h' (s.heap.objs.size+4) (s.heap.objs.size+2) (s.heap.objs.size+3) .none->C5 h' (s.heap.objs.size+2) (.ref s.heap.objs.size) (.ref (s.heap.objs.size+1))->C5 h' (s.heap.objs.size+3) .none .none->h'.IsTupleIter s.heap.objs.size l1 0->h'.IsTupleIter (s.heap.objs.size+1) l2 0 ->
   (∀b o,s.heap.get? b=AA o->h'.get? b=AA o)->Q (.ref (s.heap.objs.size+4)) {s with heap:=h'}):A3 (model pg wd) A (call (.type "zip") [.ref l1,.ref l2]) Q Er s:=by
 refine callType_new F.called_zip (by decide) (F.typeCall_zip_2 _ _) (F.newCall_zip_2 _ _) (λobj=>F.args_object_init_3 obj _ _) F.entry_zip_new (zgU l1 l2 xs ys) ⟨t1,t2,?_⟩;have n1:(zh1 s.heap l1).objs.size=s.heap.objs.size+1:=CA ..;have n2:(zh2 s.heap l1 l2).objs.size=s.heap.objs.size+2:=by rw[CA,n1]
 have n3:(zh3 s.heap l1 l2).objs.size=s.heap.objs.size+3:=by rw[CA,n2]
 have n4:(zh4 s.heap l1 l2).objs.size=s.heap.objs.size+4:=by rw[CA,n3]
 have kp:∀{h:BI} {o:CK} {b:AI} {u:CK},h.get? b=AA u->(h.push o).get? b=AA u:=λe=>AM _ e;have m5:(zh5 s.heap l1 l2).get? (zh4 s.heap l1 l2).objs.size=AA _:=A6 _ rfl;have m4:(zh5 s.heap l1 l2).get? (zh3 s.heap l1 l2).objs.size=AA _:=kp (A6 _ rfl);have m3:(zh5 s.heap l1 l2).get? (zh2 s.heap l1 l2).objs.size=AA _:=kp (kp (A6 _ rfl));have m2:(zh5 s.heap l1 l2).get? (zh1 s.heap l1).objs.size=AA _:=kp (kp (kp (A6 _ rfl)));have m1:(zh5 s.heap l1 l2).get? s.heap.objs.size=AA _:=kp (kp (kp (kp (A6 _ rfl))));rw[n2,n3,n4]at m5;rw[n1,n2]at m3;rw[n3]at m4;rw[n1]at m2;show _/\_;rw[n4];exact⟨⟨_,m5,rfl⟩,k _ m5 m3 m4 ⟨_,m1,rfl,rfl⟩ ⟨_,m2,rfl,rfl⟩ λb o e=>kp (kp (kp (kp (kp e))))⟩
end WE
namespace L2
open PySem PySem.Spec PyProof.Rows
noncomputable def Itz(K:AE)(a b:AI):It:=
 ⟨λi H=>∃xs ys x y,SqT K H a xs/\SqT K H b ys/\xs[i]?=AA x/\ys[i]?=AA y,λi H v H'=>∃T,H T=AD/\v=.ref T/\∀xs ys x y,SqT K H a xs->SqT K H b ys->xs[i]?=AA x->ys[i]?=AA y->H'=upd H T (.tup [x,y]),λi H=>∃xs,SqT K H a xs/\xs.length=i⟩
theorem zhP{P:Aa}{w:Ao}{K:AE}{es:List AW}{kk:Nat}{pos:C1}(z TI TO i1 i2 a b:AI)(D:GV z TI TO i1 i2 a b):
  Turn P w K (.Tuple es kk pos) (Itz K a b) [z,TI,TO,i1,i2] z (λi h=>Ej h z TI TO .none/\C5 h TI (.ref i1) (.ref i2)/\(∃p q,C5 h TO p q)/\h.IsTupleIter i1 a i/\h.IsTupleIter i2 b i) where
 mem:=by simp
 obj:=λi h st c hc=>by
  let⟨g0,g1,⟨p,q,g2⟩,⟨o3,g3,_,d3⟩,⟨o4,g4,_,d4⟩⟩:=st;erw[AO,A8,or_false]at hc;rcases hc with rfl|rfl|rfl|rfl|rfl
  .exact⟨_,g0,λv y=>nomatch y⟩
  .exact⟨_,g1,λv y=>nomatch y⟩
  .exact⟨_,g2,λv y=>nomatch y⟩
  .exact⟨o3,g3,λv y=>by rw[d3]at y;cases y⟩
  .exact⟨o4,g4,λv y=>by rw[d4]at y;cases y⟩
 keep:=λi h h' st k=>by
  let⟨g0,g1,⟨p,q,g2⟩,g3,g4⟩:=st;exact⟨k z (by simp) _ g0,k TI (by simp) _ g1,⟨p,q,k TO (by simp) _ g2⟩,WE.tit_keep g3 λo e=>k i1 (by simp) o e,WE.tit_keep g4 λo e=>k i2 (by simp) o e⟩
 item:=by
  intro X hP hw hK hc i pins s σ H E I hf st hg;subst hP hw hK;let⟨xs,ys,x,y,hq1,hq2,hx,hy⟩:=hg;let⟨its,rv,p1,_⟩:=I.tuple hq1;let⟨jts,rw',p2,_⟩:=I.tuple hq2;let⟨g0,g1,⟨p,q,g2⟩,g3,g4⟩:=st;let⟨u,hu,ru⟩:=rv.get hx;let⟨v,hv,rv2⟩:=rw'.get hy;refine WE.pyNext_zipT D g0 g1 g2 g3 g4 p1 p2 (by simpa using hu) (by simpa using hv) λh1 a1 a2 a3 a4 a5 a6 a7=>⟨_,rfl,?_⟩;refine wpAny_letOwnedTupleGo_zip a1 λh2 b1 b2=>?_;have lt:∀{c o},s.heap.get? c=AA o->s.heap.objs.size≠c:=λe=>FD (A1 e);have hTz:s.heap.objs.size≠z:=lt g0;have hch:∀c o,c∉[z,TI,TO,i1,i2]->s.heap.get? c=AA o->h2.get? c=AA o:=λc o hn e=>b2.extBut _ _ (λz'=>hn (by simp[z'])) (a7 c o (λz'=>hn (by simp[z'])) (λz'=>hn (by simp[z'])) (λz'=>hn (by simp[z'])) (λz'=>hn (by simp[z'])) e);have new:yag X.prog X.w (upd H s.heap.objs.size (.tup [x,y])) h2 s.heap.objs.size (.tup [x,y]):=⟨by show 2<=sizeLine;decide,[u,v],.cons ru (.cons rv2 .nil),_,b2.extBut _ _ hTz a5,rfl,_,rfl⟩;have I2:=I.turnLaid (t':=s.toks) hf hch (AT _) new;have gI:C5 h1 TI (.ref i1) (.ref i2):=a7 _ _ D.TIz D.TITO D.TIi1 D.TIi2 g1;refine⟨.ref s.heap.objs.size,_,I2,rfl,⟨s.heap.objs.size,I.hok.fresh (AT _),rfl,λxs' ys' x' y' hx1 hy1 hx2 hy2=>?_⟩,⟨b1,b2.extBut _ _ D.TIz gI,⟨_,_,b2.extBut _ _ D.TOz a2⟩,WE.tit_keep a3 λo e=>b2.extBut _ _ D.i1z e,WE.tit_keep a4 λo e=>b2.extBut _ _ D.i2z e⟩,λc hc=>?_⟩
  .rw[I.tuple_inj hx1 hq1,hx]at hx2;rw[I.tuple_inj hy1 hq2,hy]at hy2
   cases hx2
   cases hy2
   rfl
  .have hne:c≠s.heap.objs.size:=λz'=>by
    subst z';let⟨o3,e3,_⟩:=g3;let⟨o4,e4,_⟩:=g4;erw[AO,A8,or_false]at hc;rcases hc with z' | z' | z' | z' | z'
    .exact lt g0 z'
    .exact lt g1 z'
    .exact lt g2 z'
    .exact lt e3 z'
    .exact lt e4 z'
   rw[zk hne];exact(hf c hc).1
 done:=by
  intro X hP hw hK hc i pins s σ H E I hf st hg;subst hP hw hK;let⟨xs,hq1,hx⟩:=hg;let⟨its,rv,p1,_⟩:=I.tuple hq1;let⟨g0,g1,⟨p,q,g2⟩,g3,g4⟩:=st;have hl:=rv.length;refine WE.pyNext_zipE (I.ok.hd hc) D g0 g1 g2 g3 p1 (by simp;lia) λh' kz=>⟨rfl,I.turnedL (t':=s.toks) hf λc o hn e=>kz c o (λz'=>hn (by simp[z'])) (λz'=>hn (by simp[z'])) (λz'=>hn (by simp[z'])) (λz'=>hn (by simp[z'])) e⟩
 self:=λ_ _ _ _ _ st q=>Ga st.1 q
def ygB(K:AE)(ta:TA):TI:=λσ H R=>ta σ H λvs H1=>∃a b,vs=[.ref a,.ref b]/\(∃xs,SqT K H1 a xs)/\(∃ys,SqT K H1 b ys)/\R (Itz K a b) H1
theorem zmq{X:Cx}{a b:AW}{es:List AW}{kk:Nat}{tp:C1}{ta:TA}{p pos:C1}(hg:Gl X "zip")(hm:X.mg "zip"=AD)(ha:PA X [a,b] ta)(hs:starEach [a,b] X.env=[(AC,eval a X.env),(AC,eval b X.env)]:=by rfl)(hs2:starEach [b] X.env=[(AC,eval b X.env)]:=by rfl):
  PI X (.Tuple es kk tp) (.Call (.Name "zip" p) [a,b] [] pos) (ygB X.K ta):=by
 intro pins s σ H R I h;refine B8 (zdZ I hg hm boot_zip ?_);refine CM (thn (ha pos pins s σ H _ I h) λus s1 kq=>?_) (by rw[hs,hs2]) (by rw[hs2];rfl);let⟨vs,H1,I1,r1,q1⟩:=kq;let⟨l1,l2,rfl,⟨xs,hq1⟩,⟨ys,hq2⟩,q⟩:=q1
 cases r1 with
 |cons r rr=>
  cases rr with
  |cons r2 r3=>
   cases r3
   cases (show _=An l1 from r)
   cases (show _=An l2 from r2)
   let⟨its,rv,pt1,_⟩:=I1.tuple hq1;let⟨jts,rv2,pt2,_⟩:=I1.tuple hq2;have b1:l1<s1.heap.objs.size:=by let⟨_,e,_⟩:=pt1;exact A1 e
   have b2:l2<s1.heap.objs.size:=by let⟨_,e,_⟩:=pt2;exact A1 e
   refine WE.call_zipT pt1 pt2 λh1 g0 g1 g2 g3 g4 kp=>?_;refine Ga g0 ?_;refine⟨_,[s1.heap.objs.size+4,s1.heap.objs.size+2,s1.heap.objs.size+3,s1.heap.objs.size,s1.heap.objs.size+1],_,_,H1,rfl,I1.kept (t':=s1.toks) kp,zhP _ _ _ _ _ l1 l2 (zipApart_new b1 b2),⟨g0,g1,⟨_,_,g2⟩,g3,g4⟩,λc hc=>?_,q⟩;have hb2:s1.heap.objs.size<=c:=by
    erw[AO,A8,or_false]at hc;rcases hc with z' | z' | z' | z' | z'<;>subst z'
    .exact Db _ 4
    .exact Db _ 2
    .exact Db _ 3
    .exact AT _
    .exact Db _ 1
   exact I1.fpOk hb2 (I1.hok.fresh hb2)
end L2
namespace L2
open PySem PySem.Spec PyProof.Rows IC
inductive ycn(K:AE)(cl:Nat->AI)(w:Ao):List (AS×PV)->List CO->Prop
 |nil:ycn K cl w [] []
 |cons {k:AS} {v:PV} {t:Hd} {u:AG} {x:V} {D:List (AS×PV)} {es:List CO} (hr:RelV x u) (hv:∀B φ H,yd K cl B φ H v x) (h:ycn K cl w D es):ycn K cl w ((k,v)::D) (⟨EX w.params k,.str k t,u⟩ :: es)
def GD(K:AE)(w:Ao)(mg:AS->Option AG)(cl:Nat->AI)(x:AS)(D:List (AS×PV)):Prop:=
 ∃(y:AI) (es:Array CO) (ep:Nat),mg x=AA (.ref y)/\K.lookup y=AA ⟨.type "dict",AD,.dict es ep,#[]⟩/\(y==sysModules)=AC/\ycn K cl w D es.toList/\(D.map (·.1)).Nodup
theorem ycn.pairs{K:AE}{cl:Nat->AI}{P:Aa}{w:Ao}{D:List (AS×PV)}{es:List CO}(h:ycn K cl w D es):
  ∃vs:List (AS×AG),Pairs (strKind P w) es vs/\(∀e∈es,∃k,(strKind P w).is k e.key=AB/\e.hash=(strKind P w).hash k)/\vs.map (·.1)=D.map (·.1) /\
   (∀s,(valueAt vs s).isSome=(yaT s D).isSome)/\∀s v,yaT s D=AA v->∃u x,valueAt vs s=AA u/\RelV x u/\∀B φ H,yd K cl B φ H v x:=by
 induction h with
 |nil=>exact⟨[],.nil,λe he=>(by cases he),rfl,λs=>rfl,λs v e=>by cases e⟩
 |@cons k v t u x D es hr hv h ih=>
  let⟨vs,h1,h2,h3,h4,h5⟩:=ih;have hat:∀s,valueAt ((k,u)::vs) s=if k=s then AA u else valueAt vs s:=λs=>by
   unfold valueAt;rw[CJ]
   by_cases e:k=s
   .simp[e]
   .simp[e]
  refine⟨(k,u)::vs,.cons (Dd P w k t) rfl h1,λe he=>?_,by rw[AL,AL,h3],λs=>?_,λs v' e=>?_⟩
  .rcases AO.1 he with rfl|he
   .exact⟨k,Dd P w k t,rfl⟩
   .exact h2 e he
  .rw[hat,yaT]
   by_cases e:k=s
   .rw[if_pos e,if_pos (by simpa using e)];rfl
   .rw[if_neg e,if_neg (by simpa using e),h4]
  .rw[yaT]at e;rw[hat]
   by_cases q:k=s
   .rw[if_pos (by simpa using q)]at e
    cases e
    exact⟨u,x,by rw[if_pos q],hr,hv⟩
   .rw[if_neg (by simpa using q)]at e;let⟨u',x',e1,e2,e3⟩:=h5 s v' e;exact⟨u',x',by rw[if_neg q];exact e1,e2,e3⟩
section
variable {S:Se}{X:Cx}{σ:St}{B:AI->Prop}{φ:Ph}{H:Hp}{st:SO}{pos p:C1}{a b i:AW}{ca cb:Ce}{x:AS}{D:List (AS×PV)}{ty:TE}
theorem zhM{y:AI}{es:Array CO}{ep:Nat}{pins:List (AI×CK)}{s:AJ}(I:Inv X pins σ H s)(hk:X.K.lookup y=AA ⟨.type "dict",AD,.dict es ep,#[]⟩)(hn:(D.map (·.1)).Nodup){vs:List (AS×AG)}(h1:Pairs (strKind X.prog X.w) es.toList vs)
  (h2:∀e∈es.toList,∃k,(strKind X.prog X.w).is k e.key=AB/\e.hash=(strKind X.prog X.w).hash k) (h3:vs.map (·.1)=D.map (·.1)):s.heap.DictOf (strKind X.prog X.w) y vs:=
 ⟨_,es,ep,I.kIn y _ hk,⟨rfl,rfl,rfl⟩,rfl,λe he=>h2 e (by simpa using he),h1,by rw[h3];exact hn⟩
def yeB(S:Se)(X:Cx)(D:List (AS×PV))(ty:TE):TE:=λσ H Q=>ty σ H λz H2=>∃s v,z=.str s/\yaT s D=AA v/\∀x',(∀B φ H,yd X.K S.cl B φ H v x')->Q x' H2
theorem zmw(hg:Gl X x)(h:GD X.K X.w X.mg S.cl x D)(hi:PE X i ty)(hs:yda i)(hd:(x==("__debug__":AS))=false:=by decide):PE X (.Subscript (.Name x p) i pos) (yeB S X D ty):=by
 let⟨y,es,ep,hm,hk,hsy,hr,hn⟩:=h;let⟨vs,h1,h2,h3,h4,h5⟩:=hr.pairs (P:=X.prog);intro pins s σ H Q I q0;refine ziv Ed.lookup hs (thn (zdy (v:=.ref y) hg hm rfl hd pins s σ H (λz H1=>z=.ref y/\ty σ H1 λz H2=>∃s v,z=.str s/\yaT s D=AA v/\∀x',(∀B φ H,yd X.K S.cl B φ H v x')->Q x' H2) I ⟨rfl,q0⟩) λu s1 kq=>?_);let⟨z,H1,I1,rz,ez,q1⟩:=kq;refine thn (hi pins s1 σ H1 _ I1 q1) λiv s2 kq=>?_;let⟨z2,H2,I2,rz2,sx,v,ez2,e,q2⟩:=kq;subst ez;subst ez2;obtain rfl:u=An y:=rz;let⟨t,rfl⟩:=rz2;have dd:=zhM I2 hk hn h1 h2 h3;let⟨u',x',e1,e2,e3⟩:=h5 sx v e;exact⟨dd.typeIs,Gb (Dd X.prog X.w sx t) dd.mapOf e1 ⟨x',H2,I2.tok _,e2,q2 x' e3⟩⟩
theorem zpk(hg:Gl X x)(h:GD X.K X.w X.mg S.cl x D)(hb:PE X b (tE S X cb))(hs:yda b:=by exact λ_ _=>rfl)(hd:(x==("__debug__":AS))=false:=by decide):PE X (.Subscript (.Name x p) b pos) (tE S X (.dix D cb)):=
 (zmw hg h hb hs hd).imp λσ H Q ⟨B,φ,st,ρ,rs,re,h⟩=>by
  erw[ev]at h;refine tE.bind rs re h λz H1 v st1 φ1 s1 rs1 re1 rv h1=>?_;let⟨w,e,q⟩:=zas h1 rs1
  cases v with
  |str sx=>
   erw[yd]at rv;exact⟨sx,w,rv,e,λx' hx=>q x' H1 φ1 .rfl rs1 (hx _ _ _)⟩
  |_=>cases e
def yg8(y:AI)(D:List (AS×PV)):R2:=λx z H Q=>z=.ref y/\∃s,x=.str s/\Q (.bl (yaT s D).isSome) H
theorem zpa(hg:Gl X x)(h:GD X.K X.w X.mg S.cl x D)(ha:PE X a (tE S X ca))(hm:behindInMarks .In (.Name x p)=false:=by ac_rfl)(hd:(x==("__debug__":AS))=false:=by decide):PE X (.Compare a [.In] [.Name x p] pos) (tE S X (.din ca D)):=by
 let⟨y,es,ep,hmg,hk,hsy,hr,hn⟩:=h;let⟨vs,h1,h2,h3,h4,h5⟩:=hr.pairs (P:=X.prog);have op:OpR X (compareOp .In) (yg8 y D):=by
  intro pins s σ H z1 z2 v u Q I r1 r2 ⟨ez,sx,ex,q⟩;subst ez;subst ex;obtain rfl:u=An y:=r2;let⟨t,rfl⟩:=r1;have dd:=zhM I hk hn h1 h2 h3;refine wpAny_in_of (Dd X.prog X.w sx t) hsy dd.mapOf ⟨.bl (yaT sx D).isSome,H,I.tok _,?_,q⟩;rw[h4];rfl
 refine(ziA op ha (zdy (v:=.ref y) hg hmg rfl hd) hm).imp λσ H Q kq=>?_;let⟨B,φ,st,ρ,rs,re,h⟩:=kq;erw[ev]at h;refine tE.bind rs re h λz H1 v st1 φ1 s1 rs1 re1 rv h1=>?_;let⟨w,e,q⟩:=zas h1 rs1
 cases v with
 |str sx=>
  erw[yd]at rv
  cases e
  exact⟨rfl,sx,rv,q _ H1 φ1 .rfl rs1 (by erw[yd])⟩
 |_=>cases e
theorem zeV:∀(xs ys:List PV) (i:Nat) {x y:PV},xs[i]?=AA x->ys[i]?=AA y->(yaX xs ys)[i]?=AA (.tup [x,y])
 |[],_,i,_,_,h,_=>by simp at h
 |_::_,[],i,_,_,_,h=>by simp at h
 |x::xs,y::ys,0,_,_,h1,h2=>by simp at h1 h2;simp[yaX,h1,h2]
 |x::xs,y::ys,i+1,_,_,h1,h2=>by
  erw[AQ]at h1 h2;erw[yaX,AQ];exact zeV xs ys i h1 h2
theorem ze2:∀(xs ys:List PV),xs.length<=ys.length->(yaX xs ys).length=xs.length
 |[],_,_=>by simp[yaX]
 |_::_,[],h=>by simp at h
 |x::xs,y::ys,h=>by erw[yaX,AX,ze2 xs ys (by simpa using h)]
theorem zmR{k j:Bool}{vs ws:List PV}{xs ys:List V}{y z:AI}(rt:ybV X.K B φ H k y xs)(l:yg X.K S.cl B φ H vs xs)(rt2:ybV X.K B φ H j z ys)(l2:yg X.K S.cl B φ H ws ys)(hle:vs.length<=ws.length):Drw S X B φ H (yaX vs ws) (Itz X.K y z):=by
 have hl:=l.length;have hl2:=l2.length;have hp:=ze2 vs ws hle;refine⟨λφ' H' s=>⟨xs,(rt.step s).sq,by lia⟩,λi φ' H' s hi=>⟨xs,ys,xs[i]'(by lia),ys[i]'(by lia),(rt.step s).sq,(rt2.step s).sq,by simp[show i<xs.length by lia],by simp[show i<ys.length by lia]⟩,λi φ' H' st x H2 B' hB s rs hi q=>?_⟩;let⟨T,hT,rfl,q⟩:=q;obtain⟨v,hv⟩:∃v,vs[i]?=AA v:=⟨vs[i]'(by lia),by simp[show i<vs.length by lia]⟩;obtain⟨w,hw⟩:∃w,ws[i]?=AA w:=⟨ws[i]'(by lia),by simp[show i<ws.length by lia]⟩;let⟨x',hx',rv⟩:=l.get i hv;let⟨y',hy',rw'⟩:=l2.get i hw;have e:=q xs ys x' y' (rt.step s).sq (rt2.step s).sq hx' hy';subst e;refine⟨.tup [v,w],zeV vs ws i hv hw,.tup_new hT rs ?_,λb o e=>by rw[zk (zq e hT)];exact e⟩;erw[yg];exact⟨x',[y'],rfl,(rv.moreB hB).step s,y',[],rfl,(rw'.moreB hB).step s,rfl⟩
theorem zpy{es:List AW}{kk:Nat}{tp:C1}(hg:Gl X "zip")(hm:X.mg "zip"=AD)(ha:PE X a (tE S X ca))(hb:PE X b (tE S X cb))(hs:starEach [a,b] X.env=[(AC,eval a X.env),(AC,eval b X.env)]:=by rfl)(hs2:starEach [b] X.env=[(AC,eval b X.env)]:=by rfl):
  PI X (.Tuple es kk tp) (.Call (.Name "zip" p) [a,b] [] pos) (tI S X (.zip ca cb)):=
 (zmq hg hm (zbO ha (zbO hb ybr hs2) (by rw[hs,hs2])) hs hs2).imp λσ H R ⟨B,φ,st,ρ,rs,re,h⟩=>by
  erw[evi]at h;refine tE.bind rs re h λx H1 v st1 φ1 s1 rs1 re1 rv h1=>tE.bind rs1 re1 h1 λy H2 w st2 φ2 s2 rs2 re2 rw h2=>?_;let⟨zs,e,h2⟩:=zia h2
  cases v with
  |tp k vs=>
   cases w with
   |tp j ws=>
    erw[yd5]at e
    by_cases hle:vs.length<=ws.length
    .rw[if_pos hle]at e
     cases e
     erw[yd]at rv rw;let⟨a1,xs,rfl,rt,l⟩:=rv;let⟨a2,ys,rfl,rt2,l2⟩:=rw;exact⟨a1,a2,rfl,⟨xs,(rt.step s2).sq⟩,⟨ys,rt2.sq⟩,h2.ok rs2 (zmR (rt.step s2) (l.step s2) rt2 l2 hle)⟩
    .rw[if_neg hle]at e
     cases e
   |_=>cases e
  |_=>cases e
end
section
variable {K:AE}{cl:Nat->AI}{B:AI->Prop}{φ:Ph}{H:Hp}{st:SO}
end
section
variable {S:Se}{X:Cx}{K:AE}{cl:Nat->AI}{σ:St}{B:AI->Prop}{φ φ1:Ph}{H H1:Hp}{st:SO}{ρ:IC.Env}{pos p p2 px:C1}{a b c o tg l elt iter:AW}{ca cb cc ce:Ce}{ci:Cit}{ct:Tg}
end
section
variable {K:AE}{cl:Nat->AI}{B:AI->Prop}{φ:Ph}{H:Hp}{st:SO}
theorem FS.lookup{f:AS}:∀{fs:List (AS×PV)} {ks:List (AS×V)},FS K cl B φ H fs ks->(∀v,fs.lookup f=AA v->∃x,ks.lookup f=AA x/\yd K cl B φ H v x)/\(fs.lookup f=AD->ks.lookup f=AD)
 |[],ks,h=>by
  cases (show ks=[]from h)
  exact⟨nofun,λ_=>rfl⟩
 |(k,v)::r,ks,h=>by
  let⟨x,s,rfl,rv,l⟩:=h;let⟨q1,q2⟩:=FS.lookup (f:=f) l;erw[Bz]
  cases e:f==k with
  |true=>exact⟨λw z=>by cases z;exact⟨x,rfl,rv⟩,λz=>by cases z⟩
  |false=>exact⟨q1,q2⟩
theorem FS.put{f:AS}{v:PV}{x:V}(r:yd K cl B φ H v x):∀{fs:List (AS×PV)} {ks:List (AS×V)},FS K cl B φ H fs ks->FS K cl B φ H (ybT f v fs) (ya9 f x ks)
 |[],ks,h=>by
  cases (show ks=[]from h)
  exact⟨x,[],rfl,r,rfl⟩
 |(k,w)::q,ks,h=>by
  let⟨y,s,rfl,ry,l⟩:=h;erw[ybT,ya9]
  by_cases c:k=f
  .rw[if_pos c,if_pos c];exact⟨x,s,rfl,r,l⟩
  .rw[if_neg c,if_neg c];exact⟨y,_,rfl,ry,FS.put r l⟩
theorem FS.len:∀{fs:List (AS×PV)} {ks:List (AS×V)},FS K cl B φ H fs ks->fs.length=ks.length
 |[],ks,h=>by cases (show ks=[]from h);rfl
 |(k,w)::q,ks,h=>by
  let⟨y,s,rfl,ry,l⟩:=h;simp[FS.len l]
theorem yF.ins{n c:Nat}{fs:List (AS×PV)}{x:V}(rs:yF K cl B φ H st)(r:yd K cl B φ H (.loc n) x)(h:st[n]?=AA (.ins c fs)):∃y ks dx,x=.ref y/\φ[n]?=AA (AA y)/\H y=AA (.ins (cl c) dx ks)/\FS K cl B φ H fs ks:=by
 erw[yd]at r;let⟨hn,y,rfl,hy⟩:=r;let⟨a,ha⟩:=rs.liv n _ h (by intro z;cases z);let⟨o,ho,ro⟩:=rs.obj n a ha;have e:=hy a ha;subst e;rw[h]at ho
 cases ho
 let⟨ks,⟨dx,q⟩,l⟩:=ro;exact⟨a,ks,dx,rfl,ha,q,l⟩
end
section
variable {S:Se}{X:Cx}{σ:St}{B:AI->Prop}{φ φ1:Ph}{H H1:Hp}{st:SO}{ρ:IC.Env}{p pos pos' p2 apos:C1}{a b d o e:AW}{ca cb cc:Ce}{es:List AW}{ces:Ces}{c i k:Nat}{f m x:AS}{fa:AI}{fd:BK}{ps:List AS}
theorem zgj{st:SO}{x v:PV}(h:ybb c st x f=AA v):∃n fs,x=.loc n/\st[n]?=AA (.ins c fs)/\fs.lookup f=AA v:=by
 cases x with
 |loc n=>
  erw[ybb]at h;split at h
  .rename_i dd fs e;split at h
   .rename_i q;subst q;exact⟨n,fs,rfl,e,h⟩
   .cases h
  .cases h
 |_=>cases h
theorem zgH{st st4:SO}{x v:PV}(h:ybc c st x f v=AA st4):∃n fs,x=.loc n/\st[n]?=AA (.ins c fs)/\fs.length<1000/\st4=st.set n (.ins c (ybT f v fs)):=by
 cases x with
 |loc n=>
  erw[ybc]at h;split at h
  .rename_i dd fs e;split at h
   .rename_i q;let⟨q,q2⟩:=q;subst q
    cases h
    exact⟨n,fs,rfl,e,q2,rfl⟩
   .cases h
  .cases h
 |_=>cases h
theorem zj4{st:SO}{x:PV}{t:Bool}(h:yb9 c m st x=AA t):∃n fs,x=.loc n/\st[n]?=AA (.ins c fs)/\fs.lookup m=none:=by
 cases x with
 |loc n=>
  erw[yb9]at h;split at h
  .rename_i dd fs e;split at h
   .rename_i q;let⟨q,q2⟩:=q;subst q;exact⟨n,fs,rfl,e,q2⟩
   .cases h
  .cases h
 |_=>cases h
theorem znS(hc:Cls X.K (S.cl c))(hn:yaz X.K (S.cl c) f)(ha:PE X a (tE S X ca))(hb:attributeBase a f X.env (eval a X.env)=eval a X.env:=by rfl):PE X (.Attribute a f pos) (tE S X (.fld c ca f)):=
 (zny ha hb).imp λσ H Q ⟨B,φ,st,ρ,rs,re,h⟩=>by
  erw[ev]at h;refine tE.bind rs re h λx H1 v st1 φ1 s1 rs1 re1 rv h1=>?_;let⟨z,e,q⟩:=zas h1 rs1;let⟨n,fs,rfl,hn',l⟩:=zgj e;let⟨y,ks,dx,rfl,_,hy,lr⟩:=rs1.ins rv hn';let⟨x,hx,rx⟩:=lr.lookup.1 z l;exact⟨y,S.cl c,dx,ks,x,rfl,hy,hc,hn,hx,q x H1 φ1 .rfl rs1 rx⟩
theorem zoz(hc:Cls X.K (S.cl c))(hn:yaz X.K (S.cl c) f)(ha:PE X a (tE S X ca))(hv:PE X b (tE S X cb))(hs:swapsWith b (AA (.Attribute a f pos')) pos.line X.env=pure false:=by rfl):PS X (.Assign [.Attribute a f pos'] b pos) (tS S X (.sfl c ca f cb)):=
 (zoh ha hv hs).imp λD σ H ⟨B,φ,st,ρ,rs,re,h⟩=>by
  erw[ex]at h;refine tE.fl rs re h λv' H1 v st1 φ1 s1 rs1 re1 rv h1=>tE.fl rs1 re1 h1 λx' H2 x st2 φ2 s2 rs2 re2 rx h2=>?_
  cases e:ybc c st2 x f v with
  |none=>rw[e]at h2;exact h2.elim
  |some st4=>
   rw[e]at h2;let⟨n,fs,rfl,hn',hl,rfl⟩:=zgH e;let⟨y,ks,dx,rfl,hp,hy,lr⟩:=rs2.ins rx hn';refine⟨y,S.cl c,dx,ks,rfl,hy,hc,hn,by rw[<-lr.len];exact hl,?_⟩;have s4:Step φ2 H2 φ2 (L2.upd H2 y (.ins (S.cl c) dx (ya9 f v' ks))):=.put (A5 hp);exact h2 σ _ φ2 s4 (rs2.put (o:=.ins c (ybT f v fs)) hp ⟨_,⟨dx,zu⟩,(FS.put (rv.step s2) lr).step s4⟩) (re2.step s4)
theorem noX:ybQ (CX1 X.prog X.w) X (λ_ _ _=>False):=λpins σ H s e s' _ z=>by
 let⟨_,_,_,_,_,_,_,_,_,_,_,_,_,_,z⟩:=z;exact z.elim
theorem zie{vs:List PV}{xs:List V}{Q:VK}{rs:yF X.K S.cl B φ H st}(l:yg X.K S.cl B φ H vs xs)(h:Run S X σ B φ H (RV S X B) ((ybE (S.call i (.loc st.length::vs) (st++[.ins c []]))).bind λv st2=>newV st.length v st2) Q):
  ∀x dx,H x=AD->H dx=AD->dx≠x->spI X.K S.cl S.call i (.ref x::xs) (L2.upd (L2.upd H dx (.own x)) x (.ins (S.cl c) dx [])) (λv H2=>v=.non/\Q (.ref x) H2) (λ_ _ _=>False):=by
 intro x dx hx hdx ne;have hx':L2.upd H dx (.own x) x=none:=by rw[zk (BP ne)];exact hx
 have t1:Step φ H φ (L2.upd H dx (.own x)):=.upd hdx;have rs1:=rs.upd (o:=.own x) hdx;have t2:Step φ (L2.upd H dx (.own x)) (φ++[AA x]) (L2.upd (L2.upd H dx (.own x)) x (.ins (S.cl c) dx [])):=.push hx';have rs2:=rs1.push hx' (rs1.nB hx') (o:=.ins c []) ⟨[],⟨dx,zu⟩,rfl⟩;have ll:yd X.K S.cl B (φ++[AA x]) (L2.upd (L2.upd H dx (.own x)) x (.ins (S.cl c) dx [])) (.loc st.length) (.ref x):=.loc_new rs1;refine⟨B,φ++[AA x],st++[.ins c []],.loc st.length::vs,rs2,?_,?_⟩
 .simp only[yg];exact⟨.ref x,xs,rfl,ll,(l.step t1).step t2⟩
 .cases e:S.call i (.loc st.length::vs) (st++[.ins c []])with
  |ok v st'=>
   rw[e]at h;erw[ybE,R.bind]at h
   cases v with
   |non=>
    intro z H' φ' s rs' rz;erw[yd]at rz;exact⟨rz,h (.ref x) H' φ' ((t1.trans t2).trans s) rs' (ll.step s)⟩
   |_=>exact h.elim
  |exc k s=>rw[e]at h;exact h.elim
  |bad=>rw[e]at h;exact h.elim
theorem zoV(M:Mk X.K (S.cl c) fa)(F:yaO X.prog X.w X.K X.mg X.base (CX1 X.prog X.w) k fa fd ps (spI X.K S.cl S.call i))(hr:yaB (k+1) X.A)(hg:Gl X x)(hm:X.mg x=AA (.ref (S.cl c)))(hb:Binds X.K fd ps [])
  (ha:PA X (e::es) (tAs S X ces)) (hdb:(x==("__debug__":AS))=false:=by decide) (he:starEach (e::es) X.env=(AC,eval e X.env)::starEach es X.env:=by rfl) (hpl:(backTo pos (starEach es X.env)).any (·.1)=false:=by rfl):
  PE X (.Call (.Name x p) (e::es) [] pos) (tE S X (.new c i ces)):=
 (zmN M F hr hg hm hb .nil noX ha hdb he hpl).imp λσ H Q ⟨B,φ,st,ρ,rs,re,h⟩=>by
  erw[ev]at h;refine tAs.bind rs re h λxs H1 vs st1 φ1 s1 rs1 re1 rv h1=>?_;rw[BD];exact zie (rs:=rs1) rv h1
noncomputable def yb6(CX:CXT)(X:Cx)(C:AI)(m:AS)(sp:Sp)(ta:TE)(t:TA):TE:=λσ H Q=>ta σ H λx H1=>∃y dx fs,x=.ref y/\H1 y=AA (.ins C dx fs)/\fs.lookup m=AD/\t σ H1 λvs H2=>∃E:XK,sp (.ref y::vs) H2 Q E/\∀pins s e s',Inv X pins σ H2 s->CX X.stack H2 s E e s'->X.xe e s'
theorem zjw{CX:CXT}{sp:Sp}{C:AI}{ta:TE}{t:TA}{pl:HB Bool}(he:PE X o ta)(c:Cls X.K C)(hm:Meth X.K C m fa)(F:yaO X.prog X.w X.K X.mg X.base CX k fa fd ps sp)(hr:yaB k X.A)(hb:Binds X.K fd ps [])(ha:PA X (e::es) t)
  (hst:starEach (e::es) X.env=(AC,eval e X.env)::starEach es X.env:=by rfl) (hpl:(backTo pos (starEach es X.env)).any (·.1)=false:=by rfl)
  (ht:eval (.Call (.Attribute o m apos) (e::es) [] pos) X.env=(do
   let ov <-eval o X.env
   standAt apos.atName
   let (f,first) <-holding [ov] (getMethod ov m pl)
   callWith pos f first (backTo pos (starEach (e::es) X.env)) (backToKw pos (keywordEach [] X.env))):=by rfl):
  PE X (.Call (.Attribute o m apos) (e::es) [] pos) (yb6 CX X C m sp ta t):=by
 intro pins s σ H Q I h;refine FW (pl:=pl) (thn (he pins s σ H _ I h) λu s1 kq=>?_) ht;let⟨x,H1,I1,rx,y,dx,fs,ex,ea,l,q⟩:=kq;subst ex;obtain rfl:u=An y:=rx;refine zdX I1 ea c hm l ?_;refine DJ (first:=[.ref y]) (h₀:=X.base) I.ok.mod.kin hm.kp (thn (ha pos pins s1 σ H1 _ I1 q) λus s2 kq=>?_) hst hpl;let⟨vs,H2,I2,r,E,q2,hx⟩:=kq;refine ⟨I2.kIn,?_⟩;exact zc8 (us:=.ref y::us) (vs:=.ref y::vs) F hr hb .nil I2 (.cons rfl r) (by rw[BD];exact q2) λe s' z=>hx pins s2 e s' I2 z
theorem zhQ{CX:CXT}{sp:Sp}{C:AI}{ta:TE}{pl:HB Bool}(he:PE X o ta)(c:Cls X.K C)(hm:Meth X.K C m fa)(F:yaO X.prog X.w X.K X.mg X.base CX k fa fd ps sp)(hr:yaB k X.A)(hb:Binds X.K fd ps [])
  (ht:eval (.Call (.Attribute o m apos) [] [] pos) X.env=(do
   let ov <-eval o X.env
   standAt apos.atName
   let (f,first) <-holding [ov] (getMethod ov m pl)
   callWith pos f first (backTo pos (starEach [] X.env)) (backToKw pos (keywordEach [] X.env))):=by rfl):
  PE X (.Call (.Attribute o m apos) [] [] pos) (yb6 CX X C m sp ta yds):=by
 intro pins s σ H Q I h;refine FW (pl:=pl) (thn (he pins s σ H _ I h) λu s1 kq=>?_) ht;let⟨x,H1,I1,rx,y,dx,fs,ex,ea,l,E,q2,hx⟩:=kq;subst ex;obtain rfl:u=An y:=rx;refine zdX I1 ea c hm l ?_;exact Ff (first:=[.ref y]) I1.kIn hm.kp (zc8 (us:=[.ref y]) (vs:=[.ref y]) F hr hb .nil I1 (.cons rfl .nil) q2 λe s' z=>hx pins s1 e s' I1 z)
theorem zfd{Q:VK}{t:TA}(hq:∀{H1:Hp} {φ1:Ph} {st1:SO} {P:List V->Hp->Prop} {kk:List PV->SO->R PV},yF X.K S.cl B φ1 H1 st1->yU X.K S.cl B φ1 H1 ρ σ->Run S X σ B φ1 H1 (RV S X B) ((evs S.call ρ st1 ces).bind kk) Q ->
   (∀xs H2 vs st2 φ2,Step φ1 H1 φ2 H2->yF X.K S.cl B φ2 H2 st2->yU X.K S.cl B φ2 H2 ρ σ->yg X.K S.cl B φ2 H2 vs xs->Run S X σ B φ2 H2 (RV S X B) (kk vs st2) Q->P xs H2)->t σ H1 P)
  (rs:yF X.K S.cl B φ H st) (re:yU X.K S.cl B φ H ρ σ) (h:Run S X σ B φ H (RV S X B) ((ev S.call ρ st ca).bind λx st1=>onO (yb9 c m st1 x) λ_=>(evs S.call ρ st1 ces).bind λvs st2=>S.call i (x::vs) st2) Q):
  yb6 (CX1 X.prog X.w) X (S.cl c) m (spI X.K S.cl S.call i) (tE S X ca) t σ H Q:=by
 refine tE.bind rs re h λx H1 v st1 φ1 s1 rs1 re1 rv h1=>?_
 cases q:yb9 c m st1 v with
 |none=>rw[q]at h1;exact h1.elim
 |some b=>
  rw[q]at h1;erw[onO]at h1;let⟨n,fs,rfl,hn,hl⟩:=zj4 q;let⟨y,ks,dx,rfl,_,hy,lr⟩:=rs1.ins rv hn;refine⟨y,dx,ks,rfl,hy,lr.lookup.2 hl,hq rs1 re1 h1 λxs H2 vs st2 φ2 s2 rs2 re2 rl h2=>?_⟩;exact zbb rs2 (by erw[yg];exact⟨.ref y,xs,rfl,rv.step s2,rl⟩) h2
theorem zpn{pl:HB Bool}(hc:Cls X.K (S.cl c))(hm:Meth X.K (S.cl c) m fa)(F:yaO X.prog X.w X.K X.mg X.base (CX1 X.prog X.w) k fa fd ps (spI X.K S.cl S.call i))(hr:yaB k X.A)(hb:Binds X.K fd ps [])
  (ho:PE X o (tE S X ca)) (ha:PA X (e::es) (tAs S X ces))
  (hst:starEach (e::es) X.env=(AC,eval e X.env)::starEach es X.env:=by rfl) (hpl:(backTo pos (starEach es X.env)).any (·.1)=false:=by rfl)
  (ht:eval (.Call (.Attribute o m apos) (e::es) [] pos) X.env=(do
   let ov <-eval o X.env
   standAt apos.atName
   let (f,first) <-holding [ov] (getMethod ov m pl)
   callWith pos f first (backTo pos (starEach (e::es) X.env)) (backToKw pos (keywordEach [] X.env))):=by rfl):
  PE X (.Call (.Attribute o m apos) (e::es) [] pos) (tE S X (.mcl c i m ca ces)):=
 (zjw ho hc hm F hr hb ha hst hpl ht).imp λσ H Q ⟨B,φ,st,ρ,rs,re,h⟩=>by
  erw[ev]at h;exact zfd (λrs1 re1 h1 n=>tAs.bind rs1 re1 h1 n) rs re h
theorem zlC{pl:HB Bool}(hc:Cls X.K (S.cl c))(hm:Meth X.K (S.cl c) m fa)(F:yaO X.prog X.w X.K X.mg X.base (CX1 X.prog X.w) k fa fd ps (spI X.K S.cl S.call i))(hr:yaB k X.A)(hb:Binds X.K fd ps [])
  (ho:PE X o (tE S X ca))
  (ht:eval (.Call (.Attribute o m apos) [] [] pos) X.env=(do
   let ov <-eval o X.env
   standAt apos.atName
   let (f,first) <-holding [ov] (getMethod ov m pl)
   callWith pos f first (backTo pos (starEach [] X.env)) (backToKw pos (keywordEach [] X.env))):=by rfl):
  PE X (.Call (.Attribute o m apos) [] [] pos) (tE S X (.mcl c i m ca .nil)):=
 (zhQ ho hc hm F hr hb ht).imp λσ H Q ⟨B,φ,st,ρ,rs,re,h⟩=>by
  erw[ev]at h;refine zfd (t:=yds) (λ{H1 φ1 st1 P kk} rs1 re1 h1 n=>?_) rs re h;erw[evs,R.bind]at h1;exact n [] H1 [] st1 φ1 .rfl rs1 re1 (by erw[yg]) h1
end
inductive ycj(w:Ao)(fa:Nat->AI):List (AS×Nat)->List CO->Prop
 |nil:ycj w fa [] []
 |cons {k:AS} {i:Nat} {t:Hd} {D:List (AS×Nat)} {es:List CO} (h:ycj w fa D es):ycj w fa ((k,i)::D) (⟨EX w.params k,.str k t,.ref (fa i)⟩ :: es)
def GDF(K:AE)(w:Ao)(mg:AS->Option AG)(fa:Nat->AI)(x:AS)(D:List (AS×Nat)):Prop:=
 ∃(y:AI) (es:Array CO) (ep:Nat),mg x=AA (.ref y)/\K.lookup y=AA ⟨.type "dict",AD,.dict es ep,#[]⟩/\ycj w fa D es.toList/\(D.map (·.1)).Nodup
theorem ycj.pairs{P:Aa}{w:Ao}{fa:Nat->AI}{D:List (AS×Nat)}{es:List CO}(h:ycj w fa D es):
  ∃vs:List (AS×AG),Pairs (strKind P w) es vs/\(∀e∈es,∃k,(strKind P w).is k e.key=AB/\e.hash=(strKind P w).hash k)/\vs.map (·.1)=D.map (·.1) /\
   ∀s i,D.lookup s=AA i->valueAt vs s=AA (.ref (fa i)):=by
 induction h with
 |nil=>exact⟨[],.nil,λe he=>(by cases he),rfl,λs v e=>by cases e⟩
 |@cons k i t D es h ih=>
  let⟨vs,h1,h2,h3,h5⟩:=ih;have hat:∀s,valueAt ((k,An (fa i))::vs) s=if k=s then AA (.ref (fa i))else valueAt vs s:=λs=>by
   unfold valueAt;rw[CJ]
   by_cases e:k=s
   .simp[e]
   .simp[e]
  refine⟨(k,.ref (fa i))::vs,.cons (Dd P w k t) rfl h1,λe he=>?_,by rw[AL,AL,h3],λs j e=>?_⟩
  .rcases AO.1 he with rfl|he
   .exact⟨k,Dd P w k t,rfl⟩
   .exact h2 e he
  .rw[hat];erw[Bz]at e
   by_cases q:k=s
   .subst q;rw[beq_self_eq_true]at e
    cases e
    rw[if_pos rfl]
   .rw[beq_eq_false_iff_ne.2 (BP q)]at e;rw[if_neg q];exact h5 s j e
section
variable {S:Se}{X:Cx}{σ:St}{B:AI->Prop}{φ:Ph}{H:Hp}{st:SO}{ρ:IC.Env}{pos p p1 p2 p3 p4 p5 p6 p7:C1}{a b i e n:AW}{es:List AW}{ca cn:Ce}{ces:Ces}{x y:AS}{D:List (AS×Nat)}{ty:TE}{t:TA}{fa:Nat->AI}{fdd:Nat->BK}{ps:Nat->List AS}{k ix:Nat}
noncomputable def ydm(D:List (AS×Nat))(fa:Nat->AI)(ty:TE):TE:=λσ H Q=>ty σ H λz H2=>∃s j,z=.str s/\D.lookup s=AA j/\Q (.ref (fa j)) H2
theorem zkH(hg:Gl X x)(h:GDF X.K X.w X.mg fa x D)(hi:PE X i ty)(hs:yda i)(hd:(x==("__debug__":AS))=false:=by decide):PE X (.Subscript (.Name x p) i pos) (ydm D fa ty):=by
 let⟨y,es,ep,hm,hk,hr,hn⟩:=h;let⟨vs,h1,h2,h3,h5⟩:=hr.pairs (P:=X.prog);intro pins s σ H Q I q0;refine ziv Ed.lookup hs (thn (zdy (v:=.ref y) hg hm rfl hd pins s σ H (λz H1=>z=.ref y/\ty σ H1 λz H2=>∃s j,z=.str s/\D.lookup s=AA j/\Q (.ref (fa j)) H2) I ⟨rfl,q0⟩) λu s1 kq=>?_);let⟨z,H1,I1,rz,ez,q1⟩:=kq;refine thn (hi pins s1 σ H1 _ I1 q1) λiv s2 kq=>?_;let⟨z2,H2,I2,rz2,sx,j,ez2,e,q2⟩:=kq;subst ez;subst ez2;obtain rfl:u=An y:=rz;let⟨t,rfl⟩:=rz2;have dd:s2.heap.DictOf (strKind X.prog X.w) y vs:=⟨_,es,ep,I2.kIn y _ hk,⟨rfl,rfl,rfl⟩,rfl,λe he=>h2 e (by simpa using he),h1,by rw[h3];exact hn⟩;exact⟨dd.typeIs,Gb (Dd X.prog X.w sx t) dd.mapOf (h5 sx j e) ⟨.ref (fa j),H2,I2.tok _,rfl,q2⟩⟩
structure Makers(S:Se)(X:Cx)(k:Nat)(D:List (AS×Nat))(fa:Nat->AI)(fdd:Nat->BK)(ps:Nat->List AS):Prop where
 F:∀s j,D.lookup s=AA j->yaO X.prog X.w X.K X.mg X.base (CX1 X.prog X.w) k (fa j) (fdd j) (ps j) (spI X.K S.cl S.call j)
 kp:∀s j,D.lookup s=AA j->BA X.K (.ref (fa j))=AB
 b:∀s j,D.lookup s=AA j->Binds X.K (fdd j) (ps j) []
def ydh(S:Se)(X:Cx)(D:List (AS×Nat))(fa:Nat->AI)(ix:Nat)(t:TA):TE:=λσ H Q=>∃s j,D.lookup s=AA j/\σ[ix]?=AA (AA (.ref (fa j)))/\t σ H λvs H1=>∃E:XK,spI X.K S.cl S.call j vs H1 Q E/\∀pins s e s',Inv X pins σ H1 s->CX1 X.prog X.w X.stack H1 s E e s'->X.xe e s'
theorem zjQ(M:Makers S X k D fa fdd ps)(hr:yaB k X.A)(hN:X.N[ix]?=AA x)(hv:Vis X.env.scope x)(ha:PA X (e::es) t)
  (hd:(x==("__debug__":AS))=false:=by decide) (hcd:(x==("__classdict__":AS))=false:=by decide) (he:starEach (e::es) X.env=(AC,eval e X.env)::starEach es X.env:=by rfl) (hpl:(backTo pos (starEach es X.env)).any (·.1)=false:=by rfl):
  PE X (.Call (.Name x p) (e::es) [] pos) (ydh S X D fa ix t):=by
 intro pins s σ H Q I ⟨sx,j,hl,hs,h⟩;refine B8 (thn (zkQ hN hv hd hcd pins s σ H (λz H1=>z=.ref (fa j)/\t σ H1 λvs H1=>∃E:XK,spI X.K S.cl S.call j vs H1 Q E/\∀pins s e s',Inv X pins σ H1 s->CX1 X.prog X.w X.stack H1 s E e s'->X.xe e s') I ⟨_,hs,rfl,h⟩) λu s1 kq=>?_);let⟨z,H1,I1,rz,ez,q1⟩:=kq;subst ez;obtain rfl:u=An (fa j):=rz;refine DJ (h₀:=X.base) I.ok.mod.kin (M.kp sx j hl) (thn (ha pos pins s1 σ H1 _ I1 q1) λus s2 kq=>?_) he hpl;let⟨vs,H2,I2,r,E,q,hx⟩:=kq;refine ⟨I2.kIn,?_⟩;exact zc8 (M.F sx j hl) hr (M.b sx j hl) .nil I2 r (by rw[BD];exact q) λe s' c=>hx pins s2 e s' I2 c
theorem yU.hole{K:AE}{cl:Nat->AI}{v:V}(re:yU K cl B φ H ρ σ):yU K cl B φ H (ρ.set ix AD) (σ.set ix (AA v)):=by
 refine⟨by simp[re.len],λj w e=>?_⟩
 by_cases q:ix=j
 .subst q
  by_cases hj:ix<ρ.length
  .rw[Ab hj]at e;cases e
  .rw[BN (by simp;lia)]at e;cases e
 .rw[AR q]at e ⊢;exact re.get j w e
theorem zj1{v:PV}{j:Nat}{b:Bool}(h:mkV D b v=AA j):∃s,v=.str s/\D.lookup s=AA j/\b=true:=by
 cases v with
 |str s=>
  cases b with
  |true=>exact⟨s,rfl,h,rfl⟩
  |false=>cases h
 |_=>cases h
theorem zoA(M:Makers S X k D fa fdd ps)(hr:yaB k X.A)(hN:X.N.Nodup)(hi:X.N[ix]?=AA x)(hx:Loc X.env.scope x)(hv:Vis X.env.scope x)(hg:Gl X y)(hd:GDF X.K X.w X.mg fa y D)(hn:PE X n (tE S X cn))(ha:PA X (e::es) (tAs S X ces))
  (hs:yda n:=by exact λ_ _=>rfl) (hsw:swapsWith (.Subscript (.Name y p2) n p3) (AA (.Name x p1)) p4.line X.env=pure false:=by rfl) (hf:X.fn x=AB \/ X.env.scope.names.lookup x=AA .local:=by first|exact .inl rfl|exact .inr rfl|assumption)
  (hyd:(y==("__debug__":AS))=false:=by decide) (hxd:(x==("__debug__":AS))=false:=by decide) (hcd:(x==("__classdict__":AS))=false:=by decide) (he:starEach (e::es) X.env=(AC,eval e X.env)::starEach es X.env:=by rfl) (hpl:(backTo p6 (starEach es X.env)).any (·.1)=false:=by rfl):
  PSs X [.Assign [.Name x p1] (.Subscript (.Name y p2) n p3) p4,.Return (AA (.Call (.Name x p5) (e::es) [] p6)) p7] (tSs S X (.cons (.mkr ix D cn ces) .nil)):=
 (zgn (zli hN hi hx (zkH hg hd hn hs hyd) hsw hf) (zmS (zk7 (zjQ M hr hi hv ha hxd hcd he hpl)))).imp λD' σ H ⟨B,φ,st,ρ,rs,re,h⟩=>by
  have h:yaM S X B φ H (ex S.call ρ st (.mkr ix D cn ces)) D':=by
   erw[exs]at h
   cases q:ex S.call ρ st (.mkr ix D cn ces)with
   |nx ρ' s'=>
    exfalso;erw[ex]at q
    cases q1:ev S.call ρ st cn with
    |ok v1 s1=>
     rw[q1]at q;erw[R.fl]at q;split at q
     .rename_i j _
      cases q2:(evs S.call (ρ.set ix AD) s1 ces).bind λvs st2=>S.call j vs st2 with
      |ok v2 s2=>rw[q2]at q;cases q
      |exc c s2=>rw[q2]at q;cases q
      |bad=>rw[q2]at q;cases q
     .cases q
    |exc c s1=>rw[q1]at q;cases q
    |bad=>rw[q1]at q;cases q
   |rt v s'=>rw[q]at h;exact h
   |bk ρ' s'=>rw[q]at h;exact h
   |ct ρ' s'=>rw[q]at h;exact h
   |exc c ρ' s'=>rw[q]at h;exact h
   |bad=>rw[q]at h;exact h
  erw[ex]at h;refine tE.fl rs re h λx' H1 v st1 φ1 s1 rs1 re1 rv h1=>?_
  cases q:mkV D (decide (ix<ρ.length)) v with
  |none=>rw[q]at h1;exact h1.elim
  |some j=>
   rw[q]at h1;let⟨sx,rfl,hl,hb⟩:=zj1 q;erw[yd]at rv;subst rv;have hlen:ix<σ.length:=by
    rw[<-re1.len];exact of_decide_eq_true hb
   refine⟨sx,j,rfl,hl,sx,j,hl,by rw[Ab hlen],B,φ1,st1,ρ.set ix AD,rs1,re1.hole,?_⟩;dsimp only at h1
   cases q2:evs S.call (ρ.set ix AD) st1 ces with
   |bad=>rw[q2]at h1;exact h1
   |exc c s2=>rw[q2]at h1;exact λe s' z=>h1 _ φ1 H1 e s' .rfl re1.hole z
   |ok vs st2=>
    rw[q2]at h1;intro xs H2 φ2 s2 rs2 rl;have h2:yaM S X B φ1 H1 ((S.call j vs st2).fl (ρ.set ix AD) λv st3=>.rt v st3) D':=h1;refine zbb rs2 rl ?_
    cases q3:S.call j vs st2 with
    |bad=>rw[q3]at h2;exact h2
    |ok v st3=>rw[q3]at h2;exact λx H' φ' s' rs' rv=>h2 x H' φ' (s2.trans s') rs' rv
    |exc c st3=>rw[q3]at h2;exact λe s' z=>h2 _ φ2 H2 e s' s2 (re1.hole.step s2) z
end
section
variable {P:Aa}{w:Ao}{K:AE}{mg:AS->Option AG}{base:BI}{cl:Nat->AI}{T:Nat->Option IC.Fn}{fi:Nat}{fn:IC.Fn}{x qual:AS}{stm:CF}{f:AI}{fd:BK}{N ps:List AS}{k m:Nat}
theorem zkn:yaO P w K mg base (CX1 P w) m f fd ps (spI K cl (yc T 0) fi):=
 ⟨λvs H Q E ⟨_,_,_,_,_,_,h⟩=>by rw[yc]at h;exact h.elim,λA outer s H args us vs Q E _ _ _ _ ⟨_,_,_,_,_,_,h⟩=>by rw[yc]at h;exact h.elim⟩
end
theorem ydr.units{k:Nat}{A:Ay}(r:ydr k A):A.units+64<cLine:=by have:=r.un;lia
section
variable {P:Aa}{w:Ao}{K:AE}{mg:AS->Option AG}{base:BI}{cl:Nat->AI}{T:Nat->Option IC.Fn}{fi:Nat}{fn:IC.Fn}{x qual:AS}{stm:CF}{f:AI}{fd:BK}{N ps:List AS}{k m:Nat}
end
section
variable {S:Se}{X:Cx}{σ:St}{B:AI->Prop}{φ:Ph}{H:Hp}{st:SO}{ρ:IC.Env}{p pos:C1}{e:AW}{es:List AW}{ces:Ces}{fi k:Nat}{x:AS}{f:AI}{fd:BK}{ps:List AS}
end
end L2
namespace L2
open PySem IC
section
variable {S:Se}{X:Cx}{σ:St}{B:AI->Prop}{φ φ1:Ph}{H H1:Hp}{st:SO}{ρ:IC.Env}{p pos p2 px py pt pt2:C1}{a b c d o a' b' c' d':AW}{ca cb cc cd ce cf:Ce}{pins:List (AI×CK)}{s:AJ}{kt k2:Nat}{es:List AW}{ces:Ces}{x:AS}
end
end L2
namespace L2
open PySem PySem.Spec PyProof.Rows
section
variable {X:Cx}
end
end L2
namespace L2
open PySem PySem.Spec PyProof.Rows IC
section
variable {S:Se}{X:Cx}{σ:St}{B:AI->Prop}{φ φ1:Ph}{H H1:Hp}{st:SO}{ρ:IC.Env}{p pos p2 apos:C1}{a b c d:AW}{ca cb cc:Ce}{es:List AW}{ces:Ces}{K:AE}{cl:Nat->AI}
end
section
variable {S:Se}{X:Cx}{a b:AW}{c i:Nat}{j:Int}{f:AS}{pos tpos:C1}
theorem zn2(hc:Cls X.K (S.cl c))(hn:yaz X.K (S.cl c) f)(ha:PE X a (tE S X (.var i)))(hv:PE X b (tE S X (.cst (.int j)))):
  PS X (.AugAssign (.Attribute a f tpos) .Add b pos) (tS S X (.sfl c (.var i) f (.bin .add (.fld c (.var i) f) (.cst (.int j))))):=
 (ziS ha hv zoc).imp λD σ H ⟨B,φ,st,ρ,rs,re,h⟩=>by
  erw[ex,ev]at h
  cases q:ρ[i]? with
  |none=>rw[q]at h;exact h.elim
  |some o=>
   cases o with
   |none=>rw[q]at h;exact h.elim
   |some x=>
    rw[q]at h;dsimp only[R.bind]at h;refine⟨B,φ,st,ρ,rs,re,?_⟩;erw[ev,q];intro x' H1 φ1 s1 rs1 rx;have re1:=re.step s1;have h:=yaM.on s1 h
    cases e:ybb c st x f with
    |none=>rw[e]at h;exact h.elim
    |some v=>
     rw[e]at h;let⟨n,fs,rfl,hn',l⟩:=zgj e;let⟨y,ks,dx,rfl,hp,hy,lr⟩:=rs1.ins rx hn';let⟨x,hx,rxv⟩:=lr.lookup.1 v l;refine⟨y,S.cl c,dx,ks,x,rfl,hy,hc,hn,hx,⟨B,φ1,st,ρ,rs1,re1,?_⟩⟩;erw[ev];intro y' H2 φ2 s2 rs2 ry;erw[yd]at ry;subst ry
     cases v with
     |int k=>
      erw[yd]at rxv;subst rxv;refine⟨k,j,rfl,rfl,?_⟩;have h:yaM S X B φ1 H1 (match ybc c st (.loc n) f (.int (k+j))with|some st3=>Fl.nx ρ st3|none=>Fl.bad) D:=h;have h:=yaM.on s2 h;have rx2:=rx.step s2;let⟨y2,ks2,dx2,e2,hp2,hy2,lr2⟩:=rs2.ins rx2 hn'
      cases e2
      cases e3:ybc c st (.loc n) f (.int (k+j))with
      |none=>rw[e3]at h;exact h.elim
      |some st4=>
       rw[e3]at h;let⟨n',fs',z,hn2,hl,rfl⟩:=zgH e3
       cases z
       rw[hn']at hn2
       cases hn2
       refine⟨dx2,ks2,hy2,by rw[<-lr2.len];exact hl,?_⟩;have s4:Step φ2 H2 φ2 (L2.upd H2 y (.ins (S.cl c) dx2 (ya9 f (.int (k+j)) ks2))):=.put (A5 hp2);exact h σ _ φ2 s4 (rs2.put (o:=.ins c (ybT f (.int (k+j)) fs)) hp2 ⟨_,⟨dx2,zu⟩,(FS.put (by erw[yd]) lr2).step s4⟩) ((re1.step s2).step s4)
     |_=>exact h.elim
end
end L2
namespace HT
open PySem PySem.Spec PyProof.Rows
section
variable {prog:Aa}{w:Ao}{A:Ay}{E:AG->AJ->Prop}{s:AJ}
theorem zg7(n:Nat):BZ ((n:Int)-1) (-1) (-1)=n:=by
 unfold BZ;rw[if_neg (by decide)]
 by_cases h:(n:Int)-1 > -1
 .rw[if_pos h];have:-(-1:Int)=1:=rfl;rw[this,EG];lia
 .rw[if_neg h];lia
theorem zcL{sl:AI}{n:Nat}{t:Hd}{Q:Int×Int×Nat->AJ->Prop}(hs:s.heap.IsSliceOf sl .none .none (.int (-1) t))
  (h:Q ((n:Int)-1,-1,n) s):A3 (model prog w) A (CU (.ref sl) (pure (n:Int))) Q E s:=by
 let⟨os,hos,hcs,hds⟩:=id hs;unfold CU E9;refine AH (AH (BS hos hds (x:=.none) rfl (AH (BS hos hds (x:=.none) rfl (AH (BS hos hds (x:=.int (-1) t) rfl (AN ?_)))))));refine AH (slicePart_int ?_);show A3 _ _ (if ((-1:Int)==0)=AB then _ else _) _ _ s;rw[if_neg (by decide)];refine AH (ES (AH (ES (AH (AN ?_)))));show A3 _ _ (pure ((n:Int)-1,(-1:Int),BZ ((n:Int)-1) (-1) (-1))) _ _ s;rw[zg7];exact AN h
theorem zfZ{α β:Type}{f g:α->Option β}:∀l:List α,(∀x∈l,f x=g x)->l.filterMap f=l.filterMap g
 |[],_=>rfl
 |a::l,h=>by
  rw[Bv,Bv,h a As,zfZ l λx hx=>h x (AV _ hx)]
theorem zjy(l:List AG):((CS l.toArray.size).filterMap λ(m:Nat)=>l.toArray[((l.toArray.size:Int)-1+(m:Int)*(-1)).toNat]?)=l.reverse:=by
 refine DY λi=>?_;have e:∀m:Nat,m<l.length->l.toArray[((l.toArray.size:Int)-1+(m:Int)*(-1)).toNat]?=AA (l.reverse.getD m .none):=λm hm=>by
  rw[AY,show ((l.length:Int)-1+(m:Int)*(-1)).toNat=l.length-1-m by lia];rw[List.getElem?_toArray,EY,List.getElem?_reverse hm,By (by lia)];rfl
 have e2:((CS l.toArray.size).filterMap λ(m:Nat)=>l.toArray[((l.toArray.size:Int)-1+(m:Int)*(-1)).toNat]?)=(CS l.length).map λm=>l.reverse.getD m .none:=by
  rw[<-List.filterMap_eq_map,AY];refine zfZ _ λm hm=>?_;have:=e m (FY.1 hm);rw[AY]at this;exact this
 rw[e2,Bt]
 by_cases hi:i<l.length
 .rw[List.getElem?_range hi];show AA (l.reverse.getD i .none)=_;rw[EY,By (by simpa using hi)];rfl
 .rw[BN (by simpa using hi),BN (by simpa using hi)];rfl
theorem getItem_tuple_rev{t sl:AI}{l:List AG}{tk:Hd}{Q:AG->AJ->Prop}(ht:HG s.heap t l.toArray)(hs:s.heap.IsSliceOf sl .none .none (.int (-1) tk))
  (h:Q (.ref s.heap.objs.size) {s with heap:=s.heap.push {cls:=.type "tuple",data:=.seq l.reverse.toArray} })
  (hsz:l.length<=sizeLine):A3 (model prog w) A (getItem (.ref t) (.ref sl)) Q E s:=by
 have htake:sizeOk (.seq l.reverse.toArray):=by
  show l.reverse.toArray.size<=sizeLine;rw[AY,ED];exact hsz
 let⟨os,hos,hcs,hds⟩:=id hs;have hTs:s.TypeIs (.ref sl) "slice":=⟨os,hos,hcs⟩;unfold getItem
 try with_reducible refine DE ?_
 first|refine AH (AN ?_)|skip
 refine AH (Eg ht.typeIs (by decide) ?_);refine AH (B6 (name:=AF "__getitem__") ht.typeIs Al
  (CN Al ht.typeIs EC ?_ (ET _ _)))
 show A3 _ _ (Cp (.ref t) >>= _) _ _ s;refine AH (Ea ht ?_);refine AH (FG hTs ?_);rw[if_pos (by decide)];refine AH (zcL hs ?_);have hno:¬((((l.toArray.size:Int)-1)==0&&(-1:Int)==1&&l.toArray.size==l.toArray.size)=AB):=by
  intro q;rw[AK,AK]at q;exact absurd q.1.2 (by decide)
 show A3 _ _ (if (((l.toArray.size:Int)-1)==0&&(-1:Int)==1&&l.toArray.size==l.toArray.size)=AB then _ else _) _ _ s;rw[if_neg hno,zjy]
 first
  |exact AH (m:=BU _) (BQ (AN ⟨_,rfl,AN h⟩) htake)
  |exact AH (m:=BU _) (BQ (AH (AN (AN ⟨_,rfl,AN h⟩))) htake)
  |exact AH (AH (m:=BU _) (BQ (AN (AN ⟨_,rfl,AN h⟩)) htake))
  |exact AH (AH (m:=BU _) (BQ (AN ⟨_,rfl,AN h⟩) htake))
end
end HT
namespace L2
open PySem PySem.Spec PyProof.Rows IC
section
variable {S:Se}{X:Cx}{pos p2:C1}{e e3:AW}{te t3:TE}{a:AW}{ca c3:Ce}
theorem zoB(he:PE X e te)(h3:PE X e3 t3):PE X (.Subscript e (.Slice AD AD (AA e3) p2) pos) (λσ H Q=>te σ H λx H1=>t3 σ H1 λk H2=>k=.int (-1)/\∃a xs,x=.ref a/\((SqT X.K H2 a xs/\∀p,H2 p=AD->Q (.ref p) (upd H2 p (.tup xs.reverse))) \/ (SqL X.K H2 a xs/\∀p,H2 p=AD->Q (.ref p) (upd H2 p (.lst xs.reverse))))):=by
 intro pins s σ H Q I h;refine Fz (thn (he pins s σ H _ I h) λv s1 kq=>?_);let⟨x,H1,I1,r1,q1⟩:=kq;refine wpAny_Slice ?_;rw[Fm];refine AN (AN ?_);show A3 _ _ (eval e3 X.env) _ _ s1;refine thn (h3 pins s1 σ H1 _ I1 q1) λvk s3 kq=>?_;let⟨k,H3,I3,rk,ek,a,xs,ex,q⟩:=kq;subst ek ex;let⟨tk,rfl⟩:=rk
 cases r1
 have I4:Inv X pins σ H3 {s3 with heap:=s3.heap.push {cls:=.type "slice",data:=.fields #[.none,.none,.int (-1) tk]} }:=I3.kept (t':=s3.toks) λb ob q=>AM _ q;rcases q with⟨hx,q⟩|⟨hx,q⟩
 .let⟨its,r,ht,hz⟩:=I4.tuple hx;have hg:A3 (model X.prog X.w) X.A (getItem (.ref a) (.ref s3.heap.objs.size)) (EP X pins σ Q) X.xe {s3 with heap:=s3.heap.push {cls:=.type "slice",data:=.fields #[.none,.none,.int (-1) tk]} }:=by
   refine HT.getItem_tuple_rev ht (EU ..) ?_ (by rw[<-r.length];exact hz);refine⟨.ref _,_,I4.laid (t':=s3.toks) (o:=.tup xs.reverse) (λb ob q=>AM _ q) (AT _) ?_,rfl,q _ (I4.hok.fresh (AT _))⟩;exact⟨by rw[ED];exact hz,_,r.reverse,Fa _ _⟩
  show A3 (model X.prog X.w) X.A (subscriptTail e (.Slice AD AD (AA e3) p2) (.ref a) (.ref s3.heap.objs.size)) (EP X pins σ Q) X.xe {s3 with heap:=s3.heap.push {cls:=.type "slice",data:=.fields #[.none,.none,.int (-1) tk]} };exact Gr (ops:=[.ref a,.ref s3.heap.objs.size]) ht.typeIs Al.lookup hg (by ac_rfl)
 .let⟨its,r,ht,hz⟩:=I4.list hx;have hlen:=r.length;have hg:A3 (model X.prog X.w) X.A (getItem (.ref a) (.ref s3.heap.objs.size)) (EP X pins σ Q) X.xe {s3 with heap:=s3.heap.push {cls:=.type "slice",data:=.fields #[.none,.none,.int (-1) tk]} }:=by
   refine En ht.isList (EU ..) .none .none (.int (-1) tk) (by decide) ?_ (by rw[AY]<;>lia);rw[PySem.W.krv_pick];refine⟨.ref _,_,I4.laid (t':=s3.toks) (o:=.lst xs.reverse) (λb ob q=>AM _ q) (AT _) ?_,rfl,q _ (I4.hok.fresh (AT _))⟩;exact⟨by rw[ED];exact hz,its.reverse,0,r.reverse,A6 _ rfl⟩
  show A3 (model X.prog X.w) X.A (subscriptTail e (.Slice AD AD (AA e3) p2) (.ref a) (.ref s3.heap.objs.size)) (EP X pins σ Q) X.xe {s3 with heap:=s3.heap.push {cls:=.type "slice",data:=.fields #[.none,.none,.int (-1) tk]} };exact Gr (ops:=[.ref a,.ref s3.heap.objs.size]) ht.isList.typeIs Eh.lookup hg (by ac_rfl)
theorem yg.reverse{K:AE}{cl:Nat->AI}{B:AI->Prop}{φ:Ph}{H:Hp}:∀{vs:List PV} {xs:List V},yg K cl B φ H vs xs->yg K cl B φ H vs.reverse xs.reverse
 |[],xs,h=>by
  erw[yg]at h;subst h;erw[List.reverse_nil,yg]
 |v::vs,xs,h=>by
  erw[yg]at h;let⟨y,ys,rfl,r,l⟩:=h;rw[DS,DS];exact(yg.reverse l).append (by erw[yg];exact⟨y,[],rfl,r,rfl⟩)
theorem zjf{α β γ:Type}(r:R α)(f:α->SO->R β)(g:β->SO->R γ):(r.bind f).bind g=r.bind λv s=>(f v s).bind g:=by cases r<;>rfl
theorem zpg(ha:PE X a (tE S X ca))(h3:PE X e3 (tE S X (.neg (.cst (.int 1))))):PE X (.Subscript a (.Slice AD AD (AA e3) p2) pos) (tE S X (.blt .rev (.cons ca .nil))):=
 (zoB ha h3).imp λσ H Q ⟨B,φ,st,ρ,rs,re,h⟩=>by
  erw[ev,evs,zjf]at h;refine tE.bind rs re h λx H1 v st1 φ1 s1 rs1 re1 rv h1=>?_;refine⟨B,φ1,st1,ρ,rs1,re1,?_⟩;let⟨z,ez,q⟩:=zas h1 rs1;erw[ev,R.bind];intro y H2 φ2 s2 rs2 ry;erw[yd]at ry;refine⟨ry,?_⟩;unfold yaA at ez
  cases v with
  |tp k vs=>
   erw[yeM]at ez;split at ez
   .cases ez
   .cases ez
    have rv2:=rv.step s2;erw[yd]at rv2;let⟨p,xs,rfl,r1,l1⟩:=rv2;exact⟨p,xs,rfl,.inl ⟨r1.sq,λt ht=>q _ _ φ2 (s2.trans (.upd ht)) (rs2.upd ht) (.tup_new ht rs2 l1.reverse)⟩⟩
  |lst vs=>
   erw[yeM]at ez
   cases ez
   have rv2:=rv.step s2;erw[yd]at rv2;let⟨p,xs,rfl,r1,l1⟩:=rv2;exact⟨p,xs,rfl,.inr ⟨r1.sq,λt ht=>q _ _ φ2 (s2.trans (.upd ht)) (rs2.upd ht) (.lst_new ht rs2 l1.reverse)⟩⟩
  |_=>cases ez
end
section
variable {X:Cx}{prog:Aa}{w:Ao}{A:Ay}{E:AG->AJ->Prop}{s:AJ}
end
section
variable {S:Se}{X:Cx}{pos px:C1}{a:AW}{ca:Ce}
end
end L2
namespace L2
open PySem PySem.Spec PyProof.Rows IC WK
inductive GK where
 |fn (i:Nat)|fnD (i:Nat)|cst (v:PV)|dct (D:List (AS×PV))|exc (c:Nat)|cls (c i:Nat)
structure Gs where
 g:AS->Option GK
 b:AS->Bool
 t:Ty->Bool
 fl:Nat->AS->Bool
 me:Nat->AS->Option Nat
 kb:Nat->Nat->List AS->Option (List (Option Int))
 mr:AS->Option (List (AS×Nat))
structure Kx where
 N:List AS
 sc:Br
 own:Bool
def Fo(m:Nat)(S:Se)(X:Cx)(i:Nat)(f:AI)(fd:BK)(ps:List AS):Prop:=yaO X.prog X.w X.K X.mg X.base (CX1 X.prog X.w) m f fd ps (spI X.K S.cl S.call i)
structure Glo(γ:Gs)(m:Nat)(S:Se)(X:Cx):Prop where
 F:∀x i,γ.g x=AA (.fn i)->∃f fd ps,Fo m S X i f fd ps/\X.mg x=AA (.ref f)/\BA X.K (.ref f)=AB/\Binds X.K fd ps []
 Q:∀x i np ks sh,γ.g x=AA (.fnD i)->γ.kb i np ks=AA sh->∃f fd ps,Fo m S X i f fd ps/\X.mg x=AA (.ref f)/\BA X.K (.ref f)=AB/\∃g,ybM X.K fd ps ks g (gK np sh)
 C:∀x v,γ.g x=AA (.cst v)->GC X.K X.mg S.cl x v \/ ∃i,v=.int i/\GCI X.mg x i
 D:∀x d,γ.g x=AA (.dct d)->GD X.K X.w X.mg S.cl x d
 E:∀x c,γ.g x=AA (.exc c)->ydt X.K X.mg (S.cl c) x
 N:∀x c i,γ.g x=AA (.cls c i)->X.mg x=AA (.ref (S.cl c))/\∃f fd ps,Mk X.K (S.cl c) f/\Fo m S X i f fd ps/\Binds X.K fd ps []
 B:∀x,γ.b x=AB->X.mg x=AD
 T:∀t,γ.t t=AB->yeJ X.K t
 A:∀c f,γ.fl c f=AB->Cls X.K (S.cl c)/\yaz X.K (S.cl c) f
 M:∀c n i,γ.me c n=AA i->Cls X.K (S.cl c)/\∃f fd ps,Meth X.K (S.cl c) n f/\Fo m S X i f fd ps/\Binds X.K fd ps []
 K:∀y D,γ.mr y=AA D->∃fa fdd ps,Makers S X m D fa fdd ps/\GDF X.K X.w X.mg fa y D
structure Good(γ:Gs)(κ:Kx)(m:Nat)(S:Se)(X:Cx):Prop where
 n:X.N=κ.N
 sc:X.env.scope=κ.sc
 calm:X.calm=AB
 room:yaB (m+1) X.A
 own:κ.own=AB->Es (model X.prog X.w) X.A X.env X.xe/\(∀x,X.fn x=AB)/\S.may=AB
 glo:Glo γ m S X
noncomputable abbrev Pr(P:Prop):Type:=Option (PLift P)
abbrev YE(γ:Gs)(κ:Kx)(e:AW)(c:Ce):Prop:=∀m S X,Good γ κ m S X->PE X e (tE S X c)
abbrev YT(γ:Gs)(κ:Kx)(e:AW)(c:Ce):Prop:=∀m S X,Good γ κ m S X->PT X e (tTs S X c)
abbrev YW(γ:Gs)(κ:Kx)(e:AW)(c:Ce):Prop:=∀m S X,Good γ κ m S X->PW X e (tTs S X c)
abbrev YA(γ:Gs)(κ:Kx)(e:List AW)(c:Ces):Prop:=∀m S X,Good γ κ m S X->PA X e (tAs S X c)
abbrev YO(γ:Gs)(κ:Kx)(e:Option AW)(c:Ce):Prop:=∀m S X,Good γ κ m S X->PO X e (tO S X c)
abbrev YS(γ:Gs)(κ:Kx)(s:CF)(c:Cs):Prop:=∀m S X,Good γ κ m S X->PS X s (tS S X c)
abbrev YSs(γ:Gs)(κ:Kx)(s:List CF)(c:Css):Prop:=∀m S X,Good γ κ m S X->PSs X s (tSs S X c)
noncomputable def an{P Q:Prop}(a:Pr P)(k:P->Pr Q):Pr Q:=match a with
 |some h=>k h.down
 |none=>AD
noncomputable def ok{P:Prop}(h:P):Pr P:=AA ⟨h⟩
noncomputable def ask(p:Prop)[Decidable p]:Pr p:=if h:p then AA ⟨h⟩else AD
noncomputable def nst:AW->Bool
 |.Starred _ _=>AC
 |_=>AB
theorem yao{a:AW}{es:List AW}{env:B7}(h:nst a=AB):starEach (a::es) env=(AC,eval a env)::starEach es env:=by
 cases a<;>first|rfl|cases h
def ybZ(es:List AW):Bool:=es.all nst
theorem stars{pos:C1}{env:B7}:∀{es:List AW},ybZ es=AB->(backTo pos (starEach es env)).any (·.1)=AC
 |[],_=>rfl
 |a::es,h=>by
  erw[ybZ,Bj,AK]at h;rw[yao h.1];have:=stars (pos:=pos) (env:=env) (es:=es) h.2;simpa [backTo] using this
noncomputable def nco:AW->Bool
 |.ListComp ..=>AC
 |.SetComp ..=>AC
 |.DictComp ..=>AC
 |_=>AB
theorem swp{a:AW}{t:Option AW}{l:Nat}{env:B7}(h:nco a=AB):swapsWith a t l env=pure false:=by
 cases a<;>first|rfl|cases h
noncomputable def nse:AW->Bool
 |.Set ..=>AC
 |_=>AB
theorem fse{a:AW}{env:B7}(h:nse a=AB):∀x,foldedSetIterable a env x=pure x:=by
 cases a<;>first|exact λ_=>rfl|cases h
theorem nmk{op:Fj}{a:AW}(h:nse a=AB):behindInMarks op a=false:=by
 cases a<;>first|rfl|cases h
noncomputable def nsl:AW->Bool
 |.Slice ..=>AC
 |_=>AB
theorem pix{a:AW}(h:nsl a=AB):ybG a:=by
 cases a<;>first|exact λ_ _=>rfl|cases h
theorem nos{a:AW}(h:nsl a=AB):yda a:=pix h
noncomputable def ntu:AW->Bool
 |.Tuple ..=>AC
 |_=>AB
noncomputable def nte:AW->Bool
 |.UnaryOp ..=>AC
 |.BoolOp ..=>AC
 |.IfExp ..=>AC
 |.Compare ..=>AC
 |_=>AB
theorem itr{a:AW}{env:B7}(h:nte a=AB):∀whole,isTrue a env whole=(do let v <-whole;standAt a.pos;holding [v] (truthy v)):=by
 cases a<;>first|exact λ_=>rfl|cases h
noncomputable def nca:AW->Bool
 |.Call ..=>AC
 |_=>AB
theorem yd7{a:AW}{f:AS}{env:B7}{w:HB AG}(h:nca a=AB):attributeBase a f env w=w:=by
 cases a<;>first|rfl|cases h
def mOp(op:Dp)(o:BOp):Pr (∀S X,OpR X (binaryOp op) (rT2 S X (yG o))):=
 match op,o with
 |.Add,.add=>ok (λ_ _=>zoP)
 |.Sub,.sub=>ok (λ_ _=>zn8)
 |.Mult,.mul=>ok (λ_ _=>zoN)
 |.FloorDiv,.fdiv=>ok (λ_ _=>zmx)
 |.Mod,.mod=>ok (λ_ _=>zoE)
 |.Pow,.pow=>ok (λ_ _=>zot)
 |.LShift,.shl=>ok (λ_ _=>zo8)
 |.RShift,.shr=>ok (λ_ _=>zo2)
 |.BitAnd,.band=>ok (λ_ _=>zmr)
 |.BitOr,.bor=>ok (λ_ _=>zoo)
 |.BitXor,.bxor=>ok (λ_ _=>zlQ)
 |_,_=>AD
def mCm(op:Fj)(o:COp):Pr (∀m S X,yaB m X.A->OpR X (compareOp op) (rT2 S X (yN o))):=
 match op,o with
 |.Eq,.eq=>ok (λ_ _ _ r=>zpK r.units)
 |.NotEq,.ne=>ok (λ_ _ _ r=>zqi r.units)
 |.Lt,.lt=>ok (λ_ _ _ _=>zqj)
 |.LtE,.le=>ok (λ_ _ _ _=>zpM)
 |.Gt,.gt=>ok (λ_ _ _ _=>zqk)
 |.GtE,.ge=>ok (λ_ _ _ _=>zqn)
 |.In,.isin=>ok (λ_ _ _ _=>zqh)
 |_,_=>AD
noncomputable def yd4(sc:Br)(x:AS):Bool:=match sc.names.lookup x with
 |some .local=>AB
 |some .cell=>AB
 |some .free=>AB
 |_=>AC
theorem ziC{sc:Br}{x:AS}(h:yd4 sc x=AB):Vis sc x:=by
 unfold yd4 at h;split at h
 .exact .inl ‹_›
 .exact .inr (.inl ‹_›)
 .exact .inr (.inr ‹_›)
 .cases h
noncomputable def ydW(sc:Br)(x:AS):Bool:=match sc.names.lookup x with
 |some .local=>AB
 |some .cell=>AB
 |_=>AC
theorem zjk{sc:Br}{x:AS}(h:ydW sc x=AB):Loc sc x:=by
 unfold ydW at h;split at h
 .exact .inl ‹_›
 .exact .inr ‹_›
 .cases h
noncomputable def pln(x:AS):Bool:=!(x==("__debug__":AS))&&!(x==("__classdict__":AS))&&!(x==("__name__":AS))
theorem ybw{x:AS}(h:pln x=AB):(x==("__debug__":AS))=false:=by
 erw[pln,AK,Cn]at h;exact h.1.1
theorem yd0{x:AS}(h:pln x=AB):(x==("__classdict__":AS))=false:=by
 erw[pln,AK,Cn]at h;exact h.1.2
theorem yeo{x:AS}(h:pln x=AB):x ≠ "__name__":=by
 erw[pln,AK,Cn]at h;intro e;rw[e]at h;exact absurd h.2 (by decide)
def glB(κ:Kx)(x:AS):Bool:=decide (κ.sc.names.lookup x=AA .globalImplicit)&&pln x
theorem zau{γ:Gs}{κ:Kx}{m:Nat}{S:Se}{X:Cx}(G:Good γ κ m S X){x:AS}(h:glB κ x=AB):Gl X x:=by
 erw[glB,AK,decide_eq_true_eq]at h;show X.env.scope.names.lookup x=_;rw[G.sc];exact h.1
theorem zbN{κ:Kx}{x:AS}(h:glB κ x=AB):pln x=true:=by
 erw[glB,AK]at h;exact h.2
def setB(κ:Kx)(i:Nat)(x:AS):Bool:=decide (κ.N[i]?=AA x)&&decide κ.N.Nodup&&ydW κ.sc x&&(κ.own || decide (κ.sc.names.lookup x=AA .local))&&pln x
structure yeg(X:Cx)(i:Nat)(x:AS):Prop where
 d:X.N.Nodup
 i:X.N[i]?=AA x
 l:Loc X.env.scope x
 f:X.fn x=AB \/ X.env.scope.names.lookup x=AA .local
 p:pln x=AB
theorem za4{γ:Gs}{κ:Kx}{m:Nat}{S:Se}{X:Cx}(G:Good γ κ m S X){i:Nat}{x:AS}(h:setB κ i x=AB):yeg X i x:=by
 erw[setB,AK,DH,decide_eq_true_eq]at h;let⟨⟨⟨⟨h1,h2⟩,h3⟩,h4⟩,h5⟩:=h;refine⟨by rw[G.n];exact h2,by rw[G.n];exact h1,by rw[G.sc];exact zjk h3,?_,h5⟩;rcases h4 with h4|h4
 .exact .inl ((G.own h4).2.1 x)
 .exact .inr (by rw[G.sc];exact h4)
noncomputable def gFn(γ:Gs)(x:AS)(i:Nat):Pr (γ.g x=AA (.fn i)):=match h:γ.g x with
 |some (.fn j)=>if e:j=i then AA ⟨by subst e;rfl⟩else AD
 |_=>AD
section
variable {γ:Gs}{κ:Kx}{ca cb cc:Ce}{ces:Ces}
def ye8(v:PV)(e:AW):Pr (YE γ κ e (.cst v)):=
 match e with
 |.Constant (.int i) _ _=>match v with
  |.int j=>an (ask (i=j)) λh=>ok (λ_ _ _ _=>by cases h;exact zkM)
  |_=>AD
 |.Constant (.bool i) _ _=>match v with
  |.bl j=>an (ask (i=j)) λh=>ok (λ_ _ _ _=>by cases h;exact zp0)
  |_=>AD
 |.Constant .none _ _=>match v with
  |.non=>ok (λ_ _ _ _=>zo9)
  |_=>AD
 |.Constant (.str i) _ _=>match v with
  |.str j=>an (ask (i=j)) λh=>ok (λ_ _ _ _=>by cases h;exact zo1)
  |_=>AD
 |_=>AD
def yfg(i:Nat)(e:AW):Pr (YE γ κ e (.var i)):=
 match e with
 |.Name x _=>an (ask (κ.N[i]?=AA x/\yd4 κ.sc x=AB/\pln x=AB)) λh=>ok (λ_ _ _ G=>zoC (by rw[G.n];exact h.1) (by rw[G.sc];exact ziC h.2.1) (ybw h.2.2) (yd0 h.2.2))
 |_=>AD
def ygk(o:BOp)(e:AW)(fa:∀x,Pr (YE γ κ x ca))(fb:∀x,Pr (YE γ κ x cb)):Pr (YE γ κ e (.bin o ca cb)):=
 match e with
 |.BinOp a op b _=>
  an (mOp op o) λho=>an (fa a) λha=>an (fb b) λhb=>ok (λm S X G=>zoR (ho S X) (ha m S X G) (hb m S X G))
 |_=>AD
def ygT(e:AW)(fa:∀x,Pr (YE γ κ x ca)):Pr (YE γ κ e (.neg ca)):=
 match e with
 |.UnaryOp .USub a _=>
  an (fa a) λha=>ok (λm S X G=>zk4 (ha m S X G))
 |_=>AD
def yf2(e:AW)(fa:∀x,Pr (YE γ κ x ca)):Pr (YE γ κ e (.not ca)):=
 match e with
 |.UnaryOp .Not a _=>
  an (fa a) λha=>ok (λm S X G=>zoG (ha m S X G))
 |_=>AD
def ygy(o:COp)(e:AW)(fa:∀x,Pr (YE γ κ x ca))(fb:∀x,Pr (YE γ κ x cb)):Pr (YE γ κ e (.cmp o ca cb)):=
 match e with
 |.Compare a [op] [b] _=>
  an (mCm op o) λho=>an (ask (nse b=AB)) λhs=>an (fa a) λha=>an (fb b) λhb=>ok (λm S X G=>znQ (ho _ S X G.room) (ha m S X G) (hb m S X G) (nmk hs))
 |_=>AD
def ye1(o:COp)(e:AW)(fa:∀x,Pr (YE γ κ x ca))(fb:∀x,Pr (YE γ κ x cb)):Pr (YT γ κ e (.cmp o ca cb)):=
 match e with
 |.Compare a [op] [b] _=>
  an (mCm op o) λho=>an (ask (nse b=AB)) λhs=>an (fa a) λha=>an (fb b) λhb=>ok (λm S X G=>zoq (ho _ S X G.room) (ha m S X G) (hb m S X G) (nmk hs))
 |_=>AD
theorem lmk{op op':Fj}{b c:AW}(h:nse c=AB):lastMarks [op,op'] [b,c]=false:=nmk h
def ygr(o p:COp)(e:AW)(fa:∀x,Pr (YE γ κ x ca))(fb:∀x,Pr (YE γ κ x cb))(fc:∀x,Pr (YE γ κ x cc)):Pr (YE γ κ e (.chain o p ca cb cc)):=
 match e with
 |.Compare a [op,op'] [b,c] _=>
  an (mCm op o) λho=>an (mCm op' p) λhp=>an (ask (nse c=AB)) λhs=>an (fa a) λha=>an (fb b) λhb=>an (fc c) λhc=>ok (λm S X G=>zjp (ho _ S X G.room) (hp _ S X G.room) (ha m S X G) (hb m S X G) (hc m S X G) (lmk hs))
 |_=>AD
def yeD(o p:COp)(e:AW)(fa:∀x,Pr (YE γ κ x ca))(fb:∀x,Pr (YE γ κ x cb))(fc:∀x,Pr (YE γ κ x cc)):Pr (YT γ κ e (.chain o p ca cb cc)):=
 match e with
 |.Compare a [op,op'] [b,c] _=>
  an (mCm op o) λho=>an (mCm op' p) λhp=>an (ask (nse c=AB)) λhs=>an (fa a) λha=>an (fb b) λhb=>an (fc c) λhc=>ok (λm S X G=>zjB (ho _ S X G.room) (hp _ S X G.room) (ha m S X G) (hb m S X G) (hc m S X G) (lmk hs))
 |_=>AD
def yfW(e:AW)(fc:∀x,Pr (YT γ κ x cc))(fa:∀x,Pr (YE γ κ x ca))(fb:∀x,Pr (YE γ κ x cb)):Pr (YE γ κ e (.ite cc ca cb)):=
 match e with
 |.IfExp c a b _=>
  an (fc c) λhc=>an (fa a) λha=>an (fb b) λhb=>ok (λm S X G=>znn (hc m S X G) (ha m S X G) (hb m S X G))
 |_=>AD
def ygQ(e:AW)(fa:∀x,Pr (YA γ κ x ces)):Pr (YE γ κ e (.tup ces)):=
 match e with
 |.Tuple es _ _=>
  an (fa es) λha=>ok (λm S X G=>znB (ha m S X G))
 |_=>AD
def yfS(e:AW)(fa:∀x,Pr (YA γ κ x ces)):Pr (YE γ κ e (.lst ces)):=
 match e with
 |.List es _=>
  an (fa es) λha=>ok (λm S X G=>znM (ha m S X G))
 |_=>AD
def yeI(e:AW)(fa:∀x,Pr (YA γ κ x ces)):Pr (YE γ κ e (.newl ces)):=
 match e with
 |.List es _=>
  an (fa es) λha=>ok (λm S X G=>zlO (ha m S X G))
 |_=>AD
def yeN(t:Bool)(e:AW):Pr (YE γ κ e (.dict0 t)):=
 match t,e with
 |true,.Dict [] [] _=>ok (λ_ _ _ _=>zhR)
 |_,_=>AD
def mIdx(e:AW)(fa:∀x,Pr (YE γ κ x ca))(fb:∀x,Pr (YE γ κ x cb)):Pr (YE γ κ e (.idx ca cb)):=
 match e with
 |.Subscript a b _=>
  an (ask (nsl b=AB)) λhs=>an (fa a) λha=>an (fb b) λhb=>ok (λm S X G=>znT (ha m S X G) (hb m S X G) (pix hs))
 |_=>AD
def yf4(e:AW)(fa:∀x,Pr (YE γ κ x ca))(fb:∀x,Pr (YO γ κ x cb))(fc:∀x,Pr (YO γ κ x cc)):Pr (YE γ κ e (.slc ca cb cc)):=
 match e with
 |.Subscript a (.Slice l h AD _) _=>
  an (fa a) λha=>an (fb l) λhb=>an (fc h) λhc=>ok (λm S X G=>znr (ha m S X G) (hb m S X G) (hc m S X G))
 |_=>AD
def yfm(c:Ce)(e:Option AW)(fa:∀x,Pr (YE γ κ x c)):Pr (YO γ κ e c):=
 match e with
 |none=>match c with
  |.cst .non=>ok (λ_ _ _ _=>zlz)
  |_=>AD
 |some a=>
  an (fa a) λha=>ok (λm S X G=>zmO (ha m S X G))
inductive Fs(γ:Gs)(κ:Kx):Ces->Type where
 |nil:Fs γ κ .nil
 |cons {c:Ce} {cs:Ces} (f:∀x,Pr (YE γ κ x c)) (r:Fs γ κ cs):Fs γ κ (.cons c cs)
def ya6:{ces:Ces}->Fs γ κ ces->(es:List AW)->Pr (YA γ κ es ces)
 |_,.nil,[]=>ok λ_ _ _ _=>zh0
 |_,.cons f r,a::es=>an (ask (nst a=AB)) λhs=>an (f a) λha=>an (ya6 r es) λhr=>ok λm S X G=>zep (ha m S X G) (hr m S X G) (yao hs)
 |_,_,_=>AD
structure Sp2(γ:Gs)(κ:Kx)(ces:Ces)(np:Nat) where
 c1:Ces
 c2:Ces
 f1:Fs γ κ c1
 f2:Fs γ κ c2
 h:yab c1 c2=ces
 l:yc9 c1=np
def ycC:(np:Nat)->{ces:Ces}->Fs γ κ ces->Option (Sp2 γ κ ces np)
 |0,ces,F=>AA ⟨.nil,ces,.nil,F,rfl,rfl⟩
 |n+1,_,.cons f r=>match ycC n r with
  |some s=>AA ⟨.cons _ s.c1,s.c2,.cons f s.f1,s.f2,by rw[yab,s.h],by rw[yc9,s.l]⟩
  |none=>AD
 |_,_,_=>AD
structure It2(γ:Gs)(κ:Kx)(ces:Ces)(sh:List (Option Int))(kws:List C8) where
 it:List (Sum Ce Int)
 h:yw it=ces
 s:it.map shC=sh
 k:∀m S X,Good γ κ m S X->PK X kws (tK S X it)
def yca:(sh:List (Option Int))->{ces:Ces}->Fs γ κ ces->(kws:List C8)->Option (It2 γ κ ces sh kws)
 |[],_,.nil,[]=>AA ⟨[],rfl,rfl,λ_ _ _ _=>zo3⟩
 |none::sh,.cons c _,.cons f r,⟨_,e,_⟩ :: kws=>match f e,yca sh r kws with
  |some h,AA q=>AA ⟨.inl c::q.it,by rw[yw,q.h],by rw[AL,q.s];rfl,λm S X G=>zql (h.down m S X G) (q.k m S X G)⟩
  |_,_=>AD
 |some i::sh,.cons (.cst (.int j)) _,.cons _ r,kws=>if e:i=j then match yca sh r kws with
  |some q=>AA ⟨.inr i::q.it,by rw[yw,q.h,e],by rw[AL,q.s];rfl,λm S X G=>zpY (q.k m S X G)⟩
  |none=>AD
  else AD
 |_,_,_,_=>AD
noncomputable def kwN:List C8->List AS
 |[]=>[]
 |⟨AA x,_,_⟩ :: r=>x::kwN r
 |_::r=>kwN r
noncomputable def kwB:List C8->Bool
 |[]=>AB
 |⟨AA _,_,_⟩ :: r=>kwB r
 |_=>AC
theorem zo5{pos:C1}{env:B7}:∀{kws:List C8},kwB kws=AB->(backToKw pos (keywordEach kws env)).all (·.1.isSome)=AB/\(backToKw pos (keywordEach kws env)).filterMap (·.1)=kwN kws/\(backToKw pos (keywordEach kws env)).any (·.1.isNone)=AC
 |[],_=>⟨rfl,rfl,rfl⟩
 |⟨AA x,e,_⟩ :: r,h=>by
  let⟨h1,h2,h3⟩:=zo5 (pos:=pos) (env:=env) (kws:=r) h;erw[backToKw]at h1 h2 h3 ⊢;erw[keywordEach,AL,Bj,Bv,Bs,h1,h2,h3,kwN];simp
def yfH(i:Nat)(F:Fs γ κ ces)(e:AW):Pr (YE γ κ e (.call i ces)):=
 match e with
 |.Call (.Name x _) [] [] _=>match F with
  |.nil=>an (ask (glB κ x=AB)) λhg=>an (gFn γ x i) λhf=>ok λm S X G=>by
   let⟨f,fd,ps,h1,h2,h3,h4⟩:=G.glo.F x i hf;exact zjD h1 (G.room.mono (Co m)) (zau G hg) h2 h3 h4 (ybw (zbN hg))
  |_=>AD
 |.Call (.Name x _) (a::es) kws _=>an (ask (glB κ x=AB/\nst a=AB/\ybZ es=AB)) λhg=>
  match hx:γ.g x with
  |some (.fn j)=>match kws with
   |[]=>an (ask (j=i)) λhj=>an (ya6 F (a::es)) λha=>ok λm S X G=>by
    subst hj;let⟨f,fd,ps,h1,h2,h3,h4⟩:=G.glo.F x j hx;exact zmk h1 (G.room.mono (Co m)) (zau G hg.1) h2 h3 h4 (ha m S X G) (ybw (zbN hg.1)) (yao hg.2.1) (stars hg.2.2)
   |_=>AD
  |some (.fnD j)=>match hk:γ.kb j (es.length+1) (kwN kws)with
   |none=>AD
   |some sh=>match ycC (es.length+1) F with
    |none=>AD
    |some s=>match yca sh s.f2 kws with
     |none=>AD
     |some q=>an (ask (kwB kws=AB/\j=i)) λhw=>an (ya6 s.f1 (a::es)) λha=>ok λm S X G=>by
      let⟨hw,rfl⟩:=hw;let⟨f,fd,ps,h1,h2,h3,h4⟩:=G.glo.Q x j _ _ sh hx hk;rw[<-s.h,<-q.h];rw[<-q.s]at h4;have w:=λ{pos}=>zo5 (pos:=pos) (env:=X.env) hw;exact zkG h1 (G.room.mono (Co m)) (zau G hg.1) h2 h3 h4 s.l (ha m S X G) (q.k m S X G) w.1 w.2.1 (ybw (zbN hg.1)) (yao hg.2.1) (by
       rw[w.2.2,HD];exact stars (es:=a::es) (by erw[ybZ,Bj,hg.2.1,Di];exact hg.2.2))
  |_=>AD
 |_=>AD
abbrev yeR(b:Blt)(x:AS):Prop:=∀S X,X.calm=AB->(∃id,yat X (.builtin id) (rB S X b)/\bootBuiltins x=AA (.builtin id)) \/ ∃T,yat X (.type T) (rB S X b)/\bootBuiltins x=AA (.type T)
def yfL(b:Blt)(x:AS):Pr (yeR b x):=
 match b with
 |.len=>an (ask (x="len")) λh=>ok λ_ _ _=>.inl ⟨_,znv,h ▸ zov⟩
 |.min=>an (ask (x="min")) λh=>ok λ_ _ c=>.inl ⟨_,zpv c,h ▸ znO⟩
 |.max=>an (ask (x="max")) λh=>ok λ_ _ c=>.inl ⟨_,zop c,h ▸ zoe⟩
 |.tuple=>an (ask (x="tuple")) λh=>ok λ_ _ _=>.inr ⟨_,zj8,h ▸ zf6⟩
 |.all=>an (ask (x="all")) λh=>ok λ_ _ c=>.inl ⟨_,zok c,h ▸ znV⟩
 |.sum=>an (ask (x="sum")) λh=>ok λ_ _ c=>.inl ⟨_,zn0 c,h ▸ znE⟩
 |_=>AD
def ygi(b:Blt)(F:Fs γ κ ces)(e:AW):Pr (YE γ κ e (.blt b ces)):=
 match e with
 |.Call (.Name x _) (a::es) [] _=>an (ask (glB κ x=AB/\nst a=AB/\ybZ es=AB/\γ.b x=AB)) λhg=>an (yfL b x) λhb=>an (ya6 F (a::es)) λha=>ok λm S X G=>by
  rcases hb S X G.calm with⟨id,h1,h2⟩|⟨T,h1,h2⟩
  .exact zpf h1 (zau G hg.1) (G.glo.B x hg.2.2.2) h2 (ha m S X G) (yeo (zbN hg.1)) (ybw (zbN hg.1)) (yao hg.2.1) (stars hg.2.2.1)
  .exact zmi h1 (zau G hg.1) (G.glo.B x hg.2.2.2) h2 (ha m S X G) (yeo (zbN hg.1)) (ybw (zbN hg.1)) (yao hg.2.1) (stars hg.2.2.1)
 |_=>AD
def yg5(F:Fs γ κ ces)(e:AW):Pr (YE γ κ e (.blt .rev ces)):=
 match e,F with
 |.Subscript a (.Slice AD AD (AA (.UnaryOp .USub (.Constant (.int i) _ _) _)) _) _,.cons f .nil=>an (ask (i=1)) λhi=>an (f a) λha=>ok λm S X G=>by
  subst hi;exact zpg (ha m S X G) (zk4 zkM)
 |_,_=>AD
def ygC(b:Blt)(F:Fs γ κ ces)(e:AW):Pr (YE γ κ e (.blt b ces)):=
 match b with
 |.rev=>yg5 F e
 |b=>ygi b F e
def tyB(t:Ty)(x:AS):Pr (ydB t=AB/\bootBuiltins x=AA (.type (tyN t))):=
 match t with
 |.int=>an (ask (x="int")) λh=>ok ⟨rfl,h ▸ zoM⟩
 |.bool=>an (ask (x="bool")) λh=>ok ⟨rfl,h ▸ zmo⟩
 |.str=>an (ask (x="str")) λh=>ok ⟨rfl,h ▸ zoU⟩
 |.tuple=>an (ask (x="tuple")) λh=>ok ⟨rfl,h ▸ zf6⟩
 |_=>AD
def yf5(ts:List Ty)(e:AW)(fa:∀x,Pr (YE γ κ x ca)):Pr (YE γ κ e (.isi ca ts)):=
 match ts,e with
 |[t],.Call (.Name n _) [a,.Name x _] [] _=>an (ask (n="isinstance"/\glB κ n=AB/\γ.b n=AB/\glB κ x=AB/\γ.b x=AB/\γ.t t=AB/\nst a=AB)) λh=>an (tyB t x) λht=>an (fa a) λha=>ok λm S X G=>by
  let⟨rfl,h1,h2,h3,h4,h5,h6⟩:=h;exact zog (G.glo.T t h5) ht.1 (zau G h1) (G.glo.B _ h2) (zau G h3) (G.glo.B _ h4) ht.2 (ha m S X G) (yeo (zbN h3)) (ybw (zbN h3)) (yao h6) rfl
 |_,_=>AD
mutual
noncomputable def yeQ:(a b:PV)->Pr (a=b)
 |.non,.non=>ok rfl
 |.bl a,.bl b=>an (ask (a=b)) λh=>ok (by rw[h])
 |.int a,.int b=>an (ask (a=b)) λh=>ok (by rw[h])
 |.str a,.str b=>an (ask (a=b)) λh=>ok (by rw[h])
 |.tp k a,.tp j b=>an (ask (k=j)) λh=>an (ycQ a b) λg=>ok (by rw[h,g])
 |.lst a,.lst b=>an (ycQ a b) λg=>ok (by rw[g])
 |_,_=>AD
noncomputable def ycQ:(a b:List PV)->Pr (a=b)
 |[],[]=>ok rfl
 |a::x,b::y=>an (yeQ a b) λh=>an (ycQ x y) λg=>ok (by rw[h,g])
 |_,_=>AD
end
def eqD:(a b:List (AS×PV))->Pr (a=b)
 |[],[]=>ok rfl
 |(k,a)::x,(j,b)::y=>an (ask (k=j)) λe=>an (yeQ a b) λh=>an (eqD x y) λg=>ok (by rw[e,h,g])
 |_,_=>AD
def yha(v:PV)(e:AW):Pr (YE γ κ e (.cst v)):=
 match e with
 |.Name x _=>match h:γ.g x with
  |some (.cst u)=>an (ask (glB κ x=AB)) λhg=>an (yeQ u v) λhv=>ok λm S X G=>by
   subst hv;rcases G.glo.C x u h with q|⟨i,rfl,q⟩
   .exact zqe (zau G hg) q (ybw (zbN hg))
   .exact zof (zau G hg) q (ybw (zbN hg))
  |_=>AD
 |e=>ye8 v e
def yg4(D:List (AS×PV))(e:AW)(fb:∀x,Pr (YE γ κ x cb)):Pr (YE γ κ e (.dix D cb)):=
 match e with
 |.Subscript (.Name x _) b _=>match h:γ.g x with
  |some (.dct E)=>an (ask (glB κ x=AB/\nsl b=AB)) λhg=>an (eqD E D) λhv=>an (fb b) λhb=>ok λm S X G=>by
   subst hv;exact zpk (zau G hg.1) (G.glo.D x E h) (hb m S X G) (nos hg.2) (ybw (zbN hg.1))
  |_=>AD
 |_=>AD
def ygw(D:List (AS×PV))(e:AW)(fa:∀x,Pr (YE γ κ x ca)):Pr (YE γ κ e (.din ca D)):=
 match e with
 |.Compare a [.In] [.Name x _] _=>match h:γ.g x with
  |some (.dct E)=>an (ask (glB κ x=AB)) λhg=>an (eqD E D) λhv=>an (fa a) λha=>ok λm S X G=>by
   subst hv;exact zpa (zau G hg) (G.glo.D x E h) (ha m S X G) rfl (ybw (zbN hg))
  |_=>AD
 |_=>AD
theorem ydT{pos:C1}{env:B7}:∀{es:List AW},ybZ es=AB->((backTo pos (starEach es env)).all λx=>!x.1)=AB
 |[],_=>rfl
 |a::es,h=>by
  erw[ybZ,Bj,AK]at h;have:=ydT (pos:=pos) (env:=env) (es:=es) h.2;erw[backTo]at this ⊢;rw[yao h.1,AL,Bj,this];rfl
theorem zkT{o:AW}{n:AS}{ap pos:C1}{es:List AW}{env:B7}(hb:nca o=AB)(hs:ybZ es=AB)(hn:es.length<30)(hl:(ap.endLine==pos.line)=AB):
  eval (.Call (.Attribute o n ap) es [] pos) env=(do
   let ov <-eval o env
   standAt ap.atName
   let (f,first) <-holding [ov] (getMethod ov n (do return (<-importBound o env).getD AB))
   callWith pos f first (backTo pos (starEach es env)) (backToKw pos (keywordEach [] env))):=by
 have hf:methodCallForm (es.length+([]:List C8).length) (backTo pos (starEach es env)) (backToKw pos (keywordEach [] env))=true:=by
  erw[methodCallForm,ydT hs,Di];simp[backToKw,keywordEach,hn]
 rw[arm_eval_Call,yd7 hb];erw[methodCall,calleeOf,methodCallPos,hf,hl,if_true,HF,Bool.or_true,pure_bind]
def yg2(c:Nat)(f:AS)(e:AW)(fa:∀x,Pr (YE γ κ x ca)):Pr (YE γ κ e (.fld c ca f)):=
 match e with
 |.Attribute a g _=>an (ask (g=f/\γ.fl c f=AB/\nca a=AB)) λh=>an (fa a) λha=>ok λm S X G=>by
  let⟨rfl,h1,h2⟩:=h;exact znS (G.glo.A c g h1).1 (G.glo.A c g h1).2 (ha m S X G) (yd7 h2)
 |_=>AD
def ygF(c i:Nat)(F:Fs γ κ ces)(e:AW):Pr (YE γ κ e (.new c i ces)):=
 match e with
 |.Call (.Name x _) (a::es) [] _=>match h:γ.g x with
  |some (.cls c' i')=>an (ask (c'=c/\i'=i/\glB κ x=AB/\nst a=AB/\ybZ es=AB)) λhg=>an (ya6 F (a::es)) λha=>ok λm S X G=>by
   let⟨rfl,rfl,h1,h2,h3⟩:=hg;let⟨q,f,fd,ps,q1,q2,q3⟩:=G.glo.N x c' i' h;exact zoV q1 q2 G.room (zau G h1) q q3 (ha m S X G) (ybw (zbN h1)) (yao h2) (stars h3)
  |_=>AD
 |_=>AD
def ygX(c i:Nat)(n:AS)(F:Fs γ κ ces)(e:AW)(fa:∀x,Pr (YE γ κ x ca)):Pr (YE γ κ e (.mcl c i n ca ces)):=
 match e with
 |.Call (.Attribute (.Name x p) n' ap) [] [] pos=>match F with
  |.nil=>an (ask (n'=n/\γ.me c n=AA i/\(ap.endLine==pos.line)=AB)) λh=>an (fa (.Name x p)) λho=>ok λm S X G=>by
   let⟨rfl,h1,h4⟩:=h;let⟨q,f,fd,ps,q1,q2,q3⟩:=G.glo.M c n' i h1;exact zlC q q1 q2 (G.room.mono (Co m)) q3 (ho m S X G) (zkT rfl rfl (Nat.zero_lt_succ _) h4)
  |_=>AD
 |.Call (.Attribute (.Name x p) n' ap) (a::es) [] pos=>an (ask (n'=n/\γ.me c n=AA i/\nst a=AB/\ybZ es=AB/\(ap.endLine==pos.line)=AB/\(a::es).length<30)) λh=>an (fa (.Name x p)) λho=>an (ya6 F (a::es)) λha=>ok λm S X G=>by
  let⟨rfl,h1,h2,h3,h4,h5⟩:=h;let⟨q,f,fd,ps,q1,q2,q3⟩:=G.glo.M c n' i h1;exact zpn q q1 q2 (G.room.mono (Co m)) q3 (ho m S X G) (ha m S X G) (yao h2) (stars h3) (zkT rfl (by erw[ybZ,Bj,h2,Di];exact h3) h5 h4)
 |_=>AD
theorem yf3{pos:C1}{env:B7}{b:AW}(h:nst b=AB):((backTo pos (starEach [b] env)).all (λx=>!x.1)&&(backToKw pos (keywordEach [] env)).all (λx=>x.1.isSome)&&decide (([b]:List AW).length+([]:List C8).length+(if ([]:List C8).isEmpty then 0 else 1)<30))=true:=by
 rw[yao h];rfl
def ygM(k:Mth)(F:Fs γ κ ces)(e:AW)(fa:∀x,Pr (YE γ κ x ca)):Pr (YE γ κ e (.mth k ca ces)):=
 match k,e,F with
 |.append,.Call (.Attribute a n ap) [b] [] pos,.cons fb .nil=>an (ask (n="append"/\nca a=AB/\nst b=AB/\(ap.endLine==pos.line)=AB)) λh=>an (fa a) λha=>an (fb b) λhb=>ok λm S X G=>by
  let⟨rfl,h1,h2,h3⟩:=h;exact zig (ha m S X G) (hb m S X G) (yao h2) (yd7 h1) h3 (yf3 h2)
 |.get,.Call (.Attribute a n ap) [b,c] [] pos,.cons fb (.cons fc .nil)=>an (ask (n="get"/\nca a=AB/\nst b=AB/\nst c=AB/\(ap.endLine==pos.line)=AB)) λh=>an (fa a) λha=>an (fb b) λhb=>an (fc c) λhc=>ok λm S X G=>by
  let⟨rfl,h1,h2,h4,h3⟩:=h;exact zpd (zl4 G.room) (ha m S X G) (hb m S X G) (hc m S X G) ⟨yd7 h1,by rw[yao h2,yao h4];rfl,h3,by rw[yao h2,yao h4];rfl⟩
 |_,_,_=>AD
end
structure Ev(γ:Gs)(c:Ce) where
 e:∀κ x,Pr (YE γ κ x c)
 t:∀κ x,Pr (YT γ κ x c)
 w:∀κ op l pos,Pr (YW γ κ (.BoolOp op l pos) c)
section
variable {γ:Gs}{ca cb cc:Ce}
def w1{c:Ce}(t:∀κ x,Pr (YT γ κ x c))(κ:Kx)(op:HR)(l:List AW)(pos:C1):Pr (YW γ κ (.BoolOp op l pos) c):=
 match op,l with
 |.And,[a]=>an (t κ a) λh=>ok λm S X G=>zmY (h m S X G)
 |.Or,[a]=>an (t κ a) λh=>ok λm S X G=>znf (h m S X G)
 |_,_=>AD
def plT{c:Ce}(e:∀κ x,Pr (YE γ κ x c))(κ:Kx)(x:AW):Pr (YT γ κ x c):=an (ask (nte x=AB)) λh=>an (e κ x) λhe=>ok λm S X G=>zoi (he m S X G) (itr h)
def plain{c:Ce}(e:∀κ x,Pr (YE γ κ x c)):Ev γ c:=⟨e,plT e,w1 (plT e)⟩
def ycK{c:Ce}(e:∀κ x,Pr (YE γ κ x c))(t:∀κ x,Pr (YT γ κ x c)):Ev γ c:=⟨e,t,w1 t⟩
def yfX(A:Ev γ ca)(κ:Kx)(e:AW):Pr (YT γ κ e (.not ca)):=
 match e with
 |.UnaryOp .Not a _=>an (A.t κ a) λh=>ok λm S X G=>zn3 (h m S X G)
 |_=>AD
def yfJ(A:Ev γ ca)(B:Ev γ cb)(κ:Kx)(e:AW):Pr (YE γ κ e (.and ca cb)):=
 match e with
 |.BoolOp .And (a::b::[]) _=>an (A.e κ a) λha=>an (B.e κ b) λhb=>ok λm S X G=>zlk (ha m S X G) (zll (hb m S X G))
 |.BoolOp .And (a::b::c::r) p=>an (A.e κ a) λha=>an (B.e κ (.BoolOp .And (b::c::r) p)) λhb=>ok λm S X G=>zlk (ha m S X G) (hb m S X G)
 |_=>AD
def orE(A:Ev γ ca)(B:Ev γ cb)(κ:Kx)(e:AW):Pr (YE γ κ e (.or ca cb)):=
 match e with
 |.BoolOp .Or (a::b::[]) _=>an (A.e κ a) λha=>an (B.e κ b) λhb=>ok λm S X G=>zoy (ha m S X G) (zll (hb m S X G))
 |.BoolOp .Or (a::b::c::r) p=>an (A.e κ a) λha=>an (B.e κ (.BoolOp .Or (b::c::r) p)) λhb=>ok λm S X G=>zoy (ha m S X G) (hb m S X G)
 |_=>AD
def yex(A:Ev γ ca)(B:Ev γ cb)(κ:Kx)(op:HR)(l:List AW)(pos:C1):Pr (YW γ κ (.BoolOp op l pos) (.and ca cb)):=
 match op,l with
 |.And,a::b::r=>an (A.t κ a) λha=>an (B.w κ .And (b::r) pos) λhb=>ok λm S X G=>zoY (ha m S X G) (hb m S X G)
 |_,_=>AD
def orW(A:Ev γ ca)(B:Ev γ cb)(κ:Kx)(op:HR)(l:List AW)(pos:C1):Pr (YW γ κ (.BoolOp op l pos) (.or ca cb)):=
 match op,l with
 |.Or,a::b::r=>an (A.t κ a) λha=>an (B.w κ .Or (b::r) pos) λhb=>ok λm S X G=>zqa (ha m S X G) (hb m S X G)
 |_,_=>AD
def ptW{c:Ce}(w:∀κ op l pos,Pr (YW γ κ (.BoolOp op l pos) c))(κ:Kx)(e:AW):Pr (YT γ κ e c):=
 match e with
 |.BoolOp op l p=>an (w κ op l p) λh=>ok λm S X G=>PW.pt (h m S X G)
 |_=>AD
def yft{c:Ce}(t:∀κ x,Pr (YT γ κ x c))(w:∀κ op l pos,Pr (YW γ κ (.BoolOp op l pos) c))(κ:Kx)(op:HR)(l:List AW)(pos:C1):Pr (YW γ κ (.BoolOp op l pos) c):=
 match l with
 |[a]=>w1 t κ op [a] pos
 |l=>w κ op l pos
def yd9(A:Ev γ ca)(B:Ev γ cb):Ev γ (.and ca cb):=⟨yfJ A B,ptW (yex A B),yft (ptW (yex A B)) (yex A B)⟩
def yfR(A:Ev γ ca)(B:Ev γ cb):Ev γ (.or ca cb):=⟨orE A B,ptW (orW A B),yft (ptW (orW A B)) (orW A B)⟩
end
abbrev YI(γ:Gs)(κ:Kx)(tg l:AW)(c:Cit):Prop:=∀m S X,Good γ κ m S X->PI X tg l (tI S X c)
abbrev YG(γ:Gs)(κ:Kx)(tg:AW)(c:Tg):Prop:=∀m S X,Good γ κ m S X->PG X tg (tG S X c)
section
variable {γ:Gs}{κ:Kx}{ca cb cc ce:Ce}{ci:Cit}
def ygP(e:∀x,Pr (YE γ κ x ca))(tg l:AW):Pr (YI γ κ tg l (.seq ca)):=an (e l) λh=>ok λm S X G=>zpD (h m S X G)
def iR1(fa:∀x,Pr (YE γ κ x ca))(tg l:AW):Pr (YI γ κ tg l (.range1 ca)):=
 match l with
 |.Call (.Name x _) [a] [] _=>an (ask (x="range"/\glB κ x=AB/\γ.b x=AB/\nst a=AB)) λh=>an (fa a) λha=>ok λm S X G=>by
  let⟨rfl,h1,h2,h3⟩:=h;exact zic (zau G h1) (G.glo.B _ h2) (ha m S X G) (yao h3)
 |_=>AD
def yeT(fa:∀x,Pr (YE γ κ x ca))(tg l:AW):Pr (YI γ κ tg l (.enum ca)):=
 match tg,l with
 |.Tuple _ _ _,.Call (.Name x _) [a] [] _=>an (ask (x="enumerate"/\glB κ x=AB/\γ.b x=AB/\nst a=AB)) λh=>an (fa a) λha=>ok λm S X G=>by
  let⟨rfl,h1,h2,h3⟩:=h;exact zmg (zau G h1) (G.glo.B _ h2) (ha m S X G) (yao h3)
 |_,_=>AD
def ygY(fa:∀x,Pr (YE γ κ x ca))(fb:∀x,Pr (YE γ κ x cb))(tg l:AW):Pr (YI γ κ tg l (.zip ca cb)):=
 match tg,l with
 |.Tuple _ _ _,.Call (.Name x _) [a,b] [] _=>an (ask (x="zip"/\glB κ x=AB/\γ.b x=AB/\nst a=AB/\nst b=AB)) λh=>an (fa a) λha=>an (fb b) λhb=>ok λm S X G=>by
  let⟨rfl,h1,h2,h3,h4⟩:=h;exact zpy (zau G h1) (G.glo.B _ h2) (ha m S X G) (hb m S X G) (by rw[yao h3,yao h4];rfl) (yao h4)
 |_,_=>AD
def gNm(κ:Kx):(l:List Nat)->(es:List AW)->Pr (∀m S X,Good γ κ m S X->PGs X es (gNs l)/\(assignEach es X.env).length=l.length/\(assignEach es X.env).findIdx? (·.1)=AD)
 |[],[]=>ok λ_ _ _ _=>⟨zlL,rfl,rfl⟩
 |i::l,.Name x _::es=>an (ask (setB κ i x=AB)) λh=>an (gNm κ l es) λhr=>ok λm S X G=>by
  have s:=za4 G h;let⟨h1,h2,h3⟩:=hr m S X G;refine⟨zks s.d s.i s.l h1 s.f,?_,?_⟩
  .simp only[assignEach,AX,h2]
  .simp only[assignEach,List.findIdx?_cons,h3];rfl
 |_,_=>AD
def mTg(ct:Tg)(tg:AW):Pr (YG γ κ tg ct):=
 match ct,tg with
 |.n i,.Name x _=>an (ask (setB κ i x=AB)) λh=>ok λm S X G=>let s:=za4 G h;zmQ s.d s.i s.l s.f
 |.t l,.Tuple es _ _=>an (gNm κ l es) λh=>ok λm S X G=>zo4 G.calm (h m S X G).1 (h m S X G).2.1 (h m S X G).2.2
 |_,_=>AD
noncomputable def tgN:AW->List AS
 |.Name x _=>[x]
 |.Tuple es _ _=>es.filterMap fun
  |.Name x _=>AA x
  |_=>AD
 |_=>[]
def ydM(N:List AS)(sl:List (Option Nat))(tg:AW):List Str:=tgN tg++(sl.drop (tgN tg).length).filterMap λo=>o.bind λj=>N[j]?
noncomputable def ycp(sc so:Br):Scope:={sc with names:=sc.names.map λ(n,k)=>if (k==Ck&&so.kind==.function&&so.names.lookup n==AA .cell)then(n,Fp)else(n,k)}
noncomputable def yaq(N:List AS)(so sc:Br)(NC:List AS)(sl:List (Option Nat)):Bool:=
 decide (sc.kind=.function)&&(sc.names.all λy=>y.2 != .local || decide (sc.names.lookup y.1=AA .local))&&(sc.names.all λy=>y.2 != .cell)&&(sc.names.all λy=>y.2 != .free || decide (so.names.lookup y.1=AA .cell)) &&
  ((NC.zip sl).all λp=>p.2.all λj=>decide (N[j]?=AA p.1/\sc.names.lookup p.1=AA .free))&&decide (sl.length=NC.length)
theorem zkl{X:Cx}{sc:Br}{NC:List AS}{sl:List (Option Nat)}(h:yaq X.N X.env.scope sc NC sl=AB):yav X sc NC sl:=by
 erw[yaq,AK,decide_eq_true_eq,Bc,DH,bne_iff_ne,ne_eq]at h;let⟨⟨⟨⟨⟨h1,h2⟩,h3⟩,h4⟩,h5⟩,h6⟩:=h;exact ydu _ _ rfl rfl h1 (λy hy e=>(h2 y hy).resolve_left λz=>z e) h3 (λy hy e=>(h4 y hy).resolve_left λz=>z e) (λp hp=>by simpa using h5 p hp) h6
theorem Good.comp{m:Nat}{S:Se}{X:Cx}(G:Good γ κ m S X)(sc:Br)(NC:List AS)(j:CI):Good γ ⟨NC,ycp sc κ.sc,AC⟩ m S (cxC X sc NC j):=by
 refine⟨rfl,?_,G.calm,G.room,(λh=>nomatch h),⟨G.glo.F,G.glo.Q,G.glo.C,G.glo.D,G.glo.E,G.glo.N,G.glo.B,G.glo.T,G.glo.A,G.glo.M,λy D h=>let ⟨fa,fdd,ps,M,d⟩:=G.glo.K y D h;⟨fa,fdd,ps,⟨M.F,M.kp,M.b⟩,d⟩⟩⟩;show relabel sc X.env=_;rw[<-G.sc];rfl
def yf1(c:Ce)(f:∀x,Pr (YT γ κ x c))(ifs:List AW):Pr (∀m S X,Good γ κ m S X->PTs X ifs (tT0 S X.K c)):=
 match ifs with
 |[]=>match c with
  |.cst (.bl AB)=>ok λ_ _ _ _=>zjr
  |_=>AD
 |[a]=>an (f a) λh=>ok λm S X G=>zmh rfl (h m S X G)
 |_=>AD
structure ycZ(γ:Gs)(κ:Kx)(sl:List (Option Nat))(ct:Tg)(ci:Cit)(cc ce:Ce)(elt tg it:AW)(ifs:List AW)(sc:Br):Prop where
 q:∀m S X,Good γ κ m S X->∃NC,yav X sc NC sl/\PI X tg it (tI S X ci)/\(∀j,PG (cxC X sc NC j) tg (tG0 S X.K ct))/\(∀j,PTs (cxC X sc NC j) ifs (tT0 S X.K cc))/\∀j,PE (cxC X sc NC j) elt (tE0 S X.K ce)
 f:yaH ct sl=AB
 s:nse it=AB
def mCo(sl:List (Option Nat))(ct:Tg)(fi:∀tg l,Pr (YI γ κ tg l ci))(C:Ev γ cc)(E:Ev γ ce)(elt tg it:AW)(ifs:List AW)(sc:Br):Pr (ycZ γ κ sl ct ci cc ce elt tg it ifs sc):=
 an (ask (yaq κ.N κ.sc sc (ydM κ.N sl tg) sl=AB/\yaH ct sl=AB/\nse it=AB)) λh=>an (fi tg it) λhi=>an (mTg (γ:=γ) (κ:=⟨ydM κ.N sl tg,ycp sc κ.sc,AC⟩) ct tg) λhg=>
  an (yf1 (γ:=γ) (κ:=⟨ydM κ.N sl tg,ycp sc κ.sc,AC⟩) cc (C.t _) ifs) λht=>an (E.e ⟨ydM κ.N sl tg,ycp sc κ.sc,AC⟩ elt) λhe=>ok ⟨λm S X G=>⟨ydM κ.N sl tg,by
   rw[<-G.n,<-G.sc]at h;rw[<-G.n];exact zkl h.1,hi m S X G,λj=>zlV rfl (hg m S _ (G.comp sc _ j)),λj=>ht m S _ (G.comp sc _ j),λj=>zmt rfl (he m S _ (G.comp sc _ j))⟩,h.2.1,h.2.2⟩
def yeL(sl:List (Option Nat))(ct:Tg)(fi:∀tg l,Pr (YI γ κ tg l ci))(C:Ev γ cc)(E:Ev γ ce)(e:AW):Pr (YE γ κ e (.comp sl ct ci cc ce)):=
 match e with
 |.ListComp elt [⟨tg,it,ifs,0⟩] sc _=>an (mCo sl ct fi C E elt tg it ifs sc) λh=>ok λm S X G=>by
  let⟨NC,h1,h2,h3,h4,h5⟩:=h.q m S X G;exact zly G.calm h1 h.f h2 h3 h4 h5 (fse h.s)
 |_=>AD
end
section
variable {γ:Gs}{κ:Kx}
end
mutual
noncomputable def ch(γ:Gs):(c:Ce)->Ev γ c
 |.cst v=>plain λκ x=>yha v x
 |.var i=>plain λκ x=>yfg i x
 |.bin o a b=>plain λκ x=>ygk o x ((ch γ a).e κ) ((ch γ b).e κ)
 |.neg a=>plain λκ x=>ygT x ((ch γ a).e κ)
 |.not a=>ycK (λκ x=>yf2 x ((ch γ a).e κ)) (yfX (ch γ a))
 |.and a b=>yd9 (ch γ a) (ch γ b)
 |.or a b=>yfR (ch γ a) (ch γ b)
 |.cmp o a b=>ycK (λκ x=>ygy o x ((ch γ a).e κ) ((ch γ b).e κ)) (λκ x=>ye1 o x ((ch γ a).e κ) ((ch γ b).e κ))
 |.chain o p a b c=>ycK (λκ x=>ygr o p x ((ch γ a).e κ) ((ch γ b).e κ) ((ch γ c).e κ)) (λκ x=>yeD o p x ((ch γ a).e κ) ((ch γ b).e κ) ((ch γ c).e κ))
 |.ite c a b=>plain λκ x=>yfW x ((ch γ c).t κ) ((ch γ a).e κ) ((ch γ b).e κ)
 |.tup es=>plain λκ x=>ygQ x (ya6 (chs γ es κ))
 |.lst es=>plain λκ x=>yfS x (ya6 (chs γ es κ))
 |.newl es=>plain λκ x=>yeI x (ya6 (chs γ es κ))
 |.dict0 t=>plain λκ x=>yeN t x
 |.idx a i=>plain λκ x=>mIdx x ((ch γ a).e κ) ((ch γ i).e κ)
 |.slc a l h=>plain λκ x=>yf4 x ((ch γ a).e κ) (λo=>yfm l o ((ch γ l).e κ)) (λo=>yfm h o ((ch γ h).e κ))
 |.call f es=>plain λκ x=>yfH f (chs γ es κ) x
 |.blt b es=>plain λκ x=>ygC b (chs γ es κ) x
 |.mth k o es=>plain λκ x=>ygM k (chs γ es κ) x ((ch γ o).e κ)
 |.isi a ts=>plain λκ x=>yf5 ts x ((ch γ a).e κ)
 |.comp sl tg it c e=>plain λκ x=>yeL sl tg (chi γ it κ) (ch γ c) (ch γ e) x
 |.frz a=>plain λκ x=>an ((ch γ a).e κ x) λh=>ok λm S X G=>znC (h m S X G)
 |.nope=>plain λκ x=>ok λ_ _ _ _=>zlH
 |.dix D a=>plain λκ x=>yg4 D x ((ch γ a).e κ)
 |.din a D=>plain λκ x=>ygw D x ((ch γ a).e κ)
 |.fld c a f=>plain λκ x=>yg2 c f x ((ch γ a).e κ)
 |.new c i es=>plain λκ x=>ygF c i (chs γ es κ) x
 |.mcl c i n o es=>plain λκ x=>ygX c i n (chs γ es κ) x ((ch γ o).e κ)
noncomputable def chs(γ:Gs):(cs:Ces)->(κ:Kx)->Fs γ κ cs
 |.nil,_=>.nil
 |.cons c cs,κ=>.cons (λx=>(ch γ c).e κ x) (chs γ cs κ)
noncomputable def chi(γ:Gs):(c:Cit)->(κ:Kx)->∀tg l,Pr (YI γ κ tg l c)
 |.seq a,κ=>ygP ((ch γ a).e κ)
 |.range1 a,κ=>iR1 ((ch γ a).e κ)
 |.enum a,κ=>yeT ((ch γ a).e κ)
 |.zip a b,κ=>ygY ((ch γ a).e κ) ((ch γ b).e κ)
 |_,_=>λ_ _=>AD
end
section
variable {γ:Gs}{κ:Kx}{ca cb cc ce:Ce}{ci:Cit}{ct:Tg}{cs cs':Css}{ces:Ces}
def yeb(f:∀x,Pr (YE γ κ x ca))(s:CF):Pr (YS γ κ s (.expr ca)):=
 match s with
 |.Expr a _=>an (ask (nco a=AB)) λhs=>an (f a) λh=>ok λm S X G=>zmn (h m S X G) (swp hs)
 |_=>AD
def ye6(i:Nat)(f:∀x,Pr (YE γ κ x ca))(s:CF):Pr (YS γ κ s (.asg (.n i) ca)):=
 match s with
 |.Assign [.Name x _] a _=>an (ask (nco a=AB/\setB κ i x=AB)) λhs=>an (f a) λh=>ok λm S X G=>let q:=za4 G hs.2;znt q.d q.i q.l (h m S X G) (swp hs.1) q.f
 |_=>AD
theorem yfr{a:AW}(h:nst a=AB):(match (generalizing:=false) a with | .Starred _ _=>AB|_=>AC)=false:=by
 revert h;cases a<;>intro h<;>first|rfl|cases h
def swD(so:Br)(x y:AS)(px py:C1)(a b:AW):Bool:=(if so.kind.isAnnotationScope then GE else so.kind)==.function&&so.names.lookup x==AA .local&&so.names.lookup y==AA .local&&py.line==px.line&&nst a&&nst b&&!(x==y)&&!(foldedForSure 8 a&&foldedForSure 8 b)&&!(constantsAlone 8 a&&constantsAlone 8 b)
theorem ygO{x y:AS}{px py pt pt2:C1}{kt k2:Nat}{a b:AW}{env:B7}(h:swD env.scope x y px py a b=AB):
  swappedStores [.Tuple [.Name x px,.Name y py] kt pt] (.Tuple [a,b] k2 pt2) env=pure (AA [x,y]):=by
 erw[swD,AK,Cn]at h;let⟨⟨⟨⟨⟨⟨⟨⟨h1,h2⟩,h3⟩,h4⟩,h5⟩,h6⟩,h7⟩,h8⟩,h9⟩:=h;have k1:(env.blockKind != .function)=false:=by
  show (!((if env.scope.kind.isAnnotationScope then GE else env.scope.kind)==.function))=AC;rw[h1];rfl
 have k2:env.kindOf x=AA .local:=eq_of_beq h2;have k3:env.kindOf y=AA .local:=eq_of_beq h3;have k4:py.line=px.line:=eq_of_beq h4;have k7:¬y=x:=λz=>by subst z;simp at h7
 have m1:=yfr h5;have m2:=yfr h6;have c8:¬(foldedForSure 8 a=AB/\foldedForSure 8 b=AB):=λz=>by rw[z.1,z.2]at h8;cases h8
 have c9:¬(constantsAlone 8 a=AB/\constantsAlone 8 b=AB):=λz=>by rw[z.1,z.2]at h9;cases h9
 have x1:(Expr.Name x px).pos=px:=rfl;have x2:(Expr.Name y py).pos=py:=rfl;unfold swappedStores;simp[k1,m1,m2,k2,k3,k4,List.eraseDups_cons,k7,x1,x2,c8,c9,Bv];intro z;exfalso;rcases z with z|z
 .exact BG (m1.symm.trans z)
 .exact BG (m2.symm.trans z)
def yg3(i j:Nat)(fa:∀x,Pr (YE γ κ x ca))(fb:∀x,Pr (YE γ κ x cb))(s:CF):Pr (YS γ κ s (.asg (.t [i,j]) (.tup (.cons ca (.cons cb .nil))))):=
 match s with
 |.Assign [.Tuple [.Name x px,.Name y py] _ _] (.Tuple [a,b] _ _) _=>an (ask (setB κ i x=AB/\setB κ j y=AB/\i≠j/\swD κ.sc x y px py a b=AB)) λh=>an (fa a) λha=>an (fb b) λhb=>ok λm S X G=>by
  let⟨h1,h2,h3,h4⟩:=h;have q:=za4 G h1;have r:=za4 G h2;have h5:=h4;erw[swD,AK]at h5;have e1:X.env.scope.names.lookup x=AA .local:=by rw[G.sc];exact eq_of_beq h5.1.1.1.1.1.1.1.2
  have e2:X.env.scope.names.lookup y=AA .local:=by rw[G.sc];exact eq_of_beq h5.1.1.1.1.1.1.2
  exact znF G.calm q.d q.i r.i h3 (zpE G.calm q.d q.i r.i h3 e1 e2 (zep (ha m S X G) (zep (hb m S X G) zh0 (yao h5.1.1.1.2)) (yao h5.1.1.1.1.2)) (ygO (by rw[G.sc];exact h4)))
 |_=>AD
theorem sw0{es:List AW}{k:Nat}{p:C1}{a:AW}{env:B7}(h:ntu a=AB):swappedStores [.Tuple es k p] a env=pure none:=by
 cases a<;>first|rfl|cases h
theorem sw1{b c:AW}{p:C1}{a:AW}{env:B7}:swappedStores [.Subscript b c p] a env=pure none:=by
 cases a<;>rfl
theorem yfs{t a:AW}{l:Nat}{env:B7}(h:nco a=AB):swapsWithSole [t] a l env=pure false:=by
 show swapsWith a (AA t) l env=_;exact swp h
theorem asS{b c:AW}{pos:C1}{env:B7}(h:nsl c=AB):∀v,assign (.Subscript b c pos) env v=(do
   let ov <-holding [v] (eval b env)
   let iv <-holding [v,ov] (eval c env)
   standAt pos
   holding [v,ov,iv] (setItem ov iv v)
   release [v,ov,iv] []):=by
 cases c<;>first|exact λ_=>rfl|cases h
def ygg(l:List Nat)(f:∀x,Pr (YE γ κ x ca))(s:CF):Pr (YS γ κ s (.asg (.t l) ca)):=
 match s with
 |.Assign [.Tuple es k p] a _=>an (ask (nco a=AB/\ntu a=AB)) λhs=>an (mTg (γ:=γ) (κ:=κ) (.t l) (.Tuple es k p)) λhg=>an (f a) λh=>ok λm S X G=>zmM (h m S X G) (hg m S X G) (yfs hs.1) (sw0 hs.2)
 |_=>AD
def yfQ(f:∀x,Pr (YE γ κ x cc))(fo:∀x,Pr (YE γ κ x ca))(fi:∀x,Pr (YE γ κ x cb))(s:CF):Pr (YS γ κ s (.six ca cb cc)):=
 match s with
 |.Assign [.Subscript b c _] a _=>an (ask (nco a=AB/\nsl c=AB)) λhs=>an (f a) λh=>an (fo b) λho=>an (fi c) λhi=>ok λm S X G=>znm (h m S X G) (ho m S X G) (hi m S X G) (yfs hs.1) sw1 (zk0 (ho m S X G) (hi m S X G) zf7 (asS hs.2))
 |_=>AD
def yej(f:∀x,Pr (YE γ κ x cc))(fo:∀x,Pr (YE γ κ x ca))(fi:∀x,Pr (YE γ κ x cb))(s:CF):Pr (YS γ κ s (.dput ca cb cc)):=
 match s with
 |.Assign [.Subscript b c _] a _=>an (ask (nco a=AB)) λhs=>an (f a) λh=>an (fo b) λho=>an (fi c) λhi=>ok λm S X G=>zmI (zl4 G.room) (ho m S X G) (hi m S X G) (h m S X G) (swp hs)
 |_=>AD
def yhe(op:Dp)(o:BOp):Pr (∀S X,PIp X op (rT2 S X (ybS o))):=
 match op,o with
 |.Add,.add=>ok λ_ _=>zlB
 |_,_=>AD
def yhf(i:Nat)(o:BOp)(f:∀x,Pr (YE γ κ x ca))(s:CF):Pr (YS γ κ s (.aug i o ca)):=
 match s with
 |.AugAssign (.Name x _) op a _=>an (ask (setB κ i x=AB)) λh=>an (yhe op o) λhp=>an (f a) λha=>ok λm S X G=>let q:=za4 G h;znI q.d q.i q.l (ha m S X G) (hp S X) q.f (ybw q.p) (yd0 q.p)
 |_=>AD
def ygL(c:Ce)(f:∀x,Pr (YE γ κ x c))(s:CF):Pr (YS γ κ s (.ret c)):=
 match s with
 |.Return (AA a) _=>an (f a) λh=>ok λm S X G=>zn6 (h m S X G)
 |.Return AD _=>match c with
  |.cst .non=>ok λ_ _ _ _=>zlv
  |_=>AD
 |_=>AD
def sIf(fc:∀x,Pr (YT γ κ x cc))(fa:∀x,Pr (YSs γ κ x cs))(fb:∀x,Pr (YSs γ κ x cs'))(s:CF):Pr (YS γ κ s (.ite cc cs cs')):=
 match s with
 |.If c a b _=>an (fc c) λhc=>an (fa a) λha=>an (fb b) λhb=>ok λm S X G=>zp7 (hc m S X G) (ha m S X G) (hb m S X G)
 |_=>AD
def ygx(ct:Tg)(fi:∀tg l,Pr (YI γ κ tg l ci))(fb:∀x,Pr (YSs γ κ x cs))(s:CF):Pr (YS γ κ s (.for ct ci cs)):=
 match s with
 |.For tg l b [] _=>an (ask (κ.own=AB/\nse l=AB)) λho=>an (fi tg l) λhi=>an (mTg (γ:=γ) (κ:=κ) ct tg) λhg=>an (fb b) λhb=>ok λm S X G=>zpG (G.own ho.1).1 G.calm (hi m S X G) (hg m S X G) (hb m S X G) (fse ho.2)
 |_=>AD
def sWh(fc:∀x,Pr (YT γ κ x cc))(fb:∀x,Pr (YSs γ κ x cs))(s:CF):Pr (YS γ κ s (.while cc cs)):=
 match s with
 |.While c b [] _=>an (ask (κ.own=AB)) λho=>an (fc c) λhc=>an (fb b) λhb=>ok λm S X G=>zjW (G.own ho).1 (hc m S X G) (hb m S X G)
 |_=>AD
def yfY(c:Nat)(f:AS)(fo:∀x,Pr (YE γ κ x ca))(fv:∀x,Pr (YE γ κ x cb))(s:CF):Pr (YS γ κ s (.sfl c ca f cb)):=
 match s with
 |.Assign [.Attribute a g _] b _=>an (ask (g=f/\γ.fl c f=AB/\nco b=AB)) λh=>an (fo a) λha=>an (fv b) λhb=>ok λm S X G=>by
  let⟨rfl,h1,h2⟩:=h;exact zoz (G.glo.A c g h1).1 (G.glo.A c g h1).2 (ha m S X G) (hb m S X G) (swp h2)
 |_=>AD
def yg0(c i:Nat)(f:AS)(j:Int)(fo:∀x,Pr (YE γ κ x (.var i)))(fv:∀x,Pr (YE γ κ x (.cst (.int j))))(s:CF):Pr (YS γ κ s (.sfl c (.var i) f (.bin .add (.fld c (.var i) f) (.cst (.int j))))):=
 match s with
 |.AugAssign (.Attribute a g _) .Add b _=>an (ask (g=f/\γ.fl c f=AB)) λh=>an (fo a) λha=>an (fv b) λhb=>ok λm S X G=>by
  let⟨rfl,h1⟩:=h;exact zn2 (G.glo.A c g h1).1 (G.glo.A c g h1).2 (ha m S X G) (hb m S X G)
 |_=>AD
def yhc(c:Nat)(o:Ce)(f:AS)(e:Ce)(O:Ev γ o)(E:Ev γ e)(s:CF):Pr (YS γ κ s (.sfl c o f e)):=
 match s with
 |.AugAssign t op b p=>match o,e with
  | .var i,.bin .add (.fld c' (.var i') f') (.cst (.int j))=>an (ask (c'=c/\i'=i/\f'=f)) λh=>an (yg0 (γ:=γ) (κ:=κ) c i f j (λx=>yfg i x) (λx=>ye8 (.int j) x) (.AugAssign t op b p)) λq=>ok (by
    let⟨rfl,rfl,rfl⟩:=h;exact q)
  |_,_=>AD
 |s=>yfY c f (O.e κ) (E.e κ) s
def yhh(ix:Nat)(D:List (AS×Nat)){cn:Ce}{ces:Ces}(fn:∀x,Pr (YE γ κ x cn))(F:Fs γ κ ces)(ss:List CF):Pr (YSs γ κ ss (.cons (.mkr ix D cn ces) .nil)):=
 match ss with
 |[.Assign [.Name x _] (.Subscript (.Name y _) n _) _,.Return (AA (.Call (.Name x' _) (e::es) [] _)) _]=>match hy:γ.mr y with
  |some E=>an (ask (E=D/\x'=x/\setB κ ix x=AB/\yd4 κ.sc x=AB/\glB κ y=AB/\nsl n=AB/\nst e=AB/\ybZ es=AB)) λh=>an (fn n) λhn=>an (ya6 F (e::es)) λha=>ok λm S X G=>by
   let⟨rfl,rfl,h1,h2,h3,h4,h5,h6⟩:=h;have q:=za4 G h1;let⟨fa,fdd,ps,M,d⟩:=G.glo.K y E hy;exact zoA M (G.room.mono (Co m)) q.d q.i q.l (by rw[G.sc];exact ziC h2) (zau G h3) d (hn m S X G) (ha m S X G) (nos h4) (swp rfl) q.f (ybw (zbN h3)) (ybw q.p) (yd0 q.p) (yao h5) (stars h6)
  |none=>AD
 |_=>AD
end
mutual
noncomputable def chS(γ:Gs):(c:Cs)->(κ:Kx)->∀s,Pr (YS γ κ s c)
 |.expr e,κ=>yeb ((ch γ e).e κ)
 |.asg (.n i) c,κ=>ye6 i ((ch γ c).e κ)
 |.asg (.t [i,j]) (.tup (.cons a (.cons b .nil))),κ=>yg3 i j ((ch γ a).e κ) ((ch γ b).e κ)
 |.asg (.t l) c,κ=>ygg l ((ch γ c).e κ)
 |.six o i e,κ=>yfQ ((ch γ e).e κ) ((ch γ o).e κ) ((ch γ i).e κ)
 |.dput o i e,κ=>yej ((ch γ e).e κ) ((ch γ o).e κ) ((ch γ i).e κ)
 |.aug i o e,κ=>yhf i o ((ch γ e).e κ)
 |.ret e,κ=>ygL e ((ch γ e).e κ)
 |.ite c a b,κ=>sIf ((ch γ c).t κ) (ydb γ a κ) (ydb γ b κ)
 |.for t it b,κ=>ygx t (chi γ it κ) (ydb γ b κ)
 |.while c b,κ=>sWh ((ch γ c).t κ) (ydb γ b κ)
 |.nope,_=>λ_=>ok λ_ _ _ _=>zl1
 |.sfl c o f e,κ=>yhc c o f e (ch γ o) (ch γ e)
 |_,_=>λ_=>AD
noncomputable def ydb(γ:Gs):(c:Css)->(κ:Kx)->∀s,Pr (YSs γ κ s c)
 |.nil,_,[]=>ok λ_ _ _ _=>zow
 |.cons (.mkr ix D cn ces) .nil,κ,ss=>yhh ix D ((ch γ cn).e κ) (chs γ ces κ) ss
 |.cons c cs,κ,s::ss=>an (chS γ c κ s) λh=>an (ydb γ cs κ ss) λhr=>ok λm S X G=>zmW (h m S X G) (hr m S X G)
 |_,_,_=>AD
end
inductive Dk where
 |fn|fd (ds:List Int)|me (c:Nat)|ini (c:Nat)
structure Df where
 gn:AS
 nm:AS
 q:AS
 st:CF
 N:List AS
 ps:List AS
 fn:IC.Fn
 k:Dk
def scB(N P:List AS)(sc:Br):Bool:=decide (sc.kind=.function)&&!sc.isCoroutine&&!sc.isGenerator&&decide N.Nodup&&decide (N.take P.length=P)&&P.all (ydW sc)&&sc.names.all λy=>y.2 != .free
theorem zoO{N P:List AS}{sc:Br}(h:scB N P sc=AB):ybk N P sc:=by
 erw[scB,AK,decide_eq_true_eq,Cn,Bc,bne_iff_ne,ne_eq]at h;let⟨⟨⟨⟨⟨⟨h1,h2⟩,h3⟩,h4⟩,h5⟩,h6⟩,h7⟩:=h;exact⟨h1,h2,h3,h4,h5,λx hx=>zjk (h6 x hx),h7⟩
def okD(γ:Gs)(d:Df):Bool:=scB d.N d.ps (yM d.st)&&decide (d.ps.length=d.fn.np)&&decide (d.N.length=d.fn.ns)&&(ydb γ d.fn.body ⟨d.N,yM d.st,AB⟩ (yai d.st)).isSome
noncomputable def yb1{α:Type}(P:α->Prop):List α->Prop
 |[]=>True
 |d::r=>P d/\yb1 P r
theorem yb1.get{α:Type}{P:α->Prop}:∀{l:List α},yb1 P l->∀d∈l,P d
 |_::_,h,d,hd=>by
  rcases AO.1 hd with rfl|hd
  .exact h.1
  .exact h.2.get d hd
noncomputable def ybL:List AS->(List AG->Prop)->Prop
 |[],P=>P []
 |_::r,P=>∀a,ybL r λus=>P (a::us)
theorem ybL.get:∀{ps:List AS} {P:List AG->Prop},ybL ps P->∀us,us.length=ps.length->P us
 |[],P,h,[],_=>h
 |_::r,P,h,a::us,e=>(h a).get us (by simpa using e)
def ybh(d:Df):Prop:=∀(kV doc pm:AG) (an:Option AI) (cdv ct:AG),ybL d.ps λus=>bindArgs (Bb d.nm d.q (yan d.st) (yai d.st) (yM d.st) .none kV doc pm an cdv ct) ⟨us,[]⟩=pure (d.ps.zip us)
structure ycw(K:AE)(d:Df)(dv:AG)(f:AI)(fd:BK):Prop where
 ex:∃(oc:AG) (od:Option AI) (kV doc pm:AG) (an:Option AI) (cdv ct:AG) (osl:Array (Option AG)),
  fd=Bb d.nm d.q (yan d.st) (yai d.st) (yM d.st) dv kV doc pm an cdv ct/\K.lookup f=AA ⟨oc,od,.func fd,osl⟩/\CT K cdv d.q=AB
 kp:BA K (.ref f)=AB
def At(K:AE)(cn:Nat->AS)(d:Df)(f:AI):Prop:=
 match d.k with
 |.fn=>BT K mainGlobals d.gn=AA (AA (.ref f))/\ybh d
 |.fd _=>BT K mainGlobals d.gn=AA (AA (.ref f))
 |.me c=>ybh d/\∃q,BT K mainGlobals (cn c)=AA (AA (.ref q))/\BF K (.ref q) d.nm=AA (AA (.ref f))/\Cw K (.ref f)=AB
 |.ini c=>ybh d/\∃q,BT K mainGlobals (cn c)=AA (AA (.ref q))/\BF K (.ref q) d.nm=AA (AA (.ref f))/\Cw K (.ref f)=AB/\Du K q=AB/\BA K (.ref q)=AB
def DvP(K:AE)(d:Df)(dv:AG):Prop:=
 match d.k with
 |.fd ds=>∃dT o its n,dv=.ref dT/\K.lookup dT=AA o/\o.data=.seq its n/\Vals (ds.map V.int) its.toList
 |_=>dv=.none
def yc8(K:AE)(cn:Nat->AS)(d:Df):Prop:=∃dv f fd,ycw K d dv f fd/\At K cn d f/\DvP K d dv
section
variable {K:AE}{cn:Nat->AS}{gn nm:AS}{st:CF}{N ps:List AS}{fn:IC.Fn}{f:AI}{oc:AG}{od:Option AI}{kV doc pm:AG}{an:Option AI}{cdv ct:AG}{osl:Array (Option AG)}
theorem rowFn(a:BT K mainGlobals gn=AA (AA (.ref f)))(l:K.lookup f=AA ⟨oc,od,.func (Bb nm nm (yan st) (yai st) (yM st) .none kV doc pm an cdv ct),osl⟩)
  (c:CT K cdv nm=AB) (p:BA K (.ref f)=AB) (b:ybh ⟨gn,nm,nm,st,N,ps,fn,.fn⟩):yc8 K cn ⟨gn,nm,nm,st,N,ps,fn,.fn⟩:=
 ⟨.none,f,_,⟨⟨oc,od,kV,doc,pm,an,cdv,ct,osl,rfl,l,c⟩,p⟩,⟨a,b⟩,rfl⟩
theorem rowFd{ds:List Int}{dT:AI}{o:CK}{its:Array AG}{n:Nat}(a:BT K mainGlobals gn=AA (AA (.ref f)))(l:K.lookup f=AA ⟨oc,od,.func (Bb nm nm (yan st) (yai st) (yM st) (.ref dT) kV doc pm an cdv ct),osl⟩)
  (c:CT K cdv nm=AB) (p:BA K (.ref f)=AB) (d:K.lookup dT=AA o) (e:o.data=.seq its n) (v:Vals (ds.map V.int) its.toList):yc8 K cn ⟨gn,nm,nm,st,N,ps,fn,.fd ds⟩:=
 ⟨.ref dT,f,_,⟨⟨oc,od,kV,doc,pm,an,cdv,ct,osl,rfl,l,c⟩,p⟩,a,dT,o,its,n,rfl,d,e,v⟩
theorem rowMe{qn:AS}{cc:Nat}{q:AI}(z:BT K mainGlobals (cn cc)=AA (AA (.ref q)))(a:BF K (.ref q) nm=AA (AA (.ref f)))(i:Cw K (.ref f)=AB)(l:K.lookup f=AA ⟨oc,od,.func (Bb nm qn (yan st) (yai st) (yM st) .none kV doc pm an cdv ct),osl⟩)
  (c:CT K cdv qn=AB) (p:BA K (.ref f)=AB) (b:ybh ⟨gn,nm,qn,st,N,ps,fn,.me cc⟩):yc8 K cn ⟨gn,nm,qn,st,N,ps,fn,.me cc⟩:=
 ⟨.none,f,_,⟨⟨oc,od,kV,doc,pm,an,cdv,ct,osl,rfl,l,c⟩,p⟩,⟨b,q,z,a,i⟩,rfl⟩
theorem rowIni{qn:AS}{cc:Nat}{q:AI}(z:BT K mainGlobals (cn cc)=AA (AA (.ref q)))(a:BF K (.ref q) nm=AA (AA (.ref f)))(i:Cw K (.ref f)=AB)(l:K.lookup f=AA ⟨oc,od,.func (Bb nm qn (yan st) (yai st) (yM st) .none kV doc pm an cdv ct),osl⟩)
  (c:CT K cdv qn=AB) (p:BA K (.ref f)=AB) (b:ybh ⟨gn,nm,qn,st,N,ps,fn,.ini cc⟩) (mk:Du K q=AB) (kq:BA K (.ref q)=AB):yc8 K cn ⟨gn,nm,qn,st,N,ps,fn,.ini cc⟩:=
 ⟨.none,f,_,⟨⟨oc,od,kV,doc,pm,an,cdv,ct,osl,rfl,l,c⟩,p⟩,⟨b,q,z,a,i,mk,kq⟩,rfl⟩
theorem gdf_mk{w:Ao}{h:BI}{mg:AS->Option AG}{x:AS}{D:List (AS×Nat)}{fa:Nat->AI}{y:AI}{es:Array CO}{ep:Nat}(X:K.In h)(G:h.Ns mainGlobals mg)(a:BT K mainGlobals x=AA (AA (.ref y)))(l:K.lookup y=AA ⟨.type "dict",AD,.dict es ep,#[]⟩)
  (r:ycj w fa D es.toList) (n:(D.map (·.1)).Nodup):GDF K w mg fa x D:=⟨y,es,ep,Eo X G a,l,r,n⟩
theorem gd_mk{w:Ao}{h:BI}{mg:AS->Option AG}{x:AS}{D:List (AS×PV)}{cl:Nat->AI}{y:AI}{es:Array CO}{ep:Nat}(X:K.In h)(G:h.Ns mainGlobals mg)(a:BT K mainGlobals x=AA (AA (.ref y)))(l:K.lookup y=AA ⟨.type "dict",AD,.dict es ep,#[]⟩)
  (s:(y==sysModules)=AC) (r:ycn K cl w D es.toList) (n:(D.map (·.1)).Nodup):GD K w mg cl x D:=⟨y,es,ep,Eo X G a,l,s,r,n⟩
end
abbrev KoV(K:AE)(v:PV)(u:AG):Prop:=∃x:V,RelV x u/\∀cl B φ H,yd K cl B φ H v x
abbrev KoL(K:AE)(vs:List PV)(us:List AG):Prop:=∃xs:List V,Vals xs us/\∀cl B φ H,yg K cl B φ H vs xs
mutual
noncomputable def yeA(K:AE):(v:PV)->(u:AG)->Pr (KoV K v u)
 |.int i,.int j t=>an (ask (i=j)) λh=>ok ⟨.int i,⟨t,by rw[h]⟩,λ_ _ _ _=>by erw[yd]⟩
 |.str i,.str j t=>an (ask (i=j)) λh=>ok ⟨.str i,⟨t,by rw[h]⟩,λ_ _ _ _=>by erw[yd]⟩
 |.tp AB vs,.ref a=>match h:K.lookup a with
  |some ⟨c,_,.seq its n,_⟩=>an (ask (c=.type "tuple"/\its.size<=sizeLine)) λq=>an (ydk K vs its.toList) λr=>ok (by
    let⟨xs,r1,r2⟩:=r;refine⟨.ref a,rfl,λcl B φ H=>?_⟩;erw[yd];exact⟨a,xs,rfl,.inr ⟨rfl,_,its,n,h,q.1,rfl,q.2,r1⟩,r2 cl B φ H⟩)
  |_=>AD
 |_,_=>AD
noncomputable def ydk(K:AE):(vs:List PV)->(us:List AG)->Pr (KoL K vs us)
 |[],[]=>ok ⟨[],.nil,λ_ _ _ _=>by erw[yg]⟩
 |v::vs,u::us=>an (yeA K v u) λh=>an (ydk K vs us) λr=>ok (by
   let⟨x,h1,h2⟩:=h;let⟨xs,r1,r2⟩:=r;refine⟨x::xs,.cons h1 r1,λcl B φ H=>?_⟩;erw[yg];exact⟨x,xs,rfl,h2 cl B φ H,r2 cl B φ H⟩)
 |_,_=>AD
end
theorem con_row{K:AE}{cl:Nat->AI}{w:Ao}{k:AS}{v:PV}{tk:Hd}{u:AG}{D:List (AS×PV)}{es:List CO}(c:(yeA K v u).isSome=AB)(h:ycn K cl w D es):ycn K cl w ((k,v)::D) (⟨EX w.params k,.str k tk,u⟩ :: es):=by
 let⟨⟨x,r,q⟩,_⟩:=BE.1 c;exact .cons r (q cl) h
theorem frow_cons{w:Ao}{fa:Nat->AI}{k:AS}{i:Nat}{tk:Hd}{a:AI}{D:List (AS×Nat)}{es:List CO}(e:fa i=a)(h:ycj w fa D es):ycj w fa ((k,i)::D) (⟨EX w.params k,.str k tk,.ref a⟩ :: es):=by
 subst e;exact .cons h
structure Tb where
 tbl:List Df
 al:List (AS×GK)
 bs:List AS
 ts:List Ty
 fl:List (Nat×AS)
 me:List ((Nat×AS)×Nat)
 kb:List ((Nat×Nat×List AS)×List (Option Int))
 cn:List (Nat×AS)
 dd:List (AS×List (AS×PV))
 ml:List (AS×List (AS×Nat))
noncomputable abbrev eF(x:AS)(i:Nat):AS×GK:=(x,.fn i)
noncomputable abbrev eD(x:AS)(i:Nat):AS×GK:=(x,.fnD i)
noncomputable abbrev eC(x:AS)(v:PV):AS×GK:=(x,.cst v)
noncomputable abbrev eG(x:AS)(g:GK):AS×GK:=(x,g)
noncomputable abbrev eN(c:Nat)(x:AS):Nat×Str:=(c,x)
noncomputable abbrev eM(c:Nat)(x:AS)(i:Nat):(Nat×AS)×Nat:=((c,x),i)
noncomputable abbrev eK(i n:Nat)(ks:List AS)(sh:List (Option Int)):(Nat×Nat×List AS)×List (Option Int):=((i,n,ks),sh)
noncomputable abbrev eL(x:AS)(d:List (AS×Nat)):AS×List (AS×Nat):=(x,d)
noncomputable abbrev eB(x:AS)(d:List (AS×PV)):AS×List (AS×PV):=(x,d)
noncomputable def tyE:Ty->Ty->Bool
 |.int,.int=>AB
 |.bool,.bool=>AB
 |.str,.str=>AB
 |.tuple,.tuple=>AB
 |.list,.list=>AB
 |_,_=>AC
theorem znK{a b:Ty}(h:tyE a b=AB):a=b:=by
 cases a<;>cases b<;>first|rfl|cases h
def Tb.gs(t:Tb):Gs:=⟨λx=>t.al.lookup x,λx=>t.bs.contains x,λy=>t.ts.any (tyE y),λc f=>t.fl.contains (c,f),λc n=>t.me.lookup (c,n),λi n ks=>t.kb.lookup (i,n,ks),λx=>t.ml.lookup x⟩
noncomputable def nmA(K:AE)(x:AS):Option Addr:=match BT K mainGlobals x with
 |some (AA (.ref q))=>AA q
 |_=>AD
def clA(K:AE)(t:Tb)(c:Nat):Addr:=((t.cn.lookup c).bind (nmA K)).getD 0
noncomputable def cnm(t:Tb)(c:Nat):Str:=(t.cn.lookup c).getD ""
def faA(K:AE)(t:Tb)(i:Nat):Addr:=match t.tbl[i]? with
 |some d=>match d.k with
  |.fn=>(nmA K d.gn).getD 0
  |.fd _=>(nmA K d.gn).getD 0
  |.me c=>match BF K (.ref (clA K t c)) d.nm with
   |some (AA (.ref f))=>f
   |_=>0
  |.ini c=>match BF K (.ref (clA K t c)) d.nm with
   |some (AA (.ref f))=>f
   |_=>0
 |none=>0
noncomputable def ydp:Dk->Bool
 |.fn=>AB
 |_=>AC
noncomputable def yem:Dk->Bool
 |.fd _=>AB
 |_=>AC
noncomputable def yhb:PV->Bool
 |.int _=>AB
 |.tp _ _=>AB
 |_=>AC
def alB(K:AE)(t:Tb):AS×GK->Bool
 |(x,.fn i)=>match t.tbl[i]? with
  |some d=>ydp d.k&&(decide (x=d.gn) || decide (nmA K x=nmA K d.gn))
  |none=>AC
 |(x,.fnD i)=>match t.tbl[i]? with
  |some d=>yem d.k&&(decide (x=d.gn) || decide (nmA K x=nmA K d.gn))
  |none=>AC
 |(x,.cst v)=>yhb v&&match BT K mainGlobals x with
  |some (AA u)=>(yeA K v u).isSome
  |_=>AC
 |(x,.dct d)=>t.dd.any λp=>decide (p.1=x)&&(eqD p.2 d).isSome
 |(x,.exc c)=>decide (t.cn.lookup c=AA x)&&(nmA K x).any λq=>Fr K q [.type "ValueError",.type "Exception",.type "BaseException",.type "object"] "ValueError.__new__"
 |(x,.cls c i)=>decide (t.cn.lookup c=AA x)&&(nmA K x).isSome&&match t.tbl[i]? with
  |some d=>match d.k with
   |.ini c'=>decide (c'=c)&&decide (d.nm="__init__")
   |_=>AC
  |none=>AC
def yff(K:AE)(t:Ty):Bool:=
 decide (B9 K (.type "NoneType") (.type (tyN t))=AA (ybC .non t))&&decide (B9 K (.type "bool") (.type (tyN t))=AA (ybC (.bl AB) t))&&decide (B9 K (.type "int") (.type (tyN t))=AA (ybC (.int 0) t))&&decide (B9 K (.type "str") (.type (tyN t))=AA (ybC (.str G0) t))&&decide (B9 K (.type "tuple") (.type (tyN t))=AA (ybC (.tp AB []) t))&&decide (B9 K (.type "list") (.type (tyN t))=AA (ybC (.lst []) t))
noncomputable def yd1(K:AE)(q:AI):Bool:=Cv K q G0&&DO K q&&Ef K q&&decide (BF K (.ref q) "__setattr__"=AA (AA (.builtin "object.__setattr__")))
theorem zi2{K:AE}{q:AI}(h:yd1 K q=AB):Cls K q:=by
 erw[yd1,AK,decide_eq_true_eq]at h;exact⟨h.1.1.1,h.1.1.2,h.1.2,h.2⟩
def yeK(K:AE)(t:Tb):Bool:=
 t.al.all (alB K t)&&t.bs.all (λx=>decide (BT K mainGlobals x=AA AD))&&t.ts.all (yff K) &&
  t.fl.all (λp=>(t.cn.lookup p.1).isSome&&(nmA K (cnm t p.1)).any λq=>yd1 K q&&decide (BF K (.ref q) p.2=AA AD)) &&
  t.me.all (λp=>(t.cn.lookup p.1.1).isSome&&(nmA K (cnm t p.1.1)).any λq=>yd1 K q&&match t.tbl[p.2]? with
   |some d=>(match d.k with
    |.me c=>decide (c=p.1.1)
    |_=>AC)&&decide (d.nm=p.1.2)
   |none=>AC) &&
  t.ml.all λp=>p.2.all λq=>match t.tbl[q.2]? with
   |some d=>ydp d.k
   |none=>AC
noncomputable def fd0:FuncData:=Bb "" "" (yan (.Pass ⟨0,0,0,0⟩)) [] (yM (.Pass ⟨0,0,0,0⟩)) .none .none .none .none AD .none .none
def fdA(K:AE)(t:Tb)(i:Nat):FuncData:=match K.lookup (faA K t i)with
 |some ⟨_,_,.func fd,_⟩=>fd
 |_=>fd0
noncomputable def psA(t:Tb)(i:Nat):List Str:=match t.tbl[i]? with
 |some d=>d.ps
 |none=>[]
theorem lkm{α β:Type}[BEq α][LawfulBEq α]{x:α}{k:β}:∀{l:List (α×β)},l.lookup x=AA k->(x,k)∈l
 |[],h=>nomatch h
 |y::l,h=>by
  rw[Bp]at h
  cases hx:x==y.1 with
  |true=>rw[hx]at h;cases h;rw[eq_of_beq hx];exact As
  |false=>rw[hx]at h;exact AV _ (lkm h)
def KbP(t:Tb)(p:(Nat×Nat×List AS)×List (Option Int)):Prop:=∀d ds,t.tbl[p.1.1]?=AA d->d.k=.fd ds->∀(K:AE) (mg:AS->Option AG) (f:AI) (fd:BK),FnD K mg d.nm d.st d.ps ds f fd->∃g,ybM K fd d.ps p.1.2.2 g (gK p.1.2.1 p.2)
structure Fact(t:Tb)(w:Ao)(K:AE)(mg:AS->Option AG):Prop where
 X:∀x u,BT K mainGlobals x=AA u->mg x=u
 R:yb1 (yc8 K (cnm t)) t.tbl
 B:yeK K t=AB
 D:yb1 (λp=>∀cl,GD K w mg cl p.1 p.2) t.dd
 Kb:yb1 (KbP t) t.kb
 Ml:yb1 (λp=>GDF K w mg (faA K t) p.1 p.2) t.ml
theorem zpu{K:AE}{x:AS}{q:AI}(h:nmA K x=AA q):BT K mainGlobals x=AA (AA (.ref q)):=by
 unfold nmA at h;split at h
 .cases h;assumption
 .cases h
theorem zcF{K:AE}{x:AS}{q:AI}(h:BT K mainGlobals x=AA (AA (.ref q))):nmA K x=AA q:=by
 erw[nmA,h]
theorem zgA{K:AE}{t:Tb}{c:Nat}{q:AI}(h:nmA K (cnm t c)=AA q)(hc:(t.cn.lookup c).isSome=AB):clA K t c=q:=by
 let⟨x,e⟩:=BE.1 hc;erw[clA,e,B3];erw[cnm,e,CP]at h;rw[h];rfl
noncomputable def okT(t:Tb)(d:Df):Bool:=okD t.gs d&&match d.k with
 |.fn=>AB
 |.fd _=>decide (d.q=d.nm)
 |.me c=>(t.cn.lookup c).isSome
 |.ini c=>(t.cn.lookup c).isSome&&decide (d.nm="__init__")
section
variable {t:Tb}{w:Ao}{K:AE}{mg:AS->Option AG}{T:Nat->Option IC.Fn}{P:Aa}{base:BI}{k:Nat}
theorem zdY(F:Fact t w K mg)(O:∀d∈t.tbl,okT t d=AB){i:Nat}{d:Df}(h:t.tbl[i]?=AA d):∃dv fd,ycw K d dv (faA K t i) fd/\At K (cnm t) d (faA K t i)/\DvP K d dv:=by
 have hm:=A5 h;let⟨dv,f,fd,h1,h2,h3⟩:=F.R.get d hm;have e:f=faA K t i:=by
  have o:=O d hm;erw[okT,AK]at o;have o:=o.2;erw[faA,h];unfold At at h2
  cases q:d.k with
  |fn=>
   rw[q]at h2;erw[zcF h2.1,CP]
  |fd ds=>
   rw[q]at h2;have h2:BT K mainGlobals d.gn=AA (AA (.ref f)):=h2;erw[zcF h2,CP]
  |me c=>
   rw[q]at h2 o;let⟨_,q',e1,e2,_⟩:=h2;erw[zgA (zcF e1) o,e2]
  |ini c=>
   rw[q]at h2 o;let⟨_,q',e1,e2,_⟩:=h2;erw[AK]at o;erw[zgA (zcF e1) o.1,e2]
 subst e;exact⟨dv,fd,h1,h2,h3⟩
theorem ycw.binds{d:Df}{f:AI}{fd:BK}(R:ycw K d .none f fd)(b:ybh d):Binds K fd d.ps []:=
 Fun.binds ⟨R.ex,R.kp⟩ λkV doc pm an cdv ct us hl=>(b kV doc pm an cdv ct).get us hl
theorem ycw.ok{d:Df}{dv:AG}{f:AI}{fd:BK}{fi m:Nat}{cl:Nat->AI}(R:ycw K d dv f fd)(hT:T fi=AA d.fn)(Sc:ybk d.N d.ps (yM d.st))(hnp:d.ps.length=d.fn.np)(hns:d.N.length=d.fn.ns)
  (body:∀(cdv:AG) (A:Ay) (outer:List B7) (s:AJ) (H:Hp) (E:XK),yaB m (A.deeper (envOfC d.q (yM d.st) s.heap.objs.size f cdv)) ->
   PSs (ya4 (CX1 P w) P w K mg base d.N d.q (yM d.st) f cdv A outer s H E) (yai d.st) (tSs ⟨cl,yc T k,AB⟩ (ya4 (CX1 P w) P w K mg base d.N d.q (yM d.st) f cdv A outer s H E) d.fn.body)):
  yaO P w K mg base (CX1 P w) (m+1) f fd d.ps (spI K cl (yc T (k+1)) fi):=by
 let⟨oc,od,kV,doc,pm,an,cdv,ct,osl,rfl,lk,hcd⟩:=R.ex;exact zpP lk hcd Sc (λvs H Q E h=>zor hT hnp h) λA outer s H vs Q E hr h=>⟨_,body cdv A outer s H E hr,zlA hT hns h⟩
def Fn2(t:Tb)(P:Aa)(w:Ao)(K:AE)(mg:AS->Option AG)(base:BI)(T:Nat->Option IC.Fn)(k:Nat):Prop:=
 ∀i d dv fd,t.tbl[i]?=AA d->ycw K d dv (faA K t i) fd->yaO P w K mg base (CX1 P w) (2*k) (faA K t i) fd d.ps (spI K (clA K t) (yc T k) i)
theorem zjq(F:Fact t w K mg)(O:∀d∈t.tbl,okT t d=AB)(C:Fn2 t P w K mg base T k){N:List AS}{q:AS}{sc:Br}{f:AI}{cdv:AG}{A:Ay}{outer:List B7}{s:AJ}{H:Hp}{E:XK}:
  Glo t.gs (2*k) ⟨clA K t,yc T k,AB⟩ (ya4 (CX1 P w) P w K mg base N q sc f cdv A outer s H E):=by
 have B:=F.B;erw[yeK,AK,Bc]at B;let⟨⟨⟨⟨⟨b1,b2⟩,b3⟩,b4⟩,b5⟩,b6⟩:=B;have mgr:∀{x:AS} {a:AI},nmA K x=AA a->mg x=AA (.ref a):=λh=>F.X _ _ (zpu h);have same:∀{x y:AS} {a:AI},(decide (x=y) || decide (nmA K x=nmA K y))=AB->nmA K y=AA a->nmA K x=AA a:=λ{x y a} h e=>by
  erw[DH,decide_eq_true_eq]at h;rcases h with rfl|h
  .exact e
  .rw[h];exact e
 refine⟨λx i h=>?_,λx i np ks sh h hk=>?_,λx v h=>?_,λx d h=>?_,λx c h=>?_,λx c i h=>?_,λx h=>?_,λy h=>?_,λc n h=>?_,λc n i h=>?_,λy D h=>?_⟩
 .have q:=b1 _ (lkm h);erw[alB]at q;split at q
  .rename_i d hd;erw[AK]at q;let⟨dv,fd,r1,r2,r3⟩:=zdY F O hd;have hk:d.k=.fn:=by cases e:d.k<;>rw[e]at q<;>first|rfl|cases q.1
   erw[At,hk]at r2;erw[DvP,hk]at r3;subst r3;exact⟨_,fd,d.ps,C i d _ fd hd r1,mgr (same q.2 (zcF r2.1)),r1.kp,r1.binds r2.2⟩
  .cases q
 .have q:=b1 _ (lkm h);erw[alB]at q;split at q
  .rename_i d hd;erw[AK]at q;let⟨dv,fd,r1,r2,r3⟩:=zdY F O hd;obtain⟨ds,hk'⟩:∃ds,d.k=.fd ds:=by cases e:d.k<;>rw[e]at q<;>first|exact⟨_,rfl⟩|cases q.1
   erw[At,hk']at r2;erw[DvP,hk']at r3;let⟨dT,o,its,n,rfl,e1,e2,e3⟩:=r3;have oo:=O d (A5 hd);erw[okT,hk',AK,decide_eq_true_eq]at oo;have D:FnD K (λ_=>AA (.ref (faA K t i))) d.nm d.st d.ps ds (faA K t i) fd:=by
    let⟨oc,od,kV,doc,pm,an,cdv,ct,osl,z1,z2,z3⟩:=r1.ex;rw[oo.2]at z1 z3;exact⟨⟨oc,od,dT,kV,doc,pm,an,cdv,ct,osl,o,its,n,z1,z2,z3,e1,e2,e3⟩,r1.kp,rfl⟩
   exact⟨_,fd,d.ps,C i d _ fd hd r1,mgr (same q.2 (zcF r2)),r1.kp,F.Kb.get _ (lkm hk) d ds hd hk' K _ _ _ D⟩
  .cases q
 .have q:=b1 _ (lkm h);erw[alB,AK]at q;let⟨q0,q⟩:=q;split at q
  .rename_i u hu;let⟨⟨y,r,z⟩,_⟩:=BE.1 q;have hm:=F.X _ _ hu
   cases v with
   |int i=>
    have z:=z (λ_=>0) (λ_=>False) [] (λ_=>AD);erw[yd]at z;subst z;let⟨tk,rfl⟩:=r;exact .inr ⟨i,rfl,tk,hm⟩
   |tp b vs=>
    have z0:=z (λ_=>0) (λ_=>False) [] (λ_=>AD);erw[yd]at z0;let⟨a,xs,rfl,_⟩:=z0;have r:u=.ref a:=r;subst r;exact .inl ⟨a,hm,λB φ H=>z _ B φ H⟩
   |_=>cases q0
  .cases q
 .have q:=b1 _ (lkm h);erw[alB,Ez,AK,decide_eq_true_eq]at q;let⟨p,hp,rfl,q⟩:=q;let⟨⟨e⟩,_⟩:=BE.1 q;rw[<-e];exact F.D.get p hp _
 .have q:=b1 _ (lkm h);erw[alB,AK,decide_eq_true_eq,Ct]at q;let⟨q1,q2,q3⟩:=q;let⟨a,ha⟩:=BE.1 q2;have e:clA K t c=a:=by erw[clA,q1,B3,ha,CP]
  erw[ha,FT]at q3;exact⟨by show mg x=AA (.ref (clA K t c));rw[e];exact mgr ha,by show Fr K (clA K t c) _ _=AB;rw[e];exact q3⟩
 .have q:=b1 _ (lkm h);erw[alB,AK,decide_eq_true_eq]at q;let⟨⟨q1,q2⟩,q3⟩:=q;let⟨a,ha⟩:=BE.1 q2;have e:clA K t c=a:=by erw[clA,q1,B3,ha,CP]
  split at q3
  .rename_i d hd
   cases hk:d.k with
   |ini c'=>
    rw[hk]at q3;erw[AK,decide_eq_true_eq]at q3;let⟨rfl,hn⟩:=q3;let⟨dv,fd,r1,r2,r3⟩:=zdY F O hd;erw[At,hk]at r2;erw[DvP,hk]at r3;subst r3;let⟨r0,q',r4,r5,r6,r7,r8⟩:=r2;have e2:q'=a:=by
     have:nmA K (cnm t c')=AA q':=zcF r4;erw[cnm,q1,CP,ha]at this;exact(AZ this).symm
    subst e2;rw[hn]at r5;refine⟨by show mg x=AA (.ref (clA K t c'));rw[e];exact mgr ha,_,fd,d.ps,?_,C i d _ fd hd r1,r1.binds r0⟩;show Mk K (clA K t c') _;rw[e];exact⟨r7,r5,r6,r8⟩
   |_=>rw[hk]at q3;cases q3
  .cases q3
 .have q:x∈t.bs:=by simpa [Tb.gs] using h
  have:=b2 x q;erw[decide_eq_true_eq]at this;exact F.X _ _ this
 .simp only[Tb.gs,Ez]at h;let⟨y',hy,e⟩:=h;have:=znK e;subst this;have q:=b3 y hy;erw[yff,AK,decide_eq_true_eq]at q;exact⟨q.1.1.1.1.1,q.1.1.1.1.2,q.1.1.1.2,q.1.1.2,q.1.2,q.2⟩
 .have q:(c,n)∈t.fl:=by simpa [Tb.gs] using h
  have q:=b4 _ q;erw[AK,Ct,decide_eq_true_eq]at q;let⟨q1,q2,q3⟩:=q;let⟨a,ha⟩:=BE.1 q2;erw[ha,FT]at q3;have e:clA K t c=a:=zgA ha q1;show Cls K (clA K t c)/\yaz K (clA K t c) n;rw[e];exact⟨zi2 q3.1,q3.2⟩
 .have q:=b5 _ (lkm h);erw[AK,Ct,decide_eq_true_eq]at q;let⟨q1,q2,q3,q4⟩:=q;let⟨a,ha⟩:=BE.1 q2;erw[ha,FT]at q3;have e:clA K t c=a:=zgA ha q1;split at q4
  .rename_i d hd;erw[AK,decide_eq_true_eq]at q4;let⟨q4,hn⟩:=q4
   cases hk:d.k with
   |me c'=>
    rw[hk]at q4;have q4:c'=c:=by simpa using q4
    subst q4;let⟨dv,fd,r1,r2,r3⟩:=zdY F O hd;erw[At,hk]at r2;erw[DvP,hk]at r3;subst r3;let⟨r0,q',r4,r5,r6⟩:=r2;have e2:q'=a:=AZ ((zcF r4).symm.trans ha);subst e2;refine⟨by show Cls K (clA K t c');rw[e];exact zi2 q3,_,fd,d.ps,?_,C i d _ fd hd r1,r1.binds r0⟩;show Meth K (clA K t c') n _;rw[e,<-hn];exact⟨r5,r6,r1.kp⟩
   |_=>rw[hk]at q4;cases q4
  .cases q4
 .have q:=b6 _ (lkm h);have g:∀s j,D.lookup s=AA j->∃d dv fd,t.tbl[j]?=AA d/\ycw K d dv (faA K t j) fd/\dv=.none/\ybh d/\fd=fdA K t j/\d.ps=psA t j:=λs j hj=>by
   have q:=q _ (lkm hj);split at q
   .rename_i d hd;let⟨dv,fd,r1,r2,r3⟩:=zdY F O hd;have hk:d.k=.fn:=by cases e:d.k<;>rw[e]at q<;>first|rfl|cases q
    erw[At,hk]at r2;erw[DvP,hk]at r3;let⟨oc,od,kV,doc,pm,an,cdv,ct,osl,_,lk,_⟩:=r1.ex;exact⟨d,dv,fd,hd,r1,r3,r2.2,by erw[fdA,lk],by erw[psA,hd]⟩
   .cases q
  refine⟨faA K t,fdA K t,psA t,⟨λs j hj=>?_,λs j hj=>?_,λs j hj=>?_⟩,F.Ml.get _ (lkm h)⟩
  .let⟨d,dv,fd,h1,h2,h3,h4,h5,h6⟩:=g s j hj;rw[<-h5,<-h6];exact C j d dv fd h1 h2
  .let⟨d,dv,fd,h1,h2,h3,h4,h5,h6⟩:=g s j hj;exact h2.kp
  .let⟨d,dv,fd,h1,h2,h3,h4,h5,h6⟩:=g s j hj;subst h3;rw[<-h5,<-h6];exact h2.binds h4
theorem zi6(F:Fact t w K mg)(O:∀d∈t.tbl,okT t d=AB)(hT:∀i d,t.tbl[i]?=AA d->T i=AA d.fn):∀k,Fn2 t P w K mg base T k
 |0=>λi d dv fd _ _=>zkn
 |k+1=>λi d dv fd h R=>by
  have o:=O d (A5 h);erw[okT,okD,AK,decide_eq_true_eq]at o;let⟨⟨⟨⟨o1,o2⟩,o3⟩,o4⟩,_⟩:=o;let⟨⟨y⟩,_⟩:=BE.1 o4;exact R.ok (m:=2*k+1) (hT i d h) (zoO o1) o2 o3 λ_ _ _ _ _ _ hr=>y (2*k) _ _ ⟨rfl,rfl,rfl,hr,λ_=>⟨own1,λ_=>rfl,rfl⟩,zjq F O (zi6 F O hT k)⟩
noncomputable def yc6:Nat->(List AG->Prop)->Prop
 |0,P=>P []
 |n+1,P=>∀a,yc6 n λus=>P (a::us)
theorem yc6.get:∀{n:Nat} {P:List AG->Prop},yc6 n P->∀us,us.length=n->P us
 |0,P,h,[],_=>h
 |n+1,P,h,a::us,e=>(h a).get us (by simpa using e)
theorem kbP{i np:Nat}{ks:List AS}{sh:List (Option Int)}{d:Df}{ds:List Int}(hd:t.tbl[i]?=AA d)(hk:d.k=.fd ds)(h1:ks.length=nKw sh)(h2:sh.length=(ds.drop (ds.length-sh.length)).length)
  (h3:((sh.zip (ds.drop (ds.length-sh.length))).all λp=>p.1.all λi=>decide (i=p.2))=AB) (hp:0<d.ps.length)
  (h:∀(dT:AI) (kV doc pm:AG) (an:Option AI) (cdv ct:AG),yc6 np λus=>yc6 ks.length λws=>yc6 ds.length λits=>
   ∃k,bindArgs (Bb d.nm d.nm (yan d.st) (yai d.st) (yM d.st) (.ref dT) kV doc pm an cdv ct) ⟨us,ks.zip ws⟩=seqItems? (.ref dT) >>= k/\k (AA its.toArray)=pure (d.ps.zip (us++ybe sh ws (its.drop (ds.length-sh.length))))):KbP t ((i,np,ks),sh):=by
 intro d' ds' e1 e2 K mg f fd D;have e1:t.tbl[i]?=AA d':=e1;rw[hd]at e1
 cases e1
 rw[hk]at e2
 cases e2
 exact kbD D h1 h2 h3 (λdT kV doc pm an cdv ct us ws its z1 z2 z3=>(((h dT kV doc pm an cdv ct).get us z1).get ws z2).get its z3) hp
theorem all_mk2{h:BI}{fx:AI}(X:K.In h)(G:h.Ns mainGlobals mg)(hfa:mg "law"=AA (.ref fx))(R:yb1 (yc8 K (cnm t)) t.tbl)(B:yeK K t=AB)(D:yb1 (λp=>∀cl,GD K w mg cl p.1 p.2) t.dd)(Kb:yb1 (KbP t) t.kb)(Ml:yb1 (λp=>GDF K w mg (faA K t) p.1 p.2) t.ml)
  (O:t.tbl.all (okT t)=AB) (hT:∀i d,t.tbl[i]?=AA d->T i=AA d.fn) {L:Nat} {st:CF} {N:List AS} {fn:IC.Fn} (hL:t.tbl[L]?=AA ⟨"law","law","law",st,N,["_law_script"],fn,.fn⟩) (lvl:Nat):
  ∃fd:BK,(∀(s:AJ) (v:AG),Fb s fd ⟨[v],[]⟩ [("_law_script",v)])/\∀base:BI,K.In base->base.Ns mainGlobals mg->yaO P w K mg base (CX1 P w) (2*lvl) fx fd ["_law_script"] (spX K (yc T lvl) L):=by
 have F:Fact t w K mg:=⟨λx u e=>by
  cases u with
  |none=>exact PySem.W.mg_none_of X G e
  |some v=>exact Eo X G e,R,B,D,Kb,Ml⟩
 have O':=Bc.1 O;let⟨dv,fd,r1,r2,r3⟩:=zdY F O' hL;have r3:dv=.none:=r3;subst r3;have r2:BT K mainGlobals "law"=AA (AA (.ref (faA K t L)))/\ybh _:=r2;have e:=Value.ref.inj (AZ (hfa.symm.trans (Eo X G r2.1)));subst e;refine⟨fd,λs v=>?_,λbase _ _=>(zi6 F O' hT lvl L _ _ fd hL r1).imp λ_ _ _ _ h=>h _⟩;let⟨oc,od,kV,doc,pm,an,cdv,ct,osl,rfl,_⟩:=r1.ex;exact .of_eq (r2.2 kV doc pm an cdv ct v)
end
end L2
namespace IC
open PySem
noncomputable def zQ:List (AS×Nat):=[(AF "move",74),(AF "bare",75),(AF "sum",76),(AF "less",77),(AF "both",78),(AF "any",79),(AF "odd",80),(AF "twice",81),(AF "half",82)]
noncomputable def zdW:PV:=(.tp AB [(.str "f"),(.tp AB [(.int 0),(.int 0),(.int 0),(.int 0)])])
noncomputable def zcH:PV:=(.tp AB [(.int 0),(.int 0),(.int 1)])
noncomputable def zB:PV:=(.tp AB [(.int 0),(.int 1),(.int 0)])
noncomputable def zbF:PV:=(.int 10000000000000000000000000000000000000000)
noncomputable def za0:PV:=(.tp AB [(.str "g"),(.tp AB [(.int 0),(.int 0),(.int 0),(.int 0)])])
noncomputable def zkP:PV:=(.tp AB [(.str "turned"),(.str "bare")])
noncomputable def zp:PV:=(.tp AB [(.tp AB [(.str "m"),(.tp AB [(.int 0),(.int 0),(.int 0),(.int 0)])]),(.tp AB [(.str "m"),(.tp AB [(.int 1),(.int 0),(.int 0),(.int 0)])]),(.tp AB [(.str "m"),(.tp AB [(.int 2),(.int 0),(.int 0),(.int 0)])]),(.tp AB [(.str "m"),(.tp AB [(.int 3),(.int 0),(.int 0),(.int 0)])])])
noncomputable def zcJ:PV:=(.int 4)
noncomputable def zfb:PV:=(.int 2)
noncomputable def zbV:PV:=(.int 4000)
noncomputable def zdz:PV:=(.int 4000)
noncomputable def zfe:PV:=(.int 20)
noncomputable def zem:PV:=(.int 2)
noncomputable def zdE:PV:=(.int 200)
noncomputable def zdw:PV:=(.tp AB [(.str "z"),(.tp AB [(.int 0),(.int 0),(.int 0),(.int 0)])])
noncomputable def zeA:PV:=(.tp AB [(.str "sum"),(.str "difference"),(.str "compare"),(.str "both"),(.str "any"),(.str "odd"),(.str "product"),(.str "signed product"),(.str "quotient"),(.str "signed quotient")])
noncomputable def zdP:PV:=(.tp AB [(.str "both"),(.str "any"),(.str "odd")])
noncomputable def zbu:PV:=(.tp AB [(.str "product"),(.str "signed product")])
noncomputable def zac:PV:=(.tp AB [(.str "quotient"),(.str "signed quotient")])
noncomputable def zds:PV:=(.tp AB [(.str "s"),(.tp AB [(.int 0),(.int 0),(.int 0),(.int 0)])])
noncomputable def zeO:PV:=(.tp AB [(.str "left"),(.str "right"),(.str "down"),(.str "roll")])
noncomputable def zY:PV:=(.tp AB [(.str "k"),(.tp AB [(.int 0),(.int 0),(.int 0),(.int 0)])])
noncomputable def zb6:PV:=(.tp AB [(.str "i"),(.tp AB [(.int 0),(.int 0),(.int 0),(.int 0)])])
noncomputable def zcQ:PV:=(.tp AB [(.str "j"),(.tp AB [(.int 0),(.int 0),(.int 0),(.int 0)])])
noncomputable def zai:PV:=(.tp AB [(.str "t"),(.tp AB [(.int 0),(.int 0),(.int 0),(.int 0)])])
def zat:List (AS×PV):=[(AF "set",(.tp AB [(.str "cell"),(.str "figure")])),(AF "move",(.tp AB [(.str "cell"),(.str "cell")])),(AF "bare",(.tp AB [(.str "cell"),(.str "cell")])),(AF "sum",(.tp AB [(.str "cell"),(.str "cell"),(.str "cell")])),(AF "less",(.tp AB [(.str "cell"),(.str "cell"),(.str "cell")])),(AF "both",(.tp AB [(.str "cell"),(.str "cell"),(.str "cell")])),(AF "any",(.tp AB [(.str "cell"),(.str "cell"),(.str "cell")])),(AF "odd",(.tp AB [(.str "cell"),(.str "cell"),(.str "cell")])),(AF "twice",(.tp AB [(.str "cell"),(.str "cell")])),(AF "half",(.tp AB [(.str "cell"),(.str "cell")])),(AF "times",(.tp AB [(.str "cell"),(.str "cell"),(.str "cell"),(.str "cell")])),(AF "mark",(.tp AB [(.str "figure")])),(AF "ask",(.tp AB [(.str "cell")]))]
noncomputable def zkK:Fn:=⟨5,5,AB,(.k (.ret (.tup (.k (.v 0) (.k (.tup (.k (.v 1) (.k (.v 2) (.k (.v 3) (.k (.v 4) .e))))) .e)))) .e)⟩
def zdm:Fn:=⟨1,1,AB,(.k (.ret (.call 0 (yab (.k (.v 0) (.k (.neg (.i 1)) .e)) (yw [.inr 0,.inr 0,.inl (.i 1)])))) .e)⟩
noncomputable def zk3:Fn:=⟨1,1,AB,(.k (.ret (.blt .tuple (.k (.comp [AD] (.n 0) (.seq (.v 0)) (.cst (.bl AB)) (.tup (.k (.s "row") (.k (.v 0) .e)))) .e))) .e)⟩
noncomputable def zgb:Fn:=⟨3,3,AB,(.k (.ret (.tup (.k (.tup (.k (.s "rounds") (.k (.v 0) (.k (.v 1) (.k (.v 2) .e))))) .e))) .e)⟩
noncomputable def zf8:Fn:=⟨5,5,AB,(.k (.ret (.tup (.k (.s "slice") (.k (.v 0) (.k (.tup (.k (.i 0) (.k (.i 0) (.k (.i 0) (.k (.i 0) .e))))) (.k (.tup (.k (.v 1) (.k (.v 2) (.k (.v 3) (.k (.v 4) .e))))) .e)))))) .e)⟩
noncomputable def zkO:Fn:=⟨6,6,AB,(.k (.ret (.tup (.k (.v 0) (.k (.tup (.k (.i 0) (.k (.v 2) (.k (.i 0) (.k (.v 3) (.k (.v 4) (.k (.v 5) .e))))))) (.k (.v 1) .e))))) .e)⟩
def zcj:Fn:=⟨3,4,AB,(.k (.asg (.n 3) (.tup (.k (.call 5 (yab (.k (.i 1) (.k (.tup (.k (.call 4 (yab (.k (.v 1) .e) (yw [.inr 0,.inl (.i 1),.inr 0,.inr 0]))) .e)) .e)) (yw [.inr 0,.inr 0,.inr 0,.inr 0]))) (.k (.call 5 (yab (.k (.neg (.i 1)) (.k (.tup (.k (.call 4 (yab (.k (.v 0) .e) (yw [.inr 0,.inl (.i 1),.inr 0,.inr 0]))) .e)) .e)) (yw [.inr 0,.inr 0,.inr 0,.inr 0]))) .e)))) (.k (.ret (.call 3 (.k (.tup (.k (.v 2) (.k (.i 1) (.k (.i 0) .e)))) (.k (.v 3) (.k (.call 2 (.k (.lst (.k (.tup (.k (.s "move") (.k (.call 0 (yab (.k (.v 0) .e) (yw [.inr 0,.inl (.i 1),.inr 0,.inr 0]))) (.k (.call 0 (yab (.k (.v 1) .e) (yw [.inr 0,.inl (.i 1),.inr 0,.inr 0]))) .e)))) .e)) .e)) .e))))) .e))⟩
def zbg:Fn:=⟨2,2,AB,(.k (.ret (.call 3 (.k (.v 1) (.k (.tup .e) (.k (.call 2 (.k (.lst (.k (.tup (.k (.s "twice") (.k (.call 0 (yab (.k (.v 0) .e) (yw [.inr 0,.inr 0,.inl (.i 1),.inr 0]))) (.k (.call 0 (yab (.k (.v 0) .e) (yw [.inr 0,.inr 0,.inl (.i 1),.inr 0]))) .e)))) .e)) .e)) .e))))) .e)⟩
def zdk:Fn:=⟨1,1,AB,(.k (.ret (.tup (.k (.s "sum") (.k (.v 0) (.k (.cst zdw) (.k (.cst zdw) .e)))))) .e)⟩
def zbe:Fn:=⟨1,1,AB,(.k (.ret (.lst (.k (.tup (.k (.s "set") (.k (.v 0) (.k (.i 1) .e)))) (.k (.tup (.k (.s "less") (.k (.v 0) (.k (.v 0) (.k (.cst zdw) .e))))) .e)))) .e)⟩
def zcb:Fn:=⟨3,4,AB,(.k (.asg (.n 3) (.tup (.k (.s "any") (.k (.cst zds) (.k (.cst zds) (.k (.call 0 (yab (.k (.v 0) .e) (yw [.inr 0,.inl (.i 1),.inr 0,.inl (.v 1)]))) .e)))))) (.k (.ret (.bin .add (.bin .add (.call 2 (.k (.lst (.k (.tup (.k (.s "set") (.k (.cst zds) (.k (.i 0) .e)))) .e)) .e)) (.call 3 (.k (.v 2) (.k (.tup .e) (.k (.call 2 (.k (.lst (.k (.v 3) .e)) .e)) .e))))) (.call 2 (.k (.lst (.k (.tup (.k (.s "ask") (.k (.cst zds) .e))) .e)) .e)))) .e))⟩
def zbG:Fn:=⟨2,3,AB,(.k (.asg (.n 2) (.lst (.k (.tup (.k (.s "twice") (.k (.cst zai) (.k (.call 0 (yab (.k (.s "c") (.k (.bin .sub (.v 0) (.i 1)) .e)) (yw [.inr 0,.inr 0,.inl (.v 1)]))) .e)))) (.k (.call 8 (.k (.idx (.cst zp) (.i 3)) .e)) .e)))) (.k (.ret (.bin .add (.call 10 (.k (.s "c") (.k (.i 0) (.k (.tup (.k (.v 0) (.k (.v 1) (.k (.i 0) .e)))) .e)))) (.call 2 (.k (.bin .add (.call 9 (.k (.idx (.cst zp) (.i 2)) .e)) (.v 2)) .e)))) .e))⟩
noncomputable def zaL:Fn:=⟨0,0,AB,(.k (.ret (.bin .add (.bin .add (.call 14 (.k (.s "a") (.k (.s "b") (.k (.s "c") (.k (.s "d") .e))))) (.call 13 .e)) (.call 11 (.k (.i 0) (.k (.i 1) .e))))) .e)⟩
def zdb:Fn:=⟨0,0,AB,(.k (.ret (.bin .add (.call 10 (.k (.s "b") (.k (.i 0) (.k (.cst zB) .e)))) (.call 2 (.k (.call 9 (.k (.idx (.cst zp) (.i 0)) .e)) .e)))) .e)⟩
def zfk:Fn:=⟨4,6,AB,(.k (.asg (.n 4) (.tup (.k (.call 5 (yab (.k (.i 1) (.k (.tup (.k (.call 4 (yab (.k (.v 0) .e) (yw [.inr 0,.inr 0,.inr 0,.inl (.i 1)]))) .e)) .e)) (yw [.inl (.i 1),.inr 0,.inr 0,.inr 0]))) (.k (.call 5 (yab (.k (.neg (.i 1)) (.k (.tup (.k (.call 4 (yab (.k (.v 2) .e) (yw [.inr 0,.inr 0,.inr 0,.inl (.i 1)]))) (.k (.call 4 (yab (.k (.v 1) .e) (yw [.inr 0,.inr 0,.inr 0,.inl (.i 1)]))) .e))) .e)) (yw [.inr 0,.inr 0,.inr 0,.inl (.i 1)]))) (.k (.call 5 (yab (.k (.neg (.i 1)) (.k (.tup (.k (.call 4 (yab (.k (.v 3) (.k (.i 1) .e)) (yw [.inr 0,.inr 0,.inl (.i 1)]))) .e)) .e)) (yw [.inr 0,.inr 0,.inr 0,.inl (.i 1)]))) (.k (.call 5 (yab (.k (.neg (.i 1)) (.k (.tup (.k (.call 4 (yab (.k (.s "e") .e) (yw [.inr 0,.inr 0,.inr 0,.inl (.i 1)]))) .e)) .e)) (yw [.inr 0,.inr 0,.inr 0,.inr 0]))) .e)))))) (.k (.asg (.n 5) (.bin .add (.bin .add (.bin .add (.call 15 (.k (.v 3) .e)) (.call 16 (.k (.v 3) (.k (.v 1) .e)))) (.call 17 (.k (.v 3) (.k (.v 1) .e)))) (.call 18 (.k (.v 2) .e)))) (.k (.ret (.bin .add (.call 6 (yab (.k (.s "e") (.k (.v 0) .e)) (yw [.inr 0]))) (.call 3 (.k (.cst zcH) (.k (.v 4) (.k (.v 5) .e)))))) .e)))⟩
def zcG:Fn:=⟨1,1,AB,(.k (.ret (.bin .add (.bin .add (.call 2 (.k (.lst (.k (.tup (.k (.s "mark") (.k (.i 0) .e))) .e)) .e)) (.call 7 (.k (.s "e") (.k (.cst zB) .e)))) (.call 7 (.k (.v 0) (.k (.tup (.k (.i 1) (.k (.i 1) (.k (.i 0) .e)))) .e))))) .e)⟩
def zbH:Fn:=⟨2,4,AB,(.k (.asg (.n 2) (.tup (.k (.s "less") (.k (.call 0 (yab (.k (.v 0) .e) (yw [.inr 0,.inr 0,.inl (.i 1),.inr 0]))) (.k (.call 0 (yab (.k (.v 0) .e) (yw [.inr 0,.inr 0,.inl (.i 1),.inr 0]))) (.k (.call 0 (yab (.k (.v 1) .e) (yw [.inr 0,.inr 0,.inl (.i 1),.inr 0]))) .e)))))) (.k (.asg (.n 3) (.call 0 (yab (.k (.v 0) .e) (yw [.inr 0,.inr 0,.inr 0,.inl (.i 1)])))) (.k (.ret (.bin .add (.call 3 (.k (.cst zB) (.k (.tup .e) (.k (.call 2 (.k (.lst (.k (.v 2) .e)) .e)) .e)))) (.call 2 (.k (.lst (.k (.tup (.k (.s "less") (.k (.v 3) (.k (.v 3) (.k (.cst zdw) .e))))) .e)) .e)))) .e)))⟩
def zdR:Fn:=⟨2,5,AB,(.k (.asg (.n 2) (.lst (.k (.tup (.k (.s "both") (.k (.cst zai) (.k (.call 0 (yab (.k (.v 1) .e) (yw [.inr 0,.inr 0,.inl (.i 1),.inr 0]))) (.k (.cst zdW) .e))))) (.k (.tup (.k (.s "sum") (.k (.call 0 (yab (.k (.v 0) .e) (yw [.inr 0,.inr 0,.inl (.i 1),.inr 0]))) (.k (.call 0 (yab (.k (.v 0) .e) (yw [.inr 0,.inr 0,.inl (.i 1),.inr 0]))) (.k (.cst zai) .e))))) .e)))) (.k (.asg (.n 3) (.call 0 (yab (.k (.v 0) .e) (yw [.inr 0,.inr 0,.inr 0,.inl (.i 1)])))) (.k (.asg (.n 4) (.call 2 (.k (.lst (.k (.tup (.k (.s "less") (.k (.cst zdW) (.k (.cst zdw) (.k (.cst zdw) .e))))) (.k (.tup (.k (.s "mark") (.k (.i 0) .e))) .e))) .e))) (.k (.ret (.bin .add (.bin .add (.v 4) (.call 3 (.k (.cst zB) (.k (.tup .e) (.k (.call 2 (.k (.v 2) .e)) .e))))) (.call 2 (.k (.lst (.k (.tup (.k (.s "sum") (.k (.v 3) (.k (.v 3) (.k (.cst zdw) .e))))) .e)) .e)))) .e))))⟩
def zch:Fn:=⟨1,1,AB,(.k (.ret (.bin .add (.call 2 (.k (.lst (.k (.tup (.k (.s "bare") (.k (.cst zdW) (.k (.cst zdW) .e)))) (.k (.tup (.k (.s "ask") (.k (.cst zdW) .e))) .e))) .e)) (.call 7 (.k (.v 0) (.k (.cst zB) .e))))) .e)⟩
noncomputable def zaB:Fn:=⟨3,3,AB,(.k (.ret (.and (.isi (.v 0) [.int]) (.and (.not (.isi (.v 0) [.bool])) (.chain .le .le (.v 1) (.v 0) (.v 2))))) .e)⟩
noncomputable def zbM:Fn:=⟨1,1,AB,(.k (.ret (.and (.isi (.v 0) [.str]) (.and (.cmp .eq (.blt .len (.k (.v 0) .e)) (.i 1)) (.chain .le .le (.s "a") (.v 0) (.s "z"))))) .e)⟩
def zea:Fn:=⟨2,2,AB,(.k (.ite (.or (.not (.isi (.v 0) [.tuple])) (.cmp .ne (.blt .len (.k (.v 0) .e)) (.v 1))) (.k .nope .e) .e) (.k (.ret (.blt .all (.k (.comp [AD] (.n 0) (.seq (.v 0)) (.cst (.bl AB)) (.call 19 (.k (.v 0) (.k (.neg (.cst zdE)) (.k (.cst zdE) .e))))) .e))) .e))⟩
noncomputable def zbc:Fn:=⟨1,1,AB,(.k (.ret (.bin .add (.bin .add (.call 24 (.k (.v 0) (.k (.tup (.k (.s "mark") (.k (.i 0) .e))) (.k (.call 25 .e) .e)))) (.call 27 .e)) (.call 11 (.k (.i 0) (.k (.i 1) .e))))) .e)⟩
noncomputable def zbK:Fn:=⟨1,1,AB,(.k (.ret (.bin .add (.bin .add (.call 24 (.k (.v 0) (.k (.call 26 .e) (.k (.call 25 .e) .e)))) (.call 27 .e)) (.call 11 (.k (.i 0) (.k (.i 1) .e))))) .e)⟩
def zeW:Fn:=⟨3,3,AB,(.k (.ret (.bin .add (.call 6 (yab (.k (.s "c") (.k (.s "a") .e)) (yw [.inr 0]))) (.call 3 (.k (.tup (.k (.v 0) (.k (.i 0) (.k (.i 0) .e)))) (.k (.tup .e) (.k (.bin .add (.call 2 (.k (.lst (.k (.v 1) .e)) .e)) (.v 2)) .e)))))) .e)⟩
def zbi:Fn:=⟨0,1,AB,(.k (.asg (.n 0) (.call 0 (yab (.k (.s "c") (.k (.neg (.i 1)) .e)) (yw [.inr 0,.inl (.neg (.i 1)),.inl (.i 1)])))) (.k (.ret (.call 3 (.k (.cst zB) (.k (.tup .e) (.k (.call 2 (.k (.lst (.k (.tup (.k (.s "half") (.k (.v 0) (.k (.v 0) .e)))) .e)) .e)) .e))))) .e))⟩
def zbU:Fn:=⟨0,0,AB,(.k (.ret (.tup (.k (.s "twice") (.k (.cst zai) (.k (.call 1 (.k (.s "c") .e)) .e))))) .e)⟩
def zbY:Fn:=⟨0,0,AB,(.k (.ret (.call 2 (.k (.lst (.k (.call 8 (.k (.idx (.cst zp) (.i 0)) .e)) .e)) .e))) .e)⟩
def zX:Fn:=⟨0,3,AB,(.k (.asg (.n 0) (.bin .add (.bin .add (.call 29 (.k (.cst zb6) (.k (.s "a") .e))) (.call 29 (.k (.cst zcQ) (.k (.s "b") .e)))) (.call 2 (.k (.lst (.k (.tup (.k (.s "odd") (.k (.cst zY) (.k (.cst zb6) (.k (.cst zcQ) .e))))) .e)) .e)))) (.k (.asg (.n 1) (.bin .add (.call 31 (.k (.cst zb6) (.k (.s "u") (.k (.s "a") .e)))) (.call 31 (.k (.cst zcQ) (.k (.s "v") (.k (.s "b") .e)))))) (.k (.asg (.n 2) (.bin .add (.call 31 (.k (.cst zY) (.k (.s "c") (.k (.s "q") .e)))) (.call 31 (.k (.cst zb6) (.k (.s "d") (.k (.s "r") .e)))))) (.k (.ret (.bin .add (.bin .add (.bin .add (.bin .add (.bin .add (.bin .add (.v 0) (.v 1)) (.call 14 (.k (.s "u") (.k (.s "v") (.k (.s "q") (.k (.s "r") .e)))))) (.v 2)) (.call 13 .e)) (.call 32 .e)) (.call 11 (.k (.i 0) (.k (.i 1) .e))))) .e))))⟩
def zdC:Fn:=⟨2,2,AB,(.k (.ret (.call 2 (.k (.lst (.k (.tup (.k (.s "twice") (.k (.cst zai) (.k (.call 1 (.k (.v 1) .e)) .e)))) (.k (.call 8 (.k (.v 0) .e)) .e))) .e))) .e)⟩
def zd2:Fn:=⟨1,1,AB,(.k (.ret (.call 4 (yab (.k (.idx (.v 0) (.i 0)) (.k (.i 1) .e)) (yw [.inr 0,.inr 0,.inr 0])))) .e)⟩
def zbE:Fn:=⟨3,4,AB,(.k (.asg (.n 3) (.tup (.k (.call 5 (yab (.k (.i 1) (.k (.tup (.k (.call 4 (yab (.k (.v 1) .e) (yw [.inr 0,.inl (.i 1),.inr 0,.inr 0]))) .e)) .e)) (yw [.inr 0,.inr 0,.inr 0,.inr 0]))) (.k (.call 5 (yab (.k (.i 1) (.k (.tup (.k (.tup (.k (.s "mark") .e)) .e)) .e)) (yw [.inr 0,.inl (.i 1),.inr 0,.inr 0]))) (.k (.call 5 (yab (.k (.neg (.i 1)) (.k (.tup (.k (.call 4 (yab (.k (.v 2) .e) (yw [.inr 0,.inl (.i 1),.inr 0,.inr 0]))) .e)) .e)) (yw [.inr 0,.inr 0,.inr 0,.inr 0]))) (.k (.call 5 (yab (.k (.i 2) (.k (.tup (.k (.call 30 (.k (.v 0) .e)) (.k (.call 4 (yab (.k (.v 2) .e) (yw [.inr 0,.inl (.i 1),.inr 0,.inr 0]))) .e))) .e)) (yw [.inr 0,.inr 0,.inr 0,.inr 0]))) (.k (.call 5 (yab (.k (.neg (.i 1)) (.k (.tup (.k (.call 30 (.k (.v 0) .e)) .e)) .e)) (yw [.inr 0,.inl (.i 1),.inr 0,.inr 0]))) .e))))))) (.k (.ret (.bin .add (.call 2 (.k (.lst (.k (.tup (.k (.s "ask") (.k (.v 0) .e))) (.k (.tup (.k (.s "less") (.k (.cst za0) (.k (.cst zdw) (.k (.cst zdw) .e))))) .e))) .e)) (.call 3 (.k (.cst zB) (.k (.v 3) (.k (.call 2 (.k (.lst (.k (.tup (.k (.s "odd") (.k (.cst zai) (.k (.call 0 (yab (.k (.v 2) .e) (yw [.inr 0,.inl (.i 1),.inr 0,.inr 0]))) (.k (.cst za0) .e))))) (.k (.tup (.k (.s "sum") (.k (.call 0 (yab (.k (.v 1) .e) (yw [.inr 0,.inl (.i 1),.inr 0,.inr 0]))) (.k (.cst zai) (.k (.cst zdw) .e))))) .e))) .e)) .e)))))) .e))⟩
def za2:Fn:=⟨0,0,AB,(.k (.ret (.call 2 (.k (.lst (.k (.tup (.k (.s "twice") (.k (.cst zai) (.k (.call 1 (.k (.s "q") .e)) .e)))) (.k (.call 8 (.k (.idx (.cst zp) (.i 1)) .e)) (.k (.tup (.k (.s "any") (.k (.idx (.cst zp) (.i 1)) (.k (.idx (.cst zp) (.i 1)) (.k (.cst zY) .e))))) (.k (.tup (.k (.s "odd") (.k (.idx (.cst zp) (.i 1)) (.k (.idx (.cst zp) (.i 1)) (.k (.cst zY) .e))))) .e))))) .e))) .e)⟩
def zb7:Fn:=⟨0,3,AB,(.k (.asg (.n 0) (.tup (.k (.s "sum") (.k (.call 0 (yab (.k (.s "c") .e) (yw [.inr 0,.inl (.i 1),.inr 0,.inr 0]))) (.k (.call 0 (yab (.k (.s "a") .e) (yw [.inr 0,.inl (.i 1),.inr 0,.inr 0]))) (.k (.call 0 (yab (.k (.s "b") .e) (yw [.inr 0,.inl (.i 1),.inr 0,.inr 0]))) .e)))))) (.k (.asg (.n 1) (.tup (.k (.call 5 (yab (.k (.i 1) (.k (.tup (.k (.call 4 (yab (.k (.s "a") .e) (yw [.inr 0,.inl (.i 1),.inr 0,.inr 0]))) .e)) .e)) (yw [.inr 0,.inr 0,.inr 0,.inr 0]))) (.k (.call 5 (yab (.k (.i 1) (.k (.tup (.k (.call 4 (yab (.k (.s "b") .e) (yw [.inr 0,.inl (.i 1),.inr 0,.inr 0]))) .e)) .e)) (yw [.inr 0,.inr 0,.inr 0,.inr 0]))) (.k (.call 5 (yab (.k (.neg (.i 1)) (.k (.tup (.k (.call 4 (yab (.k (.s "c") .e) (yw [.inr 0,.inl (.i 1),.inr 0,.inr 0]))) .e)) .e)) (yw [.inr 0,.inr 0,.inr 0,.inr 0]))) (.k (.call 5 (yab (.k (.neg (.i 1)) (.k (.tup (.k (.tup (.k (.s "mark") .e)) .e)) .e)) (yw [.inr 0,.inl (.i 1),.inr 0,.inr 0]))) .e)))))) (.k (.asg (.n 2) (.call 36 (.k (.call 1 (.k (.s "c") .e)) (.k (.call 1 (.k (.s "a") .e)) (.k (.call 1 (.k (.s "b") .e)) .e))))) (.k (.ret (.bin .add (.bin .add (.call 35 (.k (.v 0) (.k (.v 1) .e))) (.v 2)) (.call 11 (.k (.i 0) (.k (.i 1) .e))))) .e))))⟩
def zaM:Fn:=⟨1,2,AB,(.k (.asg (.n 1) (.tup (.k (.v 0) (.k (.call 0 (yab (.k (.s "c") .e) (yw [.inr 0,.inl (.i 1),.inr 0,.inr 0]))) (.k (.call 0 (yab (.k (.s "a") .e) (yw [.inr 0,.inl (.i 1),.inr 0,.inr 0]))) (.k (.call 0 (yab (.k (.s "b") .e) (yw [.inr 0,.inl (.i 1),.inr 0,.inr 0]))) .e)))))) (.k (.ret (.bin .add (.call 3 (.k (.cst zB) (.k (.tup .e) (.k (.call 2 (.k (.lst (.k (.v 1) .e)) .e)) .e)))) (.call 11 (.k (.i 0) (.k (.i 1) .e))))) .e))⟩
def ze4:Fn:=⟨2,2,AB,(.k (.ret (.bin .add (.bin .add (.call 2 (.k (.lst (.k (.tup (.k (.s "mark") (.k (.i 0) .e))) .e)) .e)) (.call 3 (.k (.cst zB) (.k (.v 1) (.k (.call 2 (.k (.lst (.k (.v 0) .e)) .e)) .e))))) (.call 2 (.k (.lst (.k (.call 8 (.k (.idx (.cst zp) (.i 0)) .e)) .e)) .e)))) .e)⟩
def zc3:Fn:=⟨3,3,AB,(.k (.ret (.call 2 (.k (.lst (.k (.tup (.k (.s "odd") (.k (.cst zai) (.k (.v 0) (.k (.v 1) .e))))) (.k (.tup (.k (.s "odd") (.k (.cst zds) (.k (.v 0) (.k (.v 2) .e))))) (.k (.tup (.k (.s "both") (.k (.cst zai) (.k (.cst zai) (.k (.cst zds) .e))))) (.k (.tup (.k (.s "twice") (.k (.cst zai) (.k (.cst zai) .e)))) (.k (.call 8 (.k (.idx (.cst zp) (.i 1)) .e)) .e)))))) .e))) .e)⟩
noncomputable def zcR:Fn:=⟨1,1,AB,(.k (.ret (.call 39 (.k (.v 0) (.k (.cst (.bl AC)) .e)))) .e)⟩
noncomputable def zb0:Fn:=⟨1,1,AB,(.k (.ret (.call 39 (.k (.v 0) (.k (.cst (.bl AB)) .e)))) .e)⟩
def yaa:Fn:=⟨2,4,AB,(.k (.ite (.or (.not (.call 40 (.k (.v 0) .e))) (.cmp .ne (.blt .len (.k (.v 0) .e)) (.bin .add (.blt .len (.k (.dix zat (.idx (.v 0) (.i 0))) .e)) (.i 1)))) (.k (.ret (.cst (.bl AC))) .e) .e) (.k (.for (.t [2,3]) (.zip (.dix zat (.idx (.v 0) (.i 0))) (.slc (.v 0) (.i 1) (.cst .non))) (.k (.ite (.not (.call 41 (.k (.v 2) (.k (.v 3) (.k (.v 1) .e))))) (.k (.ret (.cst (.bl AC))) .e) .e) .e)) (.k (.ret (.or (.cmp .ne (.idx (.v 0) (.i 0)) (.s "times")) (.cmp .ne (.idx (.v 0) (.i 1)) (.idx (.v 0) (.i 2))))) .e)))⟩
def zbv:Fn:=⟨1,1,AB,(.k (.ret (.and (.isi (.v 0) [.tuple]) (.and (.cmp .gt (.blt .len (.k (.v 0) .e)) (.i 0)) (.and (.isi (.idx (.v 0) (.i 0)) [.str]) (.din (.idx (.v 0) (.i 0)) zat))))) .e)⟩
noncomputable def zae:Fn:=⟨3,3,AB,(.k (.ite (.cmp .eq (.v 0) (.s "figure")) (.k (.ret (.call 19 (.k (.v 1) (.k (.i 0) (.k (.i 1) .e))))) .e) .e) (.k (.ret (.ite (.v 2) (.call 43 (.k (.v 1) .e)) (.call 42 (.k (.v 1) .e)))) .e))⟩
noncomputable def zcg:Fn:=⟨1,1,AB,(.k (.ret (.and (.call 44 (.k (.v 0) .e)) (.call 19 (.k (.idx (.v 0) (.i 1)) (.k (.i 0) (.k (.i 99) .e)))))) .e)⟩
noncomputable def zbJ:Fn:=⟨1,1,AB,(.k (.ret (.and (.call 44 (.k (.v 0) .e)) (.call 21 (.k (.idx (.v 0) (.i 1)) (.k (.i 4) .e))))) .e)⟩
noncomputable def zaA:Fn:=⟨1,1,AB,(.k (.ret (.and (.isi (.v 0) [.tuple]) (.and (.cmp .eq (.blt .len (.k (.v 0) .e)) (.i 2)) (.call 20 (.k (.idx (.v 0) (.i 0)) .e))))) .e)⟩
def zcc:Fn:=⟨1,1,AB,(.k (.ret (.and (.isi (.v 0) [.tuple]) (.and (.cmp .le (.blt .len (.k (.v 0) .e)) (.cst zfe)) (.blt .all (.k (.comp [AD] (.n 0) (.seq (.v 0)) (.cst (.bl AB)) (.call 47 (.k (.v 0) .e))) .e))))) .e)⟩
noncomputable def zbq:Fn:=⟨4,4,AB,(.k (.ret (.bin .add (.bin .add (.bin .add (.idx (.v 0) (.i 0)) (.bin .mul (.idx (.v 0) (.i 1)) (.v 2))) (.bin .mul (.idx (.v 0) (.i 2)) (.v 3))) (.bin .mul (.idx (.v 0) (.i 3)) (.v 1)))) .e)⟩
def zfs:Fn:=⟨1,4,AB,(.k (.ite (.or (.not (.isi (.v 0) [.tuple])) (.cmp .ne (.blt .len (.k (.v 0) .e)) (.i 3))) (.k (.ret (.cst (.bl AC))) .e) .e) (.k (.asg (.t [1,2,3]) (.v 0)) (.k (.ret (.and (.call 19 (.k (.v 1) (.k (.bin .sub (.i 1) (.cst zbF)) (.k (.bin .sub (.cst zbF) (.i 1)) .e)))) (.and (.call 21 (.k (.v 2) (.k (.i 6) .e))) (.call 48 (.k (.v 3) .e))))) .e)))⟩
def zcK:Fn:=⟨1,1,AB,(.k (.ret (.and (.isi (.v 0) [.tuple]) (.and (.cmp .le (.blt .len (.k (.v 0) .e)) (.cst zem)) (.blt .all (.k (.comp [AD] (.n 0) (.seq (.v 0)) (.cst (.bl AB)) (.call 49 (.k (.v 0) .e))) .e))))) .e)⟩
noncomputable def zd3:Fn:=⟨1,1,AB,(.k (.ite (.or (.not (.isi (.v 0) [.tuple])) (.cmp .eq (.blt .len (.k (.v 0) .e)) (.i 0))) (.k (.ret (.cst (.bl AC))) .e) .e) (.k (.ite (.cmp .eq (.idx (.v 0) (.i 0)) (.s "mark")) (.k (.ret (.cmp .eq (.blt .len (.k (.v 0) .e)) (.i 1))) .e) .e) (.k (.ite (.or (.cmp .ne (.idx (.v 0) (.i 0)) (.s "slice")) (.or (.cmp .ne (.blt .len (.k (.v 0) .e)) (.i 4)) (.not (.call 20 (.k (.idx (.v 0) (.i 1)) .e))))) (.k (.ret (.cst (.bl AC))) .e) .e) (.k (.ret (.and (.call 21 (.k (.idx (.v 0) (.i 2)) (.k (.i 4) .e))) (.call 21 (.k (.idx (.v 0) (.i 3)) (.k (.i 4) .e))))) .e))))⟩
noncomputable def zV:Fn:=⟨3,3,AC,(.k (.sfl 20 (.v 0) (AF "w") (.v 1)) (.k (.sfl 20 (.v 0) (AF "n") (.v 2)) (.k (.sfl 20 (.v 0) (AF "steps") (.newl .e)) (.k (.sfl 20 (.v 0) (AF "rows") (.i 0)) (.k (.sfl 20 (.v 0) (AF "rounds") (.i 0)) .e)))))⟩
noncomputable def yj:Fn:=⟨3,4,AC,(.k (.for (.n 3) (.seq (.v 1)) (.k (.ite (.cmp .eq (.idx (.v 3) (.i 0)) (.s "row")) (.k (.expr (.mcl 20 54 (AF "add_row") (.v 0) (.k (.idx (.v 3) (.i 1)) (.k (.v 2) .e)))) .e) (.k (.expr (.mcl 20 52 (AF "go_rounds") (.v 0) (.k (.v 3) (.k (.v 2) .e)))) .e)) .e)) .e)⟩
noncomputable def yp:Fn:=⟨3,5,AC,(.k (.asg (.n 3) (.blt .max (.k (.i 0) (.k (.mcl 20 53 (AF "count_of") (.v 0) (.k (.idx (.v 1) (.i 1)) .e)) .e)))) (.k (.for (.n 4) (.range1 (.v 3)) (.k (.expr (.mcl 20 56 (AF "add_asked") (.v 0) (.k (.idx (.v 1) (.i 2)) (.k (.bin .add (.v 2) (.tup (.k (.v 4) .e))) .e)))) (.k (.expr (.mcl 20 55 (AF "add_round") (.v 0) .e)) (.k (.expr (.mcl 20 51 (AF "go_parts") (.v 0) (.k (.idx (.v 1) (.i 3)) (.k (.bin .add (.v 2) (.tup (.k (.v 4) .e))) .e)))) .e)))) (.k (.expr (.mcl 20 56 (AF "add_asked") (.v 0) (.k (.idx (.v 1) (.i 2)) (.k (.bin .add (.v 2) (.tup (.k (.v 3) .e))) .e)))) .e)))⟩
noncomputable def zC:Fn:=⟨2,5,AC,(.k (.asg (.t [2,3,4]) (.v 1)) (.k (.ret (.bin .add (.bin .add (.v 2) (.bin .mul (.v 3) (.fld 20 (.v 0) (AF "n")))) (.bin .mul (.bin .mul (.v 4) (.fld 20 (.v 0) (AF "w"))) (.fld 20 (.v 0) (AF "n"))))) .e))⟩
def zH:Fn:=⟨3,6,AC,(.k (.asg (.t [3,4]) (.call 62 (.k (.v 2) .e))) (.k (.asg (.n 5) (.blt .tuple (.k (.comp [AD,AA 3,AA 4,AA 0] (.n 0) (.seq (.v 1)) (.cst (.bl AB)) (.call 63 (.k (.v 0) (.k (.fld 20 (.v 3) (AF "n")) (.k (.v 1) (.k (.v 2) .e)))))) .e))) (.k (.sfl 20 (.v 0) (AF "rows") (.bin .add (.fld 20 (.v 0) (AF "rows")) (.i 1))) (.k (.ite (.or (.not (.call 37 (.k (.v 5) .e))) (.cmp .gt (.fld 20 (.v 0) (AF "rows")) (.cst zdz))) (.k .nope .e) .e) (.k (.expr (.mth .append (.fld 20 (.v 0) (AF "steps")) (.k (.tup (.k (.s "row") (.k (.v 5) .e))) .e))) .e)))))⟩
def zy:Fn:=⟨1,1,AC,(.k (.sfl 20 (.v 0) (AF "rounds") (.bin .add (.fld 20 (.v 0) (AF "rounds")) (.i 1))) (.k (.ite (.cmp .gt (.fld 20 (.v 0) (AF "rounds")) (.cst zbV)) (.k .nope .e) .e) .e))⟩
noncomputable def zz:Fn:=⟨3,5,AC,(.k (.asg (.t [3,4]) (.call 62 (.k (.v 2) .e))) (.k (.expr (.mth .append (.fld 20 (.v 0) (AF "steps")) (.k (.tup (.k (.s "asked") (.k (.v 1) (.k (.v 3) (.k (.v 4) .e))))) .e))) .e))⟩
def zbj:Fn:=⟨1,1,AB,(.k (.ret (.call 60 (.k (.v 0) (.k (.cst zfb) .e)))) .e)⟩
noncomputable def zbt:Fn:=⟨3,3,AB,(.k (.ret (.blt .tuple (.k (.comp [AD] (.n 0) (.seq (.call 59 (.k (.v 0) (.k (.v 1) (.k (.v 2) .e))))) (.cmp .eq (.idx (.v 0) (.i 0)) (.s "row")) (.idx (.v 0) (.i 1))) .e))) .e)⟩
noncomputable def zbn:Fn:=⟨3,4,AB,(.k (.ite (.not (.call 57 (.k (.v 0) .e))) (.k .nope .e) .e) (.k (.asg (.n 3) (.new 20 50 (.k (.v 1) (.k (.v 2) .e)))) (.k (.expr (.mcl 20 51 (AF "go_parts") (.v 3) (.k (.v 0) (.k (.tup .e) .e)))) (.k (.ret (.frz (.fld 20 (.v 3) (AF "steps")))) .e))))⟩
noncomputable def zdq:Fn:=⟨2,2,AB,(.k (.ret (.and (.isi (.v 0) [.tuple]) (.blt .all (.k (.comp [AD,AA 1] (.n 0) (.seq (.v 0)) (.cst (.bl AB)) (.call 61 (.k (.v 0) (.k (.v 1) .e)))) .e)))) .e)⟩
noncomputable def zfz:Fn:=⟨2,2,AB,(.k (.ite (.or (.not (.isi (.v 0) [.tuple])) (.cmp .eq (.blt .len (.k (.v 0) .e)) (.i 0))) (.k (.ret (.cst (.bl AC))) .e) .e) (.k (.ite (.cmp .eq (.idx (.v 0) (.i 0)) (.s "row")) (.k (.ret (.and (.cmp .eq (.blt .len (.k (.v 0) .e)) (.i 2)) (.call 38 (.k (.idx (.v 0) (.i 1)) .e)))) .e) .e) (.k (.ite (.or (.cmp .ne (.idx (.v 0) (.i 0)) (.s "rounds")) (.or (.cmp .ne (.blt .len (.k (.v 0) .e)) (.i 4)) (.cmp .eq (.v 1) (.i 0)))) (.k (.ret (.cst (.bl AC))) .e) .e) (.k (.ret (.and (.call 21 (.k (.idx (.v 0) (.i 1)) (.k (.i 3) .e))) (.and (.call 45 (.k (.idx (.v 0) (.i 2)) .e)) (.call 60 (.k (.idx (.v 0) (.i 3)) (.k (.bin .sub (.v 1) (.i 1)) .e)))))) .e))))⟩
noncomputable def zaI:Fn:=⟨1,1,AB,(.k (.ret (.slc (.bin .add (.v 0) (.tup (.k (.i 0) (.k (.i 0) .e)))) (.cst .non) (.i 2))) .e)⟩
noncomputable def zaX:Fn:=⟨4,4,AB,(.k (.ite (.not (.isi (.v 0) [.tuple])) (.k (.ret (.v 0)) .e) .e) (.k (.ret (.tup (.k (.idx (.v 0) (.i 0)) (.k (.call 46 (.k (.idx (.v 0) (.i 1)) (.k (.v 1) (.k (.v 2) (.k (.v 3) .e))))) .e)))) .e))⟩
def zdB:Fn:=⟨1,1,AB,(.k (.ite (.not (.call 66 (.k (.v 0) .e))) (.k .nope .e) .e) (.k (.ite (.cmp .eq (.idx (.v 0) (.i 0)) (.s "led")) (.k .nope .e) .e) (.k (.ite (.cmp .isin (.idx (.v 0) (.i 0)) (.cst zeO)) (.k (.ret (.call 70 (.k (.idx (.v 0) (.i 0)) (.k (.idx (.v 0) (.i 1)) .e)))) .e) .e) (.k (.ite (.cmp .isin (.idx (.v 0) (.i 0)) (.cst zdP)) (.k (.ret (.call 34 (.k (.idx (.v 0) (.i 0)) .e))) .e) .e) (.k (.ret (.call 71 (.k (.idx (.v 0) (.i 0)) .e))) .e)))))⟩
noncomputable def zaF:Fn:=⟨3,3,AB,(.k (.ret (.call 58 (.k (.call 64 (.k (.v 0) .e)) (.k (.v 1) (.k (.v 2) .e))))) .e)⟩
def zfg:Fn:=⟨1,1,AB,(.k (.ite (.or (.not (.isi (.v 0) [.tuple])) (.cmp .eq (.blt .len (.k (.v 0) .e)) (.i 0))) (.k .nope .e) .e) (.k (.ite (.cmp .eq (.idx (.v 0) (.i 0)) (.s "led")) (.k .nope .e) .e) (.k (.ite (.cmp .isin (.idx (.v 0) (.i 0)) (.cst zeO)) (.k (.ret (.and (.cmp .eq (.blt .len (.k (.v 0) .e)) (.i 2)) (.call 19 (.k (.idx (.v 0) (.i 1)) (.k (.i 0) (.k (.i 100) .e)))))) .e) .e) (.k (.ret (.and (.cmp .eq (.blt .len (.k (.v 0) .e)) (.i 1)) (.or (.cmp .isin (.idx (.v 0) (.i 0)) (.cst zeA)) (.cmp .isin (.idx (.v 0) (.i 0)) (.cst zkP))))) .e))))⟩
def zdf:Fn:=⟨1,1,AB,(.k (.ret (.cmp .isin (.idx (.v 0) (.i 0)) (.cst zeA))) .e)⟩
def z8:Fn:=⟨2,2,AB,(.k (.ite (.cmp .eq (.idx (.v 0) (.i 0)) (.s "compare")) (.k .nope .e) .e) (.k (.ite (.cmp .eq (.idx (.v 0) (.i 0)) (.s "led")) (.k .nope .e) .e) (.k (.ret (.ite (.cmp .isin (.idx (.v 0) (.i 0)) (.cst zbu)) (.bin .mul (.i 2) (.v 1)) (.v 1))) .e)))⟩
def zap:Fn:=⟨2,2,AB,(.k (.ret (.ite (.cmp .isin (.idx (.v 0) (.i 0)) (.cst zac)) (.v 1) (.i 0))) .e)⟩
noncomputable def za6:Fn:=⟨2,2,AB,(.k (.ite (.cmp .eq (.v 0) (.s "left")) (.k .nope .e) .e) (.k (.ite (.cmp .eq (.v 0) (.s "right")) (.k (.ret (.call 22 (.k (.v 1) .e))) .e) .e) (.k (.ite (.cmp .eq (.v 0) (.s "down")) (.k (.ret (.call 23 (.k (.v 1) .e))) .e) .e) (.k .nope .e))))⟩
noncomputable def za8:Fn:=⟨1,1,AB,(.k (.ite (.cmp .eq (.v 0) (.s "sum")) (.k (.ret (.call 33 .e)) .e) .e) (.k (.ite (.cmp .eq (.v 0) (.s "difference")) (.k .nope .e) .e) (.k (.ite (.cmp .eq (.v 0) (.s "turned")) (.k .nope .e) .e) (.k (.ite (.cmp .eq (.v 0) (.s "compare")) (.k .nope .e) .e) (.k (.ite (.cmp .eq (.v 0) (.s "bare")) (.k .nope .e) .e) (.k (.ite (.cmp .eq (.v 0) (.s "product")) (.k .nope .e) .e) (.k (.ite (.cmp .eq (.v 0) (.s "signed product")) (.k .nope .e) .e) (.k (.ite (.cmp .eq (.v 0) (.s "quotient")) (.k (.ret (.call 12 .e)) .e) .e) (.k (.ret (.call 28 .e)) .e)))))))))⟩
def zgC:Fn:=⟨5,6,AB,(.k (.mkr 5 zQ (.v 0) (.k (.v 1) (.k (.v 2) (.k (.v 3) (.k (.v 4) .e))))) .e)⟩
noncomputable def zb5:Fn:=⟨1,1,AB,(.k (.ret (.bin .sub (.bin .shl (.i 1) (.v 0)) (.i 1))) .e)⟩
noncomputable def zeN:Fn:=⟨4,4,AB,(.k (.ret (.tup (.k (.v 1) (.k (.v 3) .e)))) .e)⟩
noncomputable def zeo:Fn:=⟨4,4,AB,(.k (.ret (.tup (.k (.bin .sub (.call 73 (.k (.v 0) .e)) (.v 1)) (.k (.v 3) .e)))) .e)⟩
noncomputable def zcS:Fn:=⟨4,5,AB,(.k (.asg (.n 4) (.bin .add (.bin .add (.v 1) (.v 2)) (.v 3))) (.k (.ret (.tup (.k (.bin .band (.v 4) (.call 73 (.k (.v 0) .e))) (.k (.bin .shr (.v 4) (.v 0)) .e)))) .e))⟩
noncomputable def zaq:Fn:=⟨4,5,AB,(.k (.asg (.n 4) (.bin .sub (.bin .sub (.v 1) (.v 2)) (.v 3))) (.k (.ret (.tup (.k (.bin .band (.v 4) (.call 73 (.k (.v 0) .e))) (.k (.ite (.cmp .lt (.v 4) (.i 0)) (.i 1) (.i 0)) .e)))) .e))⟩
noncomputable def zb8:Fn:=⟨4,4,AB,(.k (.ret (.tup (.k (.bin .band (.v 1) (.v 2)) (.k (.v 3) .e)))) .e)⟩
noncomputable def zcT:Fn:=⟨4,4,AB,(.k (.ret (.tup (.k (.bin .bor (.v 1) (.v 2)) (.k (.v 3) .e)))) .e)⟩
noncomputable def zcW:Fn:=⟨4,4,AB,(.k (.ret (.tup (.k (.bin .bxor (.v 1) (.v 2)) (.k (.v 3) .e)))) .e)⟩
noncomputable def zcf:Fn:=⟨4,4,AB,(.k (.ret (.call 76 (.k (.v 0) (.k (.v 1) (.k (.v 1) (.k (.v 3) .e)))))) .e)⟩
noncomputable def zcO:Fn:=⟨4,4,AB,(.k (.ret (.tup (.k (.bin .bor (.bin .shr (.v 1) (.i 1)) (.bin .shl (.v 3) (.bin .sub (.v 0) (.i 1)))) (.k (.bin .band (.v 1) (.i 1)) .e)))) .e)⟩
noncomputable def zN:Fn:=⟨2,2,AC,(.k (.sfl 21 (.v 0) (AF "w") (.v 1)) (.k (.sfl 21 (.v 0) (AF "words") (.dict0 AB)) (.k (.sfl 21 (.v 0) (AF "marked") (.i 0)) .e)))⟩
noncomputable def zay:Fn:=⟨4,5,AC,(.k (.asg (.n 4) (.call 90 (.k (.v 1) (.k (.v 2) .e)))) (.k (.ite (.not (.call 19 (.k (.v 3) (.k (.i 0) (.k (.call 73 (.k (.fld 21 (.v 0) (AF "w")) .e)) .e))))) (.k .nope .e) .e) (.k (.dput (.fld 21 (.v 0) (AF "words")) (.v 4) (.v 3)) .e)))⟩
noncomputable def zal:Fn:=⟨3,3,AC,(.k (.ret (.mcl 21 87 (AF "held_in") (.v 0) (.k (.call 90 (.k (.v 1) (.k (.v 2) .e))) .e))) .e)⟩
noncomputable def yJ:Fn:=⟨2,3,AC,(.k (.for (.n 2) (.seq (.v 1)) (.k (.expr (.call 91 (.k (.v 2) .e))) .e)) (.k (.for (.n 2) (.seq (.v 1)) (.k (.expr (.mcl 21 88 (AF "go_row") (.v 0) (.k (.v 2) .e))) .e)) .e))⟩
noncomputable def zR:Fn:=⟨2,2,AC,(.k (.ret (.mth .get (.fld 21 (.v 0) (AF "words")) (.k (.v 1) (.k (.i 0) .e)))) .e)⟩
def zl:Fn:=⟨2,2,AC,(.k (.ite (.cmp .eq (.idx (.v 1) (.i 0)) (.s "mark")) (.k (.sfl 21 (.v 0) (AF "marked") (.idx (.v 1) (.i 1))) .e) (.k (.ite (.cmp .eq (.idx (.v 1) (.i 0)) (.s "ask")) (.k (.sfl 21 (.v 0) (AF "marked") (.ite (.cmp .eq (.mcl 21 87 (AF "held_in") (.v 0) (.k (.idx (.v 1) (.i 1)) .e)) (.i 0)) (.i 0) (.i 1))) .e) (.k (.ite (.cmp .eq (.idx (.v 1) (.i 0)) (.s "set")) (.k (.dput (.fld 21 (.v 0) (AF "words")) (.idx (.v 1) (.i 1)) (.idx (.v 1) (.i 2))) .e) (.k (.ite (.cmp .eq (.idx (.v 1) (.i 0)) (.s "times")) (.k .nope .e) (.k (.expr (.mcl 21 89 (AF "go_made") (.v 0) (.k (.v 1) .e))) .e)) .e)) .e)) .e)) .e)⟩
noncomputable def zT:Fn:=⟨2,6,AC,(.k (.asg (.t [2,3]) (.tup (.k (.mcl 21 87 (AF "held_in") (.v 0) (.k (.idx (.v 1) (.i 2)) .e)) (.k (.mcl 21 87 (AF "held_in") (.v 0) (.k (.idx (.v 1) (.neg (.i 1))) .e)) .e)))) (.k (.asg (.t [4,5]) (.call 72 (.k (.idx (.v 1) (.i 0)) (.k (.fld 21 (.v 0) (AF "w")) (.k (.v 2) (.k (.v 3) (.k (.fld 21 (.v 0) (AF "marked")) .e))))))) (.k (.dput (.fld 21 (.v 0) (AF "words")) (.idx (.v 1) (.i 1)) (.v 4)) (.k (.sfl 21 (.v 0) (AF "marked") (.v 5)) .e))))⟩
noncomputable def za3:Fn:=⟨2,2,AB,(.k (.ite (.not (.call 42 (.k (.tup (.k (.v 0) (.k (.v 1) .e))) .e))) (.k .nope .e) .e) (.k (.ret (.tup (.k (.v 0) (.k (.v 1) .e)))) .e))⟩
noncomputable def zar:Fn:=⟨1,1,AB,(.k (.ite (.not (.call 37 (.k (.v 0) .e))) (.k .nope .e) .e) .e)⟩
noncomputable def zby:Fn:=⟨3,3,AB,(.k (.ite (.or (.cmp .lt (.v 0) (.i 0)) (.cmp .ge (.v 0) (.bin .shl (.i 1) (.bin .mul (.v 1) (.v 2))))) (.k .nope .e) .e) (.k (.ret (.call 95 (.k (.v 0) (.k (.v 1) (.k (.v 2) .e))))) .e))⟩
noncomputable def zeJ:Fn:=⟨2,2,AB,(.k (.ret (.blt .sum (.k (.comp [AD,AD,AA 1] (.t [0,1]) (.enum (.v 0)) (.cst (.bl AB)) (.bin .shl (.v 1) (.bin .mul (.v 2) (.v 0)))) .e))) .e)⟩
noncomputable def zb4:Fn:=⟨2,2,AB,(.k (.ret (.bin .shr (.idx (.v 0) (.neg (.i 1))) (.bin .sub (.v 1) (.i 1)))) .e)⟩
noncomputable def zan:Fn:=⟨3,4,AB,(.k (.asg (.n 3) (.bin .sub (.bin .shl (.i 1) (.v 1)) (.i 1))) (.k (.ret (.blt .tuple (.k (.comp [AD,AA 3,AA 0,AA 1] (.n 0) (.range1 (.v 2)) (.cst (.bl AB)) (.bin .band (.bin .shr (.v 2) (.bin .mul (.v 3) (.v 0))) (.v 1))) .e))) .e))⟩
def zah:Fn:=⟨5,5,AB,(.k (.ite (.not (.call 66 (.k (.v 0) .e))) (.k .nope .e) .e) (.k (.expr (.call 92 (.k (.v 3) (.k (.v 1) (.k (.v 2) .e))))) (.k (.expr (.call 92 (.k (.v 4) (.k (.v 1) (.k (.v 2) .e))))) (.k (.ite (.and (.cmp .ne (.v 4) (.i 0)) (.not (.call 67 (.k (.v 0) .e)))) (.k .nope .e) .e) (.k (.ite (.and (.cmp .eq (.v 4) (.i 0)) (.cmp .isin (.idx (.v 0) (.i 0)) (.cst zac))) (.k .nope .e) .e) .e)))))⟩
def ycu:Fn:=⟨5,7,AB,(.k (.expr (.call 96 (.k (.v 0) (.k (.v 1) (.k (.v 2) (.k (.v 3) (.k (.v 4) .e))))))) (.k (.asg (.n 5) (.call 98 (.k (.v 1) (.k (.v 2) (.k (.v 3) (.k (.v 4) .e)))))) (.k (.expr (.mcl 21 86 (AF "run") (.v 5) (.k (.call 65 (.k (.v 0) (.k (.v 1) (.k (.v 2) .e)))) .e))) (.k (.asg (.n 6) (.call 99 (.k (.v 5) (.k (.s "c") (.k (.call 68 (.k (.v 0) (.k (.v 2) .e))) .e))))) (.k (.ret (.tup (.k (.v 6) (.k (.call 99 (.k (.v 5) (.k (.s "d") (.k (.call 69 (.k (.v 0) (.k (.v 2) .e))) .e)))) (.k (.call 99 (.k (.v 5) (.k (.s "m") (.k (.cst zcJ) .e)))) .e))))) .e)))))⟩
def yE:Fn:=⟨4,9,AC,(.k (.asg (.n 4) (.new 21 83 (.k (.v 0) .e))) (.k (.for (.t [5,6]) (.seq (.tup (.k (.tup (.k (.s "a") (.k (.v 2) .e))) (.k (.tup (.k (.s "b") (.k (.v 3) .e))) .e)))) (.k (.for (.t [7,8]) (.enum (.call 95 (.k (.v 6) (.k (.v 0) (.k (.v 1) .e))))) (.k (.expr (.mcl 21 84 (AF "put") (.v 4) (.k (.v 5) (.k (.v 7) (.k (.v 8) .e))))) .e)) .e)) (.k (.ret (.v 4)) .e)))⟩
noncomputable def yaw:Fn:=⟨3,3,AC,(.k (.ret (.blt .tuple (.k (.comp [AD,AA 1,AA 0] (.n 0) (.range1 (.v 2)) (.cst (.bl AB)) (.mcl 21 85 (AF "word") (.v 2) (.k (.v 1) (.k (.v 0) .e)))) .e))) .e)⟩
noncomputable def zcP:Fn:=⟨1,1,AC,(.k (.ret (.newl (.k (.slc (.v 0) (.cst .non) (.i 63)) (.k (.i 0) (.k (.i 0) (.k (.cst (.bl AC)) .e)))))) .e)⟩
noncomputable def yaD:Fn:=⟨1,8,AB,(.k (.asg (.n 1) (.tup (.k (.i 2147483647) (.k (.i 2147483629) (.k (.i 2147483587) (.k (.i 2147483579) (.k (.i 2147483563) .e))))))) (.k (.asg (.n 2) (.i 0)) (.k (.for (.t [3,4]) (.enum (.v 1)) (.k (.asg (.n 5) (.bin .add (.v 0) (.idx (.tup (.k (.i 11) (.k (.i 101) (.k (.i 1009) (.k (.i 10007) (.k (.i 100003) .e)))))) (.v 3)))) (.k (.asg (.n 5) (.bin .mod (.bin .mul (.v 5) (.bin .add (.i 48271) (.bin .mul (.i 2) (.v 3)))) (.v 4))) (.k (.asg (.n 6) (.bin .mod (.bin .mul (.v 5) (.v 5)) (.v 4))) (.k (.asg (.n 7) (.bin .mod (.bin .mul (.bin .mod (.bin .mul (.v 6) (.v 6)) (.v 4)) (.v 5)) (.v 4))) (.k (.asg (.n 2) (.bin .add (.bin .mul (.v 2) (.v 4)) (.v 7))) .e)))))) (.k (.ret (.v 2)) .e))))⟩
noncomputable def yap:Fn:=⟨1,4,AC,(.k (.asg (.t [1,2]) (.tup (.k (.idx (.v 0) (.i 0)) (.k (.idx (.v 0) (.i 1)) .e)))) (.k (.asg (.n 3) (.bin .add (.bin .mul (.i 31) (.v 2)) (.i 7))) (.k (.ite (.cmp .gt (.blt .len (.k (.v 1) .e)) (.i 0)) (.k (.asg (.n 3) (.bin .mul (.i 104729) (.bin .fdiv (.v 2) (.blt .len (.k (.v 1) .e))))) (.k (.asg (.n 3) (.bin .add (.v 3) (.idx (.v 1) (.bin .mod (.v 2) (.blt .len (.k (.v 1) .e)))))) .e)) .e) (.k (.six (.v 0) (.i 1) (.bin .add (.v 2) (.i 1))) (.k (.six (.v 0) (.i 3) (.or (.cmp .ge (.v 2) (.blt .len (.k (.v 1) .e))) (.cmp .lt (.v 3) (.bin .pow (.i 10) (.i 18))))) (.k (.ite (.idx (.v 0) (.i 3)) (.k (.six (.v 0) (.i 2) (.call 101 (.k (.v 3) .e))) .e) (.k (.six (.v 0) (.i 2) (.bin .sub (.v 3) (.bin .pow (.i 10) (.i 18)))) .e)) .e))))))⟩
noncomputable def yaj:Fn:=⟨2,4,AC,(.k (.asg (.n 2) (.i 0)) (.k (.while (.and (.cmp .lt (.v 2) (.i 64)) (.or (.cmp .eq (.idx (.v 0) (.i 2)) (.i 0)) (.and (.idx (.v 0) (.i 3)) (.cmp .lt (.idx (.v 0) (.i 2)) (.bin .mul (.v 1) (.i 4096)))))) (.k (.expr (.call 102 (.k (.v 0) .e))) (.k (.aug 2 .add (.i 1)) (.k (.ite (.and (.idx (.v 0) (.i 3)) (.cmp .lt (.idx (.v 0) (.i 2)) (.bin .mul (.v 1) (.i 4096)))) (.k (.six (.v 0) (.i 2) (.bin .add (.idx (.v 0) (.i 2)) (.bin .mul (.bin .mul (.v 1) (.i 4096)) (.bin .add (.i 1) (.bin .mod (.idx (.v 0) (.i 2)) (.i 4093)))))) .e) .e) .e)))) (.k (.asg (.n 3) (.bin .mod (.idx (.v 0) (.i 2)) (.v 1))) (.k (.six (.v 0) (.i 2) (.bin .fdiv (.idx (.v 0) (.i 2)) (.v 1))) (.k (.ret (.v 3)) .e)))))⟩
noncomputable def yae:Fn:=⟨3,13,AC,(.k (.asg (.n 3) (.call 103 (.k (.v 0) (.k (.i 12) .e)))) (.k (.asg (.n 4) (.i 1)) (.k (.for (.n 5) (.range1 (.bin .mul (.v 1) (.v 2))) (.k (.asg (.n 4) (.bin .mul (.i 2) (.v 4))) .e)) (.k (.asg (.n 6) (.tup (.k (.i 0) (.k (.i 1) (.k (.bin .sub (.v 4) (.i 1)) (.k (.bin .fdiv (.v 4) (.i 2)) (.k (.bin .sub (.bin .fdiv (.v 4) (.i 2)) (.i 1)) (.k (.bin .sub (.v 4) (.i 2)) .e)))))))) (.k (.ite (.cmp .lt (.v 3) (.i 6)) (.k (.ret (.idx (.v 6) (.v 3))) .e) .e) (.k (.asg (.n 7) (.call 103 (.k (.v 0) (.k (.v 4) .e)))) (.k (.ite (.cmp .eq (.v 3) (.i 6)) (.k (.asg (.n 8) (.i 1)) (.k (.for (.n 5) (.range1 (.call 103 (.k (.v 0) (.k (.bin .mul (.v 1) (.v 2)) .e)))) (.k (.asg (.n 8) (.bin .mul (.i 2) (.v 8))) .e)) (.k (.ret (.bin .mul (.bin .fdiv (.v 7) (.v 8)) (.v 8))) .e))) .e) (.k (.ite (.cmp .eq (.v 3) (.i 7)) (.k (.asg (.n 8) (.i 1)) (.k (.for (.n 5) (.range1 (.call 103 (.k (.v 0) (.k (.bin .mul (.v 1) (.v 2)) .e)))) (.k (.asg (.n 8) (.bin .mul (.i 2) (.v 8))) .e)) (.k (.ret (.bin .sub (.v 4) (.v 8))) .e))) .e) (.k (.ite (.cmp .gt (.v 3) (.i 9)) (.k (.ret (.v 7)) .e) .e) (.k (.asg (.n 9) (.i 1)) (.k (.for (.n 5) (.range1 (.v 1)) (.k (.asg (.n 9) (.bin .mul (.i 2) (.v 9))) .e)) (.k (.asg (.n 10) (.i 0)) (.k (.for (.n 5) (.range1 (.v 2)) (.k (.asg (.n 11) (.bin .mod (.bin .fdiv (.v 7) (.bin .add (.v 5) (.i 1))) (.v 9))) (.k (.asg (.n 12) (.tup (.k (.i 0) (.k (.i 1) (.k (.bin .sub (.v 9) (.i 1)) (.k (.bin .fdiv (.v 9) (.i 2)) (.k (.v 11) .e))))))) (.k (.asg (.n 10) (.bin .add (.bin .mul (.v 10) (.v 9)) (.idx (.v 12) (.call 103 (.k (.v 0) (.k (.i 5) .e)))))) .e)))) (.k (.ret (.v 10)) .e))))))))))))))⟩
noncomputable def zcp:Fn:=⟨1,3,AB,(.k (.asg (.n 1) (.i 1)) (.k (.for (.n 2) (.range1 (.v 0)) (.k (.asg (.n 1) (.bin .mul (.i 2) (.v 1))) .e)) (.k (.ret (.v 1)) .e)))⟩
noncomputable def zcX:Fn:=⟨3,6,AB,(.k (.asg (.n 3) (.call 105 (.k (.v 1) .e))) (.k (.asg (.n 4) (.newl .e)) (.k (.for (.n 5) (.range1 (.v 2)) (.k (.expr (.mth .append (.v 4) (.k (.bin .mod (.v 0) (.v 3)) .e))) (.k (.asg (.n 0) (.bin .fdiv (.v 0) (.v 3))) .e))) (.k (.ret (.blt .tuple (.k (.v 4) .e))) .e))))⟩
noncomputable def zcY:Fn:=⟨1,1,AB,(.k (.ret (.and (.isi (.v 0) [.int]) (.not (.isi (.v 0) [.bool])))) .e)⟩
noncomputable def zb9:Fn:=⟨3,3,AB,(.k (.ite (.or (.not (.isi (.v 0) [.tuple])) (.cmp .ne (.blt .len (.k (.v 0) .e)) (.v 1))) (.k .nope .e) .e) (.k (.ret (.blt .all (.k (.comp [AD,AA 2] (.n 0) (.seq (.v 0)) (.cst (.bl AB)) (.and (.call 107 (.k (.v 0) .e)) (.chain .le .le (.bin .sub (.i 0) (.v 1)) (.v 0) (.v 1)))) .e))) .e))⟩
noncomputable def zbZ:Fn:=⟨3,3,AB,(.k (.ite (.or (.not (.isi (.v 0) [.tuple])) (.or (.cmp .ne (.blt .len (.k (.v 0) .e)) (.v 2)) (.not (.blt .all (.k (.comp [AD] (.n 0) (.seq (.v 0)) (.cst (.bl AB)) (.call 107 (.k (.v 0) .e))) .e))))) (.k .nope .e) .e) (.k (.ret (.blt .all (.k (.comp [AD,AA 1] (.n 0) (.seq (.v 0)) (.cst (.bl AB)) (.chain .le .lt (.i 0) (.v 0) (.call 105 (.k (.v 1) .e)))) .e))) .e))⟩
noncomputable def zcU:Fn:=⟨5,6,AB,(.k (.asg (.n 5) (.call 97 (.k (.v 0) (.k (.v 1) (.k (.v 2) (.k (.v 3) (.k (.v 4) .e))))))) (.k (.ite (.or (.not (.isi (.v 5) [.tuple])) (.or (.cmp .ne (.blt .len (.k (.v 5) .e)) (.i 3)) (.not (.call 108 (.k (.idx (.v 5) (.i 2)) (.k (.i 4) (.k (.i 1) .e))))))) (.k .nope .e) .e) (.k (.ret (.v 5)) .e)))⟩
noncomputable def zam:Fn:=⟨4,6,AB,(.k (.asg (.n 4) (.call 105 (.k (.v 3) .e))) (.k (.asg (.n 5) (.call 110 (.k (.tup (.k (.s "quotient") .e)) (.k (.v 0) (.k (.v 1) (.k (.v 2) (.k (.v 4) .e))))))) (.k (.ite (.cmp .ne (.idx (.v 5) (.i 0)) (.idx (.call 110 (.k (.tup (.k (.s "right") (.k (.v 3) .e))) (.k (.v 0) (.k (.v 1) (.k (.v 2) (.k (.i 0) .e)))))) (.i 0))) (.k .nope .e) .e) (.k (.ret (.cmp .eq (.idx (.v 5) (.i 1)) (.idx (.call 110 (.k (.tup (.k (.s "both") .e)) (.k (.v 0) (.k (.v 1) (.k (.v 2) (.k (.bin .sub (.v 4) (.i 1)) .e)))))) (.i 0)))) .e))))⟩
noncomputable def ya1:Fn:=⟨1,10,AB,(.k (.asg (.n 1) (.call 100 (.k (.v 0) .e))) (.k (.asg (.n 2) (.bin .add (.i 1) (.call 103 (.k (.v 1) (.k (.i 4) .e))))) (.k (.asg (.n 3) (.bin .add (.i 4) (.call 103 (.k (.v 1) (.k (.blt .min (.k (.i 13) (.k (.bin .sub (.bin .fdiv (.i 32) (.v 2)) (.i 3)) .e))) .e))))) (.k (.asg (.n 4) (.call 104 (.k (.v 1) (.k (.v 3) (.k (.v 2) .e))))) (.k (.ite (.not (.call 111 (.k (.v 3) (.k (.v 2) (.k (.v 4) (.k (.call 103 (.k (.v 1) (.k (.bin .mul (.v 3) (.v 2)) .e))) .e)))))) (.k .nope .e) .e) (.k (.asg (.n 5) (.call 103 (.k (.v 1) (.k (.bin .sub (.bin .mul (.v 3) (.v 2)) (.i 1)) .e)))) (.k (.asg (.n 6) (.call 110 (.k (.tup (.k (.s "signed quotient") .e)) (.k (.v 3) (.k (.v 2) (.k (.v 4) (.k (.call 105 (.k (.v 5) .e)) .e))))))) (.k (.asg (.n 7) (.idx (.call 110 (.k (.tup (.k (.s "down") (.k (.v 5) .e))) (.k (.v 3) (.k (.v 2) (.k (.v 4) (.k (.i 0) .e)))))) (.i 0))) (.k (.asg (.n 8) (.idx (.call 110 (.k (.tup (.k (.s "both") .e)) (.k (.v 3) (.k (.v 2) (.k (.v 4) (.k (.bin .sub (.call 105 (.k (.v 5) .e)) (.i 1)) .e)))))) (.i 0))) (.k (.ite (.not (.blt .all (.k (.comp [AD,AA 3,AA 2] (.n 0) (.seq (.tup (.k (.idx (.v 6) (.i 0)) (.k (.idx (.v 6) (.i 1)) (.k (.v 7) (.k (.v 8) .e)))))) (.cst (.bl AB)) (.call 109 (.k (.v 0) (.k (.v 1) (.k (.v 2) .e))))) .e))) (.k .nope .e) .e) (.k (.ite (.or (.cmp .eq (.call 94 (.k (.call 106 (.k (.v 4) (.k (.v 3) (.k (.v 2) .e)))) (.k (.v 3) .e))) (.i 0)) (.cmp .eq (.call 93 (.k (.v 8) (.k (.v 3) .e))) (.i 0))) (.k (.ret (.and (.cmp .eq (.idx (.v 6) (.i 0)) (.v 7)) (.cmp .eq (.idx (.v 6) (.i 1)) (.v 8)))) .e) .e) (.k (.asg (.n 9) (.idx (.call 110 (.k (.tup (.k (.s "sum") .e)) (.k (.v 3) (.k (.v 2) (.k (.call 93 (.k (.v 7) (.k (.v 3) .e))) (.k (.i 1) .e)))))) (.i 0))) (.k (.ret (.and (.cmp .eq (.idx (.v 6) (.i 0)) (.v 9)) (.and (.cmp .eq (.call 94 (.k (.idx (.v 6) (.i 1)) (.k (.v 3) .e))) (.i 1)) (.cmp .ne (.call 93 (.k (.idx (.v 6) (.i 1)) (.k (.v 3) .e))) (.i 0))))) .e)))))))))))))⟩
def Tl:List Fn:=[zkK,zdm,zk3,zgb,zf8,zkO,zcj,zbg,zdk,zbe,zcb,zbG,zaL,zdb,zfk,zcG,zbH,zdR,zch,zaB,zbM,zea,zbc,zbK,zeW,zbi,zbU,zbY,zX,zdC,zd2,zbE,za2,zb7,zaM,ze4,zc3,zcR,zb0,yaa,zbv,zae,zcg,zbJ,zaA,zcc,zbq,zfs,zcK,zd3,zV,yj,yp,zC,zH,zy,zz,zbj,zbt,zbn,zdq,zfz,zaI,zaX,zdB,zaF,zfg,zdf,z8,zap,za6,za8,zgC,zb5,zeN,zeo,zcS,zaq,zb8,zcT,zcW,zcf,zcO,zN,zay,zal,yJ,zR,zl,zT,za3,zar,zby,zeJ,zb4,zan,zah,ycu,yE,yaw,zcP,yaD,yap,yaj,yae,zcp,zcX,zcY,zb9,zbZ,zcU,zam,ya1]
def T(i:Nat):Option Fn:=Tl[i]?
noncomputable abbrev zaO:Nat:=19
noncomputable abbrev zbP:Nat:=20
noncomputable abbrev zbz:Nat:=37
noncomputable abbrev zcu:Nat:=39
noncomputable abbrev zcs:Nat:=40
noncomputable abbrev zG:Nat:=41
noncomputable abbrev ze0:Nat:=42
noncomputable abbrev zb1:Nat:=44
noncomputable abbrev zef:Nat:=46
noncomputable abbrev zav:Nat:=50
noncomputable abbrev zU:Nat:=51
noncomputable abbrev zt:Nat:=52
noncomputable abbrev zW:Nat:=53
noncomputable abbrev zaG:Nat:=54
noncomputable abbrev zP:Nat:=55
noncomputable abbrev zO:Nat:=56
noncomputable abbrev zF:Nat:=57
noncomputable abbrev zd1:Nat:=58
noncomputable abbrev zd5:Nat:=59
noncomputable abbrev zaW:Nat:=62
noncomputable abbrev zbm:Nat:=63
noncomputable abbrev zaS:Nat:=64
noncomputable abbrev zaZ:Nat:=65
noncomputable abbrev zb2:Nat:=66
noncomputable abbrev zK:Nat:=67
noncomputable abbrev zw:Nat:=68
noncomputable abbrev zbd:Nat:=69
noncomputable abbrev zhp:Nat:=72
noncomputable abbrev zdv:Nat:=73
noncomputable abbrev zfR:Nat:=74
noncomputable abbrev zfL:Nat:=75
noncomputable abbrev zeq:Nat:=76
noncomputable abbrev za5:Nat:=77
noncomputable abbrev zdi:Nat:=78
noncomputable abbrev zeB:Nat:=79
noncomputable abbrev zeH:Nat:=80
noncomputable abbrev zc9:Nat:=81
noncomputable abbrev zeF:Nat:=82
noncomputable abbrev zag:Nat:=83
noncomputable abbrev zcl:Nat:=84
noncomputable abbrev zZ:Nat:=85
noncomputable abbrev zaY:Nat:=86
noncomputable abbrev zx:Nat:=87
noncomputable abbrev zn:Nat:=88
noncomputable abbrev zak:Nat:=89
noncomputable abbrev zba:Nat:=90
noncomputable abbrev zaf:Nat:=91
noncomputable abbrev zbl:Nat:=92
noncomputable abbrev zev:Nat:=93
noncomputable abbrev zb3:Nat:=94
noncomputable abbrev zaa:Nat:=95
noncomputable abbrev zcn:Nat:=96
noncomputable abbrev zox:Nat:=97
noncomputable abbrev zaN:Nat:=98
noncomputable abbrev zaD:Nat:=99
noncomputable abbrev zey:Nat:=100
noncomputable abbrev zeK:Nat:=101
noncomputable abbrev zhm:Nat:=102
noncomputable abbrev zbR:Nat:=103
noncomputable abbrev zeM:Nat:=104
noncomputable abbrev zbh:Nat:=105
noncomputable abbrev zeC:Nat:=106
noncomputable abbrev zbr:Nat:=107
noncomputable abbrev zc5:Nat:=108
noncomputable abbrev zaQ:Nat:=109
noncomputable abbrev zI:Nat:=110
noncomputable abbrev zbD:Nat:=111
noncomputable abbrev zky:Nat:=112
end IC
namespace WK
open PySem L2 IC
noncomputable def top(i:Nat):Stmt:=Dr.main.body.getD i (.Pass ⟨0,0,0,0⟩)
def tbQ:Tb where
 tbl:=[⟨"word","word","word",top 15,["letter","c","i","j","m"],["letter","c","i","j","m"],zkK,.fd [0,0,0,0]⟩,⟨"last_word","last_word","last_word",top 16,["letter"],["letter"],zdm,.fn⟩,⟨"rows","rows","rows",top 17,["told"],["told"],zk3,.fn⟩,⟨"rounds","rounds","rounds",top 18,["count","sentence","inner"],["count","sentence","inner"],zgb,.fn⟩,⟨"lowest","lowest","lowest",top 19,["letter","c","i","j","m"],["letter","c","i","j","m"],zf8,.fd [0,0,0,0]⟩,⟨"term","term","term",top 20,["f","things","i","p","q","r"],["f","things","i","p","q","r"],zkO,.fd [0,0,0,0]⟩,⟨"moved_parts","moved","moved",top 21,["to","source","c","sentence"],["to","source","c"],zcj,.fd [0]⟩,⟨"doubled_parts","doubled","doubled",top 23,["letter","count"],["letter","count"],zbg,.fn⟩,⟨"kept_mark","kept_mark","kept_mark",top 25,["to"],["to"],zdk,.fn⟩,⟨"kept_contrary","kept_contrary","kept_contrary",top 26,["to"],["to"],zbe,.fn⟩,⟨"asked_words","asked_words","asked_words",top 29,["letter","m","count","gathered"],["letter","m","count"],zcb,.fn⟩,⟨"answer_marks","answer_marks","answer_marks",top 30,["c","m","sign"],["c","m"],zbG,.fn⟩,⟨"quotient_telling","quotient_telling","quotient_telling",top 49,[],[],zaL,.fn⟩,⟨"by_nought","by_nought","by_nought",top 50,[],[],zdb,.fn⟩,⟨"divided","divided","divided",top 51,["x","y","answer","rest","sentence","one_place"],["x","y","answer","rest"],zfk,.fn⟩,⟨"next_place","next_place","next_place",top 52,["rest"],["rest"],zcG,.fn⟩,⟨"less_divisor","less_divisor","less_divisor",top 53,["rest","y","taken","top"],["rest","y"],zbH,.fn⟩,⟨"put_back","put_back","put_back",top 54,["rest","y","added","top","begun"],["rest","y"],zdR,.fn⟩,⟨"next_figure","next_figure","next_figure",top 55,["answer"],["answer"],zch,.fn⟩,⟨"is_whole","is_whole","is_whole",top 58,["thing","low","high"],["thing","low","high"],zaB,.fn⟩,⟨"is_letter","is_letter","is_letter",top 59,["thing"],["thing"],zbM,.fn⟩,⟨"are_told","are_told","are_told",top 60,["thing","many"],["thing","many"],zea,.fn⟩,⟨"right_telling","right_telling","right_telling",top 63,["s"],["s"],zbc,.fn⟩,⟨"down_telling","down_telling","down_telling",top 64,["s"],["s"],zbK,.fn⟩,⟨"shifted","shifted","shifted",top 66,["s","ahead","by_one"],["s","ahead","by_one"],zeW,.fn⟩,⟨"halved_shifts","halved","halved",top 67,["here"],[],zbi,.fn⟩,⟨"highest_two","highest_two","highest_two",top 69,[],[],zbU,.fn⟩,⟨"left_behind","left_behind","left_behind",top 70,[],[],zbY,.fn⟩,⟨"signed_quotient_telling","signed_quotient_telling","signed_quotient_telling",top 79,["signs","begun","ended"],[],zX,.fn⟩,⟨"kept_sign","kept_sign","kept_sign",top 80,["to","letter"],["to","letter"],zdC,.fn⟩,⟨"worth_of","worth_of","worth_of",top 81,["cell"],["cell"],zd2,.fn⟩,⟨"turned_where","turned_where","turned_where",top 88,["sign","to","source","sentence"],["sign","to","source"],zbE,.fn⟩,⟨"unfit_quotient","unfit_quotient","unfit_quotient",top 89,[],[],za2,.fn⟩,⟨"sum_telling","sum_telling","sum_telling",top 91,["added","sentence","lone"],[],zb7,.fn⟩,⟨"pairwise_telling","pairwise_telling","pairwise_telling",top 95,["name","paired"],["name"],zaM,.fn⟩,⟨"carried","carried","carried",top 97,["row","sentence"],["row","sentence"],ze4,.fn⟩,⟨"lone_sign","lone_sign","lone_sign",top 98,["lone","one","other"],["lone","one","other"],zc3,.fn⟩,⟨"is_row","is_row","is_row",top 101,["thing"],["thing"],zcR,.fn⟩,⟨"is_told_row","is_told_row","is_told_row",top 102,["thing"],["thing"],zb0,.fn⟩,⟨"has_form","has_form","has_form",top 103,["thing","told","kind","operand"],["thing","told"],yaa,.fn⟩,⟨"is_named","is_named","is_named",top 104,["thing"],["thing"],zbv,.fn⟩,⟨"is_operand","is_operand","is_operand",top 105,["kind","thing","told"],["kind","thing","told"],zae,.fn⟩,⟨"is_cell","is_cell","is_cell",top 106,["thing"],["thing"],zcg,.fn⟩,⟨"is_told_cell","is_told_cell","is_told_cell",top 107,["thing"],["thing"],zbJ,.fn⟩,⟨"is_lettered","is_lettered","is_lettered",top 108,["thing"],["thing"],zaA,.fn⟩,⟨"is_sentence","is_sentence","is_sentence",top 113,["thing"],["thing"],zcc,.fn⟩,⟨"place_of","place_of","place_of",top 114,["told","n","i","j"],["told","n","i","j"],zbq,.fn⟩,⟨"is_term","is_term","is_term",top 115,["thing","f","exponent","things"],["thing"],zfs,.fn⟩,⟨"are_things","are_things","are_things",top 116,["thing"],["thing"],zcK,.fn⟩,⟨"is_thing","is_thing","is_thing",top 117,["thing"],["thing"],zd3,.fn⟩,⟨"","__init__","Unrolling.__init__",inClass (top 122) 0,["self","w","n"],["self","w","n"],zV,.ini 20⟩,⟨"","go_parts","Unrolling.go_parts",inClass (top 122) 1,["self","parts","gone","part"],["self","parts","gone"],yj,.me 20⟩,⟨"","go_rounds","Unrolling.go_rounds",inClass (top 122) 2,["self","part","gone","count","at"],["self","part","gone"],yp,.me 20⟩,⟨"","count_of","Unrolling.count_of",inClass (top 122) 3,["self","told","c","m","t"],["self","told"],zC,.me 20⟩,⟨"","add_row","Unrolling.add_row",inClass (top 122) 4,["self","told","gone","i","j","row"],["self","told","gone"],zH,.me 20⟩,⟨"","add_round","Unrolling.add_round",inClass (top 122) 5,["self"],["self"],zy,.me 20⟩,⟨"","add_asked","Unrolling.add_asked",inClass (top 122) 6,["self","sentence","gone","i","j"],["self","sentence","gone"],zz,.me 20⟩,⟨"is_telling","is_telling","is_telling",top 123,["thing"],["thing"],zbj,.fn⟩,⟨"unrolled","unrolled","unrolled",top 124,["telling","w","n"],["telling","w","n"],zbt,.fn⟩,⟨"steps_of","steps_of","steps_of",top 125,["telling","w","n","unrolling"],["telling","w","n"],zbn,.fn⟩,⟨"are_parts","are_parts","are_parts",top 126,["thing","nests"],["thing","nests"],zdq,.fn⟩,⟨"is_part","is_part","is_part",top 127,["thing","nests"],["thing","nests"],zfz,.fn⟩,⟨"both_gone","both_gone","both_gone",top 128,["gone"],["gone"],zaI,.fn⟩,⟨"placed","placed","placed",top 129,["thing","n","i","j"],["thing","n","i","j"],zaX,.fn⟩,⟨"telling","telling","telling",top 138,["deed"],["deed"],zdB,.fn⟩,⟨"deed_rows","deed_rows","deed_rows",top 139,["deed","w","n"],["deed","w","n"],zaF,.fn⟩,⟨"is_deed","is_deed","is_deed",top 140,["thing"],["thing"],zfg,.fn⟩,⟨"is_paired","is_paired","is_paired",top 141,["deed"],["deed"],zdf,.fn⟩,⟨"answer_words","answer_words","answer_words",top 142,["deed","n"],["deed","n"],z8,.fn⟩,⟨"rest_words","rest_words","rest_words",top 143,["deed","n"],["deed","n"],zap,.fn⟩,⟨"shift_telling","shift_telling","shift_telling",top 144,["name","s"],["name","s"],za6,.fn⟩,⟨"named_telling","named_telling","named_telling",top 145,["name"],["name"],za8,.fn⟩,⟨"made","made","made",top 147,["name","w","x","y","k","make"],["name","w","x","y","k"],zgC,.fn⟩,⟨"highest","highest","highest",top 148,["w"],["w"],zb5,.fn⟩,⟨"moved","moved","moved",top 149,["w","x","y","k"],["w","x","y","k"],zeN,.fn⟩,⟨"bared","bared","bared",top 151,["w","x","y","k"],["w","x","y","k"],zeo,.fn⟩,⟨"summed","summed","summed",top 152,["w","x","y","k","total"],["w","x","y","k"],zcS,.fn⟩,⟨"taken_away","taken_away","taken_away",top 153,["w","x","y","k","total"],["w","x","y","k"],zaq,.fn⟩,⟨"in_both","in_both","in_both",top 154,["w","x","y","k"],["w","x","y","k"],zb8,.fn⟩,⟨"in_any","in_any","in_any",top 155,["w","x","y","k"],["w","x","y","k"],zcT,.fn⟩,⟨"in_one","in_one","in_one",top 156,["w","x","y","k"],["w","x","y","k"],zcW,.fn⟩,⟨"doubled","doubled","doubled",top 157,["w","x","y","k"],["w","x","y","k"],zcf,.fn⟩,⟨"halved","halved","halved",top 159,["w","x","y","k"],["w","x","y","k"],zcO,.fn⟩,⟨"","__init__","Machine.__init__",inClass (top 163) 0,["self","w"],["self","w"],zN,.ini 21⟩,⟨"","put","Machine.put",inClass (top 163) 1,["self","letter","at","word","cell"],["self","letter","at","word"],zay,.me 21⟩,⟨"","word","Machine.word",inClass (top 163) 2,["self","letter","at"],["self","letter","at"],zal,.me 21⟩,⟨"","run","Machine.run",inClass (top 163) 5,["self","rows","row"],["self","rows"],yJ,.me 21⟩,⟨"","held_in","Machine.held_in",inClass (top 163) 6,["self","cell"],["self","cell"],zR,.me 21⟩,⟨"","go_row","Machine.go_row",inClass (top 163) 7,["self","row"],["self","row"],zl,.me 21⟩,⟨"","go_made","Machine.go_made",inClass (top 163) 9,["self","row","x","y","word","mark"],["self","row"],zT,.me 21⟩,⟨"known_cell","known_cell","known_cell",top 164,["letter","at"],["letter","at"],za3,.fn⟩,⟨"refuse_row","refuse_row","refuse_row",top 165,["thing"],["thing"],zar,.fn⟩,⟨"words_of","words_of","words_of",top 167,["worth","w","n"],["worth","w","n"],zby,.fn⟩,⟨"plain","plain","plain",top 168,["number","w"],["number","w"],zeJ,.fn⟩,⟨"sign_of","sign_of","sign_of",top 169,["number","w"],["number","w"],zb4,.fn⟩,⟨"lowest_words","lowest_words","lowest_words",top 170,["worth","w","n","highest"],["worth","w","n"],zan,.fn⟩,⟨"refuse_deed","refuse_deed","refuse_deed",top 172,["deed","w","n","x","y"],["deed","w","n","x","y"],zah,.fn⟩,⟨"ran","ran","ran",top 175,["deed","w","n","x","y","machine","answer"],["deed","w","n","x","y"],ycu,.fn⟩,⟨"machine_with","machine_with","machine_with",top 176,["w","n","x","y","machine","letter","worth","at","word"],["w","n","x","y"],yE,.fn⟩,⟨"number_in","number_in","number_in",top 177,["machine","letter","many"],["machine","letter","many"],yaw,.fn⟩,⟨"_law_fresh","_law_fresh","_law_fresh",top 179,["_law_script"],["_law_script"],zcP,.fn⟩,⟨"_law_mixed","_law_mixed","_law_mixed",top 180,["_law_seed","_law_primes","_law_number_here","_law_k","_law_prime","_law_far","_law_square","_law_power"],["_law_seed"],yaD,.fn⟩,⟨"_law_fill","_law_fill","_law_fill",top 181,["_law_state","_law_cells","_law_at","_law_seed"],["_law_state"],yap,.fn⟩,⟨"_law_take","_law_take","_law_take",top 182,["_law_state","_law_many","_law_turns","_law_digit"],["_law_state","_law_many"],yaj,.fn⟩,⟨"_law_worth","_law_worth","_law_worth",top 183,["_law_state","_law_w","_law_n","_law_way","_law_top","_law_k","_law_edges","_law_any_one","_law_low","_law_wide","_law_worth_here","_law_some","_law_words_here"],["_law_state","_law_w","_law_n"],yae,.fn⟩,⟨"_law_two_to","_law_two_to","_law_two_to",top 184,["_law_many","_law_found","_law_k"],["_law_many"],zcp,.fn⟩,⟨"_law_words","_law_words","_law_words",top 185,["_law_worth_here","_law_w","_law_n","_law_wide","_law_words_here","_law_k"],["_law_worth_here","_law_w","_law_n"],zcX,.fn⟩,⟨"_law_whole","_law_whole","_law_whole",top 186,["_law_thing"],["_law_thing"],zcY,.fn⟩,⟨"_law_wholes","_law_wholes","_law_wholes",top 187,["_law_thing","_law_many","_law_most"],["_law_thing","_law_many","_law_most"],zb9,.fn⟩,⟨"_law_number","_law_number","_law_number",top 188,["_law_thing","_law_w","_law_n"],["_law_thing","_law_w","_law_n"],zbZ,.fn⟩,⟨"_law_parts","_law_parts","_law_parts",top 189,["_law_deed","_law_w","_law_n","_law_x","_law_y","_law_found"],["_law_deed","_law_w","_law_n","_law_x","_law_y"],zcU,.fn⟩,⟨"_law_plain_right","_law_plain_right","_law_plain_right",top 190,["_law_w","_law_n","_law_x","_law_s","_law_top","_law_found"],["_law_w","_law_n","_law_x","_law_s"],zam,.fn⟩,⟨"law","law","law",top 191,["_law_script","_law_state","_law_n","_law_w","_law_x","_law_s","_law_found","_law_down","_law_left","_law_more"],["_law_script"],ya1,.fn⟩]
 al:=[eD "word" 0,eF "last_word" 1,eF "rows" 2,eF "rounds" 3,eD "lowest" 4,eD "term" 5,eD "moved_parts" 6,eF "doubled_parts" 7,eF "kept_mark" 8,eF "kept_contrary" 9,eF "asked_words" 10,eF "answer_marks" 11,eF "quotient_telling" 12,eF "by_nought" 13,eF "divided" 14,eF "next_place" 15,eF "less_divisor" 16,eF "put_back" 17,eF "next_figure" 18,eF "is_whole" 19,eF "is_letter" 20,eF "are_told" 21,eF "right_telling" 22,eF "down_telling" 23,eF "shifted" 24,eF "halved_shifts" 25,eF "highest_two" 26,eF "left_behind" 27,eF "signed_quotient_telling" 28,eF "kept_sign" 29,eF "worth_of" 30,eF "turned_where" 31,eF "unfit_quotient" 32,eF "sum_telling" 33,eF "pairwise_telling" 34,eF "carried" 35,eF "lone_sign" 36,eF "is_row" 37,eF "is_told_row" 38,eF "has_form" 39,eF "is_named" 40,eF "is_operand" 41,eF "is_cell" 42,eF "is_told_cell" 43,eF "is_lettered" 44,eF "is_sentence" 45,eF "place_of" 46,eF "is_term" 47,eF "are_things" 48,eF "is_thing" 49,eF "is_telling" 57,eF "unrolled" 58,eF "steps_of" 59,eF "are_parts" 60,eF "is_part" 61,eF "both_gone" 62,eF "placed" 63,eF "telling" 64,eF "deed_rows" 65,eF "is_deed" 66,eF "is_paired" 67,eF "answer_words" 68,eF "rest_words" 69,eF "shift_telling" 70,eF "named_telling" 71,eF "made" 72,eF "highest" 73,eF "moved" 74,eF "bared" 75,eF "summed" 76,eF "taken_away" 77,eF "in_both" 78,eF "in_any" 79,eF "in_one" 80,eF "doubled" 81,eF "halved" 82,eF "known_cell" 90,eF "refuse_row" 91,eF "words_of" 92,eF "plain" 93,eF "sign_of" 94,eF "lowest_words" 95,eF "refuse_deed" 96,eF "ran" 97,eF "machine_with" 98,eF "number_in" 99,eF "_law_fresh" 100,eF "_law_mixed" 101,eF "_law_fill" 102,eF "_law_take" 103,eF "_law_worth" 104,eF "_law_two_to" 105,eF "_law_words" 106,eF "_law_whole" 107,eF "_law_wholes" 108,eF "_law_number" 109,eF "_law_parts" 110,eF "_law_plain_right" 111,eF "law" 112,eF "doubled_made" 81,eF "halved_made" 82,eF "moved_made" 74,eC "BACK" zdW,eC "EACH_PLACE" zcH,eC "EACH_WORD" zB,eC "FACTOR_LIMIT" (.int (10000000000000000000000000000000000000000)),eC "FILL_signed" za0,eC "LONE" zkP,eC "MARKS_parts" zp,eC "MARKS_runs" (.int (4)),eC "MOST_NESTS" (.int (2)),eC "MOST_ROUNDS" (.int (4000)),eC "MOST_ROWS" (.int (4000)),eC "MOST_TERMS" (.int (20)),eC "MOST_THINGS" (.int (2)),eC "MOST_TOLD" (.int (200)),eC "NIL" zdw,eC "PAIRED" zeA,eC "PAIRWISE" zdP,eC "PRODUCTS" zbu,eC "QUOTIENTS" zac,eC "SEEN" zds,eC "SHIFTS" zeO,eC "SIGN_OF_BOTH" zY,eC "SIGN_X" zb6,eC "SIGN_Y" zcQ,eC "SPARE" zai,eG "ROWS" (.dct zat),eG "Machine" (.cls 21 83),eG "Unrolling" (.cls 20 50)]
 bs:=["all","bool","enumerate","int","isinstance","len","max","min","range","str","sum","tuple","zip"]
 ts:=[.bool,.int,.str,.tuple]
 fl:=[eN 20 "n",eN 20 "rounds",eN 20 "rows",eN 20 "steps",eN 20 "w",eN 21 "marked",eN 21 "w",eN 21 "words"]
 me:=[eM 20 "go_parts" 51,eM 20 "go_rounds" 52,eM 20 "count_of" 53,eM 20 "add_row" 54,eM 20 "add_round" 55,eM 20 "add_asked" 56,eM 21 "put" 84,eM 21 "word" 85,eM 21 "run" 86,eM 21 "held_in" 87,eM 21 "go_row" 88,eM 21 "go_made" 89]
 kb:=[eK 0 1 ["i"] [AA 0,AD,AA 0,AA 0],eK 0 1 ["i","m"] [AA 0,AD,AA 0,AD],eK 0 1 ["j"] [AA 0,AA 0,AD,AA 0],eK 0 1 ["m"] [AA 0,AA 0,AA 0,AD],eK 0 2 ["j","m"] [AA 0,AD,AD],eK 0 2 ["m"] [AA 0,AA 0,AD],eK 4 1 ["i"] [AA 0,AD,AA 0,AA 0],eK 4 1 ["m"] [AA 0,AA 0,AA 0,AD],eK 4 2 [] [AA 0,AA 0,AA 0],eK 4 2 ["m"] [AA 0,AA 0,AD],eK 5 2 [] [AA 0,AA 0,AA 0,AA 0],eK 5 2 ["i"] [AD,AA 0,AA 0,AA 0],eK 5 2 ["p"] [AA 0,AD,AA 0,AA 0],eK 5 2 ["r"] [AA 0,AA 0,AA 0,AD],eK 6 2 [] [AA 0]]
 cn:=[eN 21 "Machine",eN 20 "Unrolling"]
 dd:=[eB "ROWS" zat]
 ml:=[eL "MAKERS" zQ]
theorem ok_all:tbQ.tbl.all (okT tbQ)=true:=by decide +kernel
theorem T_ok:∀i d,tbQ.tbl[i]?=AA d->T i=AA d.fn:=λi d h=>by
 have e:Tl=tbQ.tbl.map (·.fn):=rfl;rw[T,e,Bt,h];rfl
theorem kb_all:yb1 (KbP tbQ) tbQ.kb:=by
 repeat' (first|exact trivial|(refine⟨kbP rfl rfl rfl rfl rfl (by decide) ?_,?_⟩;((repeat intro _);exact⟨_,rfl,rfl⟩)))
theorem cn_20:cnm tbQ 20="Unrolling":=rfl
theorem cn_21:cnm tbQ 21="Machine":=rfl
end WK
namespace IC
open PySem
def ybf(call:Cl)(t:Tg)(b:Css)(xs:List PV)(ρ:Env)(st:SO):Fl:=forL t (λρ2 st2=>exs call ρ2 st2 b) xs ρ st
def yaV(call:Cl)(c:Ce)(b:Css)(n:Nat)(ρ:Env)(st:SO):Fl:=yax (λρ2 st2=>ev call ρ2 st2 c) (λρ2 st2=>exs call ρ2 st2 b) n ρ st
def ybd(call:Cl)(ρ0:Env)(t:Tg)(c e:Ce)(x:PV)(st2:SO):R (Option PV):=match yR t x ρ0 with
 |none=>.bad
 |some ρ1=>(ev call ρ1 st2 c).bind λb st3=>onO (yaQ st3 b) λk=>cond k ((ev call ρ1 st3 e).bind λy st4=>.ok (AA y) st4) (.ok AD st3)
def yaq(call:Cl)(ρ0:Env)(t:Tg)(c e:Ce)(xs:List PV)(st:SO):R (List PV):=ya0 (ybd call ρ0 t c e) xs st
noncomputable def yaJ(f:Fl)(k:Env->SO->Fl):Fl:=
 match f with
 |.nx ρ st=>k ρ st
 |f=>f
noncomputable def nxO(o:Option Env)(st:SO):Fl:=
 match o with
 |some ρ=>.nx ρ st
 |none=>.bad
noncomputable def stO(ρ:Env)(o:Option SO):Fl:=
 match o with
 |some st=>.nx ρ st
 |none=>.bad
section
variable {call:Cl}{ρ:Env}{st:SO}
theorem x_for{t:Tg}{it:Cit}{b:Css}:ex call ρ st (.for t it b)=(evi call ρ st it).fl ρ λxs st1=>ybf call t b xs ρ st1:=rfl
theorem zmp{c:Ce}{b:Css}:ex call ρ st (.while c b)=yaV call c b 100000 ρ st:=rfl
theorem v_comp{sl:List (Option Nat)}{t:Tg}{it:Cit}{c e:Ce}:ev call ρ st (.comp sl t it c e)=(evi call ρ st it).bind λxs st1=>ycd (yaq call (sl.map λo=>o.bind λj=>(ρ[j]?).join) t c e xs st1):=rfl
theorem zM{t:Tg}{b:Css}:ybf call t b [] ρ st=.nx ρ st:=rfl
theorem zE{t:Tg}{b:Css}{x:PV}{xs:List PV}{ρ1:Env}(h:yR t x ρ=AA ρ1):ybf call t b (x::xs) ρ st=yaG (exs call ρ1 st b) λρ2 st2=>ybf call t b xs ρ2 st2:=by
 rw[ybf,forL,h];rfl
theorem zeQ{t:Tg}{b:Css}(P:Nat->Env->SO->Prop):∀(xs:List PV) (i:Nat) (ρ:Env) (st:SO),P i ρ st ->
  (∀(j:Nat) (x:PV) (ρ:Env) (st:SO),xs[j]?=AA x->P (i+j) ρ st->∃ρ1 ρ2 st2,yR t x ρ=AA ρ1/\exs call ρ1 st b=.nx ρ2 st2/\P (i+j+1) ρ2 st2) ->
  ∃ρ' st',ybf call t b xs ρ st=.nx ρ' st'/\P (i+xs.length) ρ' st'
 |[],i,ρ,st,h,_=>⟨ρ,st,zM,h⟩
 |x::xs,i,ρ,st,h,k=>by
  let⟨ρ1,ρ2,st2,e1,e2,h2⟩:=k 0 x ρ st rfl h;let⟨ρ',st',e3,h3⟩:=zeQ P xs (i+1) ρ2 st2 h2 λj y ρ st hy hp=>by
   have:=k (j+1) y ρ st (by simpa using hy) (by rw[show i+(j+1)=i+1+j by lia];exact hp);rw[show i+(j+1)+1=i+1+j+1 by lia]at this;exact this
  refine⟨ρ',st',?_,by rw[AX,show i+(xs.length+1)=i+1+xs.length by lia];exact h3⟩;rw[zE e1,e2];exact e3
theorem ziq{c:Ce}{b:Css}{n:Nat}{x:PV}{st1 st2:SO}{ρ2:Env}(h:ev call ρ st c=.ok x st1)(ht:yaQ st1 x=AA AB)(hb:exs call ρ st1 b=.nx ρ2 st2):yaV call c b (n+1) ρ st=yaV call c b n ρ2 st2:=by
 rw[yaV,yax,h];erw[R.fl,ht,onF,cond_true,hb,yaG];rfl
theorem zfC{c:Ce}{b:Css}{n:Nat}{x:PV}{st1:SO}(h:ev call ρ st c=.ok x st1)(ht:yaQ st1 x=AA AC):yaV call c b (n+1) ρ st=.nx ρ st1:=by
 rw[yaV,yax,h];erw[R.fl,ht,onF,cond_false]
theorem zbk{ρ0:Env}{t:Tg}{c e:Ce}:yaq call ρ0 t c e [] st=.ok [] st:=rfl
theorem zL{ρ0:Env}{t:Tg}{c e:Ce}{x:PV}{xs:List PV}:yaq call ρ0 t c e (x::xs) st=(ybd call ρ0 t c e x st).bind λo st1=>(yaq call ρ0 t c e xs st1).bind λys st2=>.ok (yb7 o ys) st2:=rfl
theorem zaT{ρ0:Env}{t:Tg}{c e:Ce}{f:PV->PV}:∀(xs:List PV),(∀x∈xs,ybd call ρ0 t c e x st=.ok (AA (f x)) st)->yaq call ρ0 t c e xs st=.ok (xs.map f) st
 |[],_=>zbk
 |x::xs,h=>by
  rw[zL,h x As];erw[R.bind];rw[zaT xs λy hy=>h y (AV _ hy)];rfl
theorem xs_nil:exs call ρ st .nil=.nx ρ st:=rfl
theorem xs_cons{s:Cs}{ss:Css}:exs call ρ st (.cons s ss)=yaJ (ex call ρ st s) λρ1 st1=>exs call ρ1 st1 ss:=rfl
theorem x_asg{t:Tg}{e:Ce}:ex call ρ st (.asg t e)=(ev call ρ st e).fl ρ λv st1=>nxO (yR t v ρ) st1:=rfl
theorem x_expr{e:Ce}:ex call ρ st (.expr e)=(ev call ρ st e).fl ρ λ_ st1=>.nx ρ st1:=rfl
theorem x_ret{e:Ce}:ex call ρ st (.ret e)=(ev call ρ st e).fl ρ λv st1=>.rt v st1:=rfl
theorem x_ite{c:Ce}{a b:Css}:ex call ρ st (.ite c a b)=(ev call ρ st c).fl ρ λx st1=>onF (yaQ st1 x) λk=>cond k (exs call ρ st1 a) (exs call ρ st1 b):=rfl
theorem x_six{o i e:Ce}:ex call ρ st (.six o i e)=(ev call ρ st e).fl ρ λv st1=>(ev call ρ st1 o).fl ρ λx st2=>(ev call ρ st2 i).fl ρ λy st3=>stO ρ (ybD st3 x y v):=rfl
noncomputable def yfh(o:Option Nat)(k:Nat->Fl):Fl:=match o with
 |some j=>k j
 |none=>.bad
theorem zqo{i:Nat}{D:List (AS×Nat)}{n:Ce}{es:Ces}:ex call ρ st (.mkr i D n es)=(ev call ρ st n).fl ρ λx st1=>yfh (mkV D (decide (i<ρ.length)) x) λj=>((evs call (ρ.set i AD) st1 es).bind λvs st2=>call j vs st2).fl (ρ.set i AD) λv st3=>.rt v st3:=rfl
theorem zfJ{c:Nat}{o e:Ce}{f:AS}:ex call ρ st (.sfl c o f e)=(ev call ρ st e).fl ρ λv st1=>(ev call ρ st1 o).fl ρ λx st2=>stO ρ (ybc c st2 x f v):=rfl
theorem zhT{o i e:Ce}:ex call ρ st (.dput o i e)=(ev call ρ st e).fl ρ λv st1=>(ev call ρ st1 o).fl ρ λx st2=>(ev call ρ st2 i).fl ρ λy st3=>stO ρ (ybm st3 x y v):=rfl
theorem zqg{i:Nat}{o:BOp}{e:Ce}{x:PV}(h:ρ[i]?=AA (AA x)):ex call ρ st (.aug i o e)=(ev call ρ st e).fl ρ λy st1=>nxO ((ybS o x y).map λz=>ρ.set i (AA z)) st1:=by
 rw[ex,h];show (ev call ρ st e).fl ρ _=_;refine congrArg _ (funext λy=>funext λst1=>?_)
 cases ybS o x y<;>rfl
end
theorem ve1(call:Nat->List PV->SO->R PV)(ρ:Env)(st:SO)(v:PV):
  ev call ρ st (Ce.cst v)=R.ok v st:=rfl
theorem ve2(call:Nat->List PV->SO->R PV)(ρ:Env)(st:SO)(i:Nat):
  ev call ρ st (Ce.var i) =
  match ρ[i]? with
  |some (AA v)=>R.ok v st
  |x=>R.bad:=rfl
theorem ve3(call:Nat->List PV->SO->R PV)(ρ:Env)(st:SO)(o:BOp)(a b:Ce):
  ev call ρ st (Ce.bin o a b)=R.bind (ev call ρ st a) λx st1=>R.bind (ev call ρ st1 b) λy st2=>toR (yG o x y) st2:=rfl
theorem ve4(call:Nat->List PV->SO->R PV)(ρ:Env)(st:SO)(a:Ce):
  ev call ρ st (Ce.neg a) =
  R.bind (ev call ρ st a) λx st1=>
   match x with
   |PV.int i=>R.ok (PV.int (-i)) st1
   |x=>R.bad:=rfl
theorem ve5(call:Nat->List PV->SO->R PV)(ρ:Env)(st:SO)(a:Ce):
  ev call ρ st (Ce.not a)=R.bind (ev call ρ st a) λx st1=>onBl x λk=>R.ok (PV.bl !k) st1:=rfl
theorem ve6(call:Nat->List PV->SO->R PV)(ρ:Env)(st:SO)(a b:Ce):
  ev call ρ st (Ce.and a b)=R.bind (ev call ρ st a) λx st1=>onBl x λk=>bif k then ev call ρ st1 b else R.ok (PV.bl AC) st1:=rfl
theorem ve7(call:Nat->List PV->SO->R PV)(ρ:Env)(st:SO)(a b:Ce):
  ev call ρ st (Ce.or a b)=R.bind (ev call ρ st a) λx st1=>onBl x λk=>bif k then R.ok (PV.bl AB) st1 else ev call ρ st1 b:=rfl
theorem ve8(call:Nat->List PV->SO->R PV)(ρ:Env)(st:SO)(o:COp)(a b:Ce):
  ev call ρ st (Ce.cmp o a b)=R.bind (ev call ρ st a) λx st1=>R.bind (ev call ρ st1 b) λy st2=>toR (yN o x y) st2:=rfl
theorem ve9(call:Nat->List PV->SO->R PV)(ρ:Env)(st:SO)(o p:COp)(a b c:Ce):
  ev call ρ st (Ce.chain o p a b c)=R.bind (ev call ρ st a) λx st1=>R.bind (ev call ρ st1 b) λy st2=>onO (blO (yN o x y)) λk=>bif k then R.bind (ev call ρ st2 c) λz st3=>toR (yN p y z) st3 else R.ok (PV.bl AC) st2:=rfl
theorem ve10(call:Nat->List PV->SO->R PV)(ρ:Env)(st:SO)(c a b:Ce):
  ev call ρ st (Ce.ite c a b)=R.bind (ev call ρ st c) λx st1=>onO (yaQ st1 x) λk=>bif k then ev call ρ st1 a else ev call ρ st1 b:=rfl
theorem ve11(call:Nat->List PV->SO->R PV)(ρ:Env)(st:SO)(es:Ces):
  ev call ρ st (Ce.tup es)=R.bind (evs call ρ st es) λvs st1=>if Cc vs<=sizeMax then R.ok (PV.tup vs) st1 else R.bad:=rfl
theorem ve12(call:Nat->List PV->SO->R PV)(ρ:Env)(st:SO)(es:Ces):
  ev call ρ st (Ce.lst es)=R.bind (evs call ρ st es) λvs st1=>if Cc vs<=sizeMax then R.ok (PV.lst vs) st1 else R.bad:=rfl
theorem ve13(call:Nat->List PV->SO->R PV)(ρ:Env)(st:SO)(es:Ces):
  ev call ρ st (Ce.newl es)=R.bind (evs call ρ st es) λvs st1=>if Cc vs<=sizeMax then R.ok (PV.loc (Cc st1)) (st1++[Ob.lst vs])else R.bad:=rfl
theorem ve15(call:Nat->List PV->SO->R PV)(ρ:Env)(st:SO)(t:Bool):
  ev call ρ st (Ce.dict0 t)=R.ok (PV.loc (Cc st)) (st++[Ob.dct t []]):=rfl
theorem ve16(call:Nat->List PV->SO->R PV)(ρ:Env)(st:SO)(a i:Ce):
  ev call ρ st (Ce.idx a i)=R.bind (ev call ρ st a) λx st1=>R.bind (ev call ρ st1 i) λy st2=>toR (idxV st2 x y) st2:=rfl
theorem ve17(call:Nat->List PV->SO->R PV)(ρ:Env)(st:SO)(a l h:Ce):
  ev call ρ st (Ce.slc a l h)=R.bind (ev call ρ st a) λx st1=>R.bind (ev call ρ st1 l) λy st2=>onP (ycg y) λo=>R.bind (ev call ρ st2 h) λz st3=>toR (yc3 x o z) st3:=rfl
theorem ve18(call:Nat->List PV->SO->R PV)(ρ:Env)(st:SO)(f:Nat)(es:Ces):
  ev call ρ st (Ce.call f es)=R.bind (evs call ρ st es) λvs st1=>call f vs st1:=rfl
theorem ve19(call:Nat->List PV->SO->R PV)(ρ:Env)(st:SO)(b:Blt)(es:Ces):
  ev call ρ st (Ce.blt b es)=R.bind (evs call ρ st es) λvs st1=>toR (yaA b st1 vs) st1:=rfl
theorem ve20(call:Nat->List PV->SO->R PV)(ρ:Env)(st:SO)(m:Mth)(o:Ce)(es:Ces):
  ev call ρ st (Ce.mth m o es)=R.bind (ev call ρ st o) λx st1=>onO (yaR m st1 x) λx_1=>R.bind (evs call ρ st1 es) λvs st2=>ycq m st2 x vs:=rfl
theorem ve21(call:Nat->List PV->SO->R PV)(ρ:Env)(st:SO)(a:Ce)(ts:List Ty):
  ev call ρ st (Ce.isi a ts)=R.bind (ev call ρ st a) λx st1=>toR (ya2 x ts) st1:=rfl
theorem ve24(call:Nat->List PV->SO->R PV)(ρ:Env)(st:SO):
  ev call ρ st Ce.nope=R.bad:=rfl
theorem ve25(call:Nat->List PV->SO->R PV)(ρ:Env)(st:SO)(a:Ce):
  ev call ρ st (Ce.frz a)=R.bind (ev call ρ st a) λx st1=>ydn x st1:=rfl
theorem ve28(call:Nat->List PV->SO->R PV)(ρ:Env)(st:SO)(D:List (AS×PV))(a:Ce):
  ev call ρ st (Ce.dix D a)=R.bind (ev call ρ st a) λx st1=>toR (ycS D x) st1:=rfl
theorem ve29(call:Nat->List PV->SO->R PV)(ρ:Env)(st:SO)(a:Ce)(D:List (AS×PV)):
  ev call ρ st (Ce.din a D)=R.bind (ev call ρ st a) λx st1=>toR (ycD D x) st1:=rfl
theorem ve32(call:Nat->List PV->SO->R PV)(ρ:Env)(st:SO)(c:Nat)(a:Ce)(f:AS):
  ev call ρ st (Ce.fld c a f)=R.bind (ev call ρ st a) λx st1=>toR (ybb c st1 x f) st1:=rfl
theorem ve33(call:Nat->List PV->SO->R PV)(ρ:Env)(st:SO)(c i:Nat)(es:Ces):
  ev call ρ st (Ce.new c i es)=R.bind (evs call ρ st es) λvs st1=>R.bind (ybE (call i (PV.loc (Cc st1)::vs) (st1++[Ob.ins c []]))) λv st2=>newV (Cc st1) v st2:=rfl
theorem ve37(call:Nat->List PV->SO->R PV)(ρ:Env)(st:SO)(c i:Nat)(m:AS)(o:Ce)
 (es:Ces):
  ev call ρ st (Ce.mcl c i m o es)=R.bind (ev call ρ st o) λx st1=>onO (yb9 c m st1 x) λx_1=>R.bind (evs call ρ st1 es) λvs st2=>call i (x::vs) st2:=rfl
end IC
namespace WK
open IC PySem
mutual
noncomputable def pvq:PV->PV->Bool
 |.non,.non=>AB
 |.bl a,.bl b=>a==b
 |.int i,.int j=>decide (i=j)
 |.str x,.str y=>decide (x=y)
 |.tp k xs,.tp l ys=>(k==l)&&ycO xs ys
 |.lst xs,.lst ys=>ycO xs ys
 |_,_=>AC
noncomputable def ycO:List PV->List PV->Bool
 |[],[]=>AB
 |x::xs,y::ys=>pvq x y&&ycO xs ys
 |_,_=>AC
end
mutual
theorem zln:∀(a b:PV),pvq a b=AB->a=b
 |.non,b,h=>by cases b<;>simp[pvq]at h ⊢
 |.bl a,b,h=>by cases b<;>simp[pvq]at h ⊢;exact h
 |.int a,b,h=>by cases b<;>simp[pvq]at h ⊢;exact h
 |.str a,b,h=>by cases b<;>simp[pvq]at h ⊢;exact h
 |.tp k xs,b,h=>by
  cases b<;>simp[pvq]at h ⊢
  exact⟨h.1,zfU _ _ h.2⟩
 |.lst xs,b,h=>by
  cases b<;>simp[pvq]at h ⊢
  exact zfU _ _ h
 |.loc _,b,h=>by cases b<;>simp[pvq]at h
 |.exn _,b,h=>by cases b<;>simp[pvq]at h
 |.scr _,b,h=>by cases b<;>simp[pvq]at h
theorem zfU:∀(a b:List PV),ycO a b=AB->a=b
 |[],b,h=>by cases b<;>simp[ycO]at h ⊢
 |x::xs,b,h=>by
  cases b with
  |nil=>simp[ycO]at h
  |cons y ys=>
   simp[ycO]at h;rw[zln x y h.1,zfU xs ys h.2]
end
def isOk(r:R PV)(v:PV):Bool:=match r with
 |.ok w []=>pvq w v
 |_=>AC
theorem zdt{r:R PV}{v:PV}(h:isOk r v=AB):r=.ok v []:=by
 match r with
 |.ok w []=>rw[zln w v h]
 |.ok w (_::_)=>simp[isOk]at h
 |.exc _ _=>simp[isOk]at h
 |.bad=>simp[isOk]at h
noncomputable def chS(c:Nat):Str:=⟨#[c]⟩
def yac(c:Nat)(i:Int):PV:=.tup [.str (chS c),.int i]
theorem zmG{c d:Nat}(h:chS c=chS d):c=d:=by
 have:=congrArg (λx=>x.cps) h;simpa [chS] using this
theorem zbw(c d:Nat)(i j:Int):peq (yac c i) (yac d j)=decide (c=d/\i=j):=by
 have h:(chS c==chS d)=decide (c=d):=by
  rw[Dz];simp;exact⟨zmG,λe=>by rw[e]⟩
 simp[yac,peq,ybu,h,Bool.decide_and]
 try rfl
noncomputable abbrev Mem:=Nat->Int->Int
noncomputable def upd(M:Mem)(c:Nat)(i v:Int):Mem:=λd j=>if d=c/\j=i then v else M d j
def ycW(kvs:List (PV×PV)):Prop:=∀p∈kvs,∃c i,p.1=yac c i
def Rel(kvs:List (PV×PV))(M:Mem):Prop:=∀c i,(look (yac c i) kvs).getD (.int 0)=.int (M c i)
theorem zgl(c:Nat)(i:Int)(v:PV)(d:Nat)(j:Int):∀kvs,ycW kvs->look (yac d j) (kvs.map λp=>if peq p.1 (yac c i)=AB then(p.1,v)else p)=if d=c/\j=i then(if (kvs.any λp=>peq p.1 (yac c i))=AB then AA v else AD)else look (yac d j) kvs
 |[],_=>by simp[look]
 |p::kvs,h=>by
  let⟨e,g,hp⟩:=h p As;let⟨p1,p2⟩:=p;simp only at hp;subst hp;have ih:=zgl c i v d j kvs λq hq=>h q (AV _ hq);rw[AL,Bs];erw[zbw]
  by_cases h1:e=c/\g=i
  .let⟨rfl,rfl⟩:=h1;erw[and_self,decide_true,if_true,look,zbw,GT]
   by_cases h2:e=d/\g=j
   .let⟨rfl,rfl⟩:=h2;simp
   .have h3:¬(d=e/\j=g):=λz=>h2 ⟨z.1.symm,z.2.symm⟩;erw[h2,h3,decide_false,if_false,Bo];rw[ih,if_neg h3]
  .simp only[h1,decide_false,Fq,Bo,if_false];rw[look,look];erw[zbw]
   by_cases h2:e=d/\g=j
   .let⟨rfl,rfl⟩:=h2;simp[h1]
   .simp only[h2,decide_false,Bo,if_false];exact ih
theorem zgu(c:Nat)(i:Int)(v:PV)(d:Nat)(j:Int):∀kvs,ycW kvs->(kvs.any λp=>peq p.1 (yac c i))=AC->look (yac d j) (kvs++[(yac c i,v)])=if d=c/\j=i then AA v else look (yac d j) kvs
 |[],_,_=>by
  erw[BW,look,zbw]
  by_cases h2:c=d/\i=j
  .let⟨rfl,rfl⟩:=h2;simp
  .have h3:¬(d=c/\j=i):=λz=>h2 ⟨z.1.symm,z.2.symm⟩;simp[h2,h3]
 |p::kvs,h,hn=>by
  let⟨e,g,hp⟩:=h p As;let⟨p1,p2⟩:=p;simp only at hp;subst hp;rw[Bs,Bool.or_eq_false_iff]at hn;have ih:=zgu c i v d j kvs (λq hq=>h q (AV _ hq)) hn.2;have h1:¬(e=c/\g=i):=by simpa [zbw] using hn.1
  rw[Aw,look,look];erw[zbw]
  by_cases h2:e=d/\g=j
  .let⟨rfl,rfl⟩:=h2;simp[h1]
  .simp only[h2,decide_false,Bo,if_false];exact ih
theorem zj7(c:Nat)(i:Int)(v:PV)(d:Nat)(j:Int)(kvs:List (PV×PV))(h:ycW kvs):look (yac d j) (put (yac c i) v kvs)=if d=c/\j=i then AA v else look (yac d j) kvs:=by
 unfold put;split
 .rename_i z;rw[zgl _ _ _ _ _ _ h,z,if_pos rfl]
 .rename_i z;exact zgu _ _ _ _ _ _ h (by simpa using z)
theorem zjs{c:Nat}{i:Int}{v:PV}{kvs:List (PV×PV)}(h:ycW kvs):ycW (put (yac c i) v kvs):=by
 unfold put;split
 .intro p hp;let⟨q,hq,rfl⟩:=DZ.1 hp;let⟨e,g,he⟩:=h q hq;refine⟨e,g,?_⟩;split
  .exact he
  .exact he
 .intro p hp;rcases Ax.1 hp with hp|hp
  .exact h p hp
  .simp at hp;exact⟨c,i,by rw[hp]⟩
theorem zmX{c:Nat}{i v:Int}{kvs:List (PV×PV)}{M:Mem}(h:ycW kvs)(r:Rel kvs M):Rel (put (yac c i) (.int v) kvs) (upd M c i v):=by
 intro d j;rw[zj7 _ _ _ _ _ _ h];unfold upd;split
 .rfl
 .exact r d j
theorem zmJ{k v:PV}{kvs:List (PV×PV)}:(put k v kvs).length<=kvs.length+1:=by
 unfold put;split
 .simp
 .simp
theorem zgq(c:Nat)(i:Int):isKey AB (yac c i)=true:=rfl
structure Dc(st:SO)(n:Nat)(M:Mem)(L:Nat):Prop where
 ex:∃kvs,st[n]?=AA (.dct AB kvs)/\ycW kvs/\Rel kvs M/\kvs.length<=L
theorem zkv{st:SO}{n L:Nat}{M:Mem}(h:Dc st n M L)(c:Nat)(i:Int):ydV st (.loc n) (yac c i) (.int 0)=.ok (.int (M c i)) st:=by
 let⟨kvs,h1,h2,h3,h4⟩:=h;erw[ydV,ybl,h1,zgq,if_true,h3 c i]
theorem zjO{st:SO}{n L:Nat}{M:Mem}(h:Dc st n M L)(hL:L<999999)(c:Nat)(i v:Int):∃kvs,ybm st (.loc n) (yac c i) (.int v)=AA (st.set n (.dct AB kvs))/\Dc (st.set n (.dct AB kvs)) n (upd M c i v) (L+1):=by
 let⟨kvs,h1,h2,h3,h4⟩:=h;have hn:n<st.length:=by
  rcases C3 n st.length with z|z
  .exact z
  .rw[BN z]at h1;cases h1
 refine⟨put (yac c i) (.int v) kvs,?_,⟨_,Ab hn,zjs h2,zmX h2 h3,B1 zmJ (by lia)⟩⟩;have h5:kvs.length<1000000:=by lia
 erw[ybm,h1,zgq,h5,and_self,if_true]
noncomputable abbrev Cel:=Nat×Int
def yH(x:Cel):PV:=yac x.1 x.2
inductive Rw where
 |mark (d:Int)|ask (x:Cel)|set (t:Cel) (d:Int)|move (t x:Cel)|bare (t x:Cel)|twice (t x:Cel)|half (t x:Cel)
 |sum (t x y:Cel)|less (t x y:Cel)|both (t x y:Cel)|any (t x y:Cel)|odd (t x y:Cel)
def yP:Rw->PV
 |.mark d=>.tup [.str "mark",.int d]
 |.ask x=>.tup [.str "ask",yH x]
 |.set t d=>.tup [.str "set",yH t,.int d]
 |.move t x=>.tup [.str "move",yH t,yH x]
 |.bare t x=>.tup [.str "bare",yH t,yH x]
 |.twice t x=>.tup [.str "twice",yH t,yH x]
 |.half t x=>.tup [.str "half",yH t,yH x]
 |.sum t x y=>.tup [.str "sum",yH t,yH x,yH y]
 |.less t x y=>.tup [.str "less",yH t,yH x,yH y]
 |.both t x y=>.tup [.str "both",yH t,yH x,yH y]
 |.any t x y=>.tup [.str "any",yH t,yH x,yH y]
 |.odd t x y=>.tup [.str "odd",yH t,yH x,yH y]
noncomputable def rd(M:Mem)(x:Cel):Int:=M x.1 x.2
def wr(M:Mem)(x:Cel)(v:Int):Mem:=upd M x.1 x.2 v
def stepM(W:Int)(M:Mem)(k:Int):Rw->Mem×Int
 |.mark d=>(M,d)
 |.ask x=>(M,bi (!(rd M x==0)))
 |.set t d=>(wr M t d,k)
 |.move t x=>(wr M t (rd M x),k)
 |.bare t x=>(wr M t (W-1-rd M x),k)
 |.twice t x=>(wr M t ((2*rd M x+k)%W),(2*rd M x+k)/W)
 |.half t x=>(wr M t (rd M x/2+k*(W/2)),rd M x%2)
 |.sum t x y=>(wr M t ((rd M x+rd M y+k)%W),(rd M x+rd M y+k)/W)
 |.less t x y=>(wr M t ((rd M x-rd M y-k)%W),bi (decide (rd M x-rd M y-k<0)))
 |.both t x y=>(wr M t (BH (rd M x) (rd M y)),k)
 |.any t x y=>(wr M t (Az (rd M x) (rd M y)),k)
 |.odd t x y=>(wr M t (BR (rd M x) (rd M y)),k)
def yh(W:Int):List Rw->Mem->Int->Mem×Int
 |[],M,k=>(M,k)
 |r::rs,M,k=>yh W rs (stepM W M k r).1 (stepM W M k r).2
theorem zh(W:Int):∀(a b:List Rw) (M:Mem) (k:Int),yh W (a++b) M k=yh W b (yh W a M k).1 (yh W a M k).2
 |[],b,M,k=>rfl
 |r::a,b,M,k=>by rw[Aw,yh,zh W a b,yh]
theorem zkh{st:SO}{n:Nat}{o:Ob}(h:st[n]?=AA o):st=st.set n o:=by
 refine DY λi=>?_;rw[Cm];split
 .rename_i e;subst e;split
  .exact h
  .rename_i z;rw[BN (by lia)]at h
   cases h
 .rfl
theorem zdn(i:Int):shp (.int i)=true:=rfl
section
variable {st:SO}{k:Bool}{a b c d e:PV}{r:List PV}{i j:Int}
theorem ix0:idxV st (.tp k (a::r)) (.int 0)=AA a:=by simp[idxV,yba,at?,ixI]
theorem ix1:idxV st (.tp k (a::b::r)) (.int 1)=AA b:=by
 have:(1:Int)<(r.length:Int)+1+1:=by lia
 simp[idxV,yba,at?,ixI,this]
theorem ix2:idxV st (.tp k (a::b::c::r)) (.int 2)=AA c:=by
 have:(2:Int)<(r.length:Int)+1+1+1:=by lia
 simp[idxV,yba,at?,ixI,this]
theorem ix3:idxV st (.tp k (a::b::c::d::r)) (.int 3)=AA d:=by
 have:(3:Int)<(r.length:Int)+1+1+1+1:=by lia
 simp[idxV,yba,at?,ixI,this]
theorem b_add:yG .add (.int i) (.int j)=AA (.int (i+j)):=rfl
theorem b_sub:yG .sub (.int i) (.int j)=AA (.int (i-j)):=rfl
theorem zj5(h:i.natAbs<18446744073709551616 \/ j.natAbs<18446744073709551616):yG .mul (.int i) (.int j)=AA (.int (i*j)):=by
 have:yaI i j=true:=by simpa [yaI] using h
 simp[yG,binI,this]
theorem za9(h:i.natAbs<18446744073709551616):yG .mul (.int i) (.int j)=AA (.int (i*j)):=zj5 (.inl h)
theorem zc2(h:j.natAbs<18446744073709551616):yG .mul (.int i) (.int j)=AA (.int (i*j)):=zj5 (.inr h)
theorem b_mul2:yG .mul (.int 2) (.int j)=AA (.int (2*j)):=zj5 (.inl (by decide))
theorem zim(h:0<j)(h2:j<18446744073709551616*18446744073709551616):yG .fdiv (.int i) (.int j)=AA (.int (i/j)):=by
 have h3:j<10000000000000000000000000000000000000000000000000000000000000000000000:=by lia
 simp[yG,binI,h,h3]
theorem b_div2:yG .fdiv (.int i) (.int 2)=AA (.int (i/2)):=rfl
theorem zjV(h:0<j):yG .mod (.int i) (.int j)=AA (.int (i%j)):=by simp[yG,binI,h]
theorem zp3:yG .band (.int i) (.int j)=AA (.int (BH i j)):=rfl
theorem yfw:yG .bor (.int i) (.int j)=AA (.int (Az i j)):=rfl
theorem zpR:yG .bxor (.int i) (.int j)=AA (.int (BR i j)):=rfl
theorem toR_some{v:PV}:toR (AA v) st=.ok v st:=rfl
theorem c_ne:yN .ne (.int i) (.int j)=AA (.bl (!(i==j))):=by simp[yN,zdn,peq]
theorem c_eq:yN .eq (.int i) (.int j)=AA (.bl (i==j)):=by simp[yN,zdn,peq]
theorem c_lt:yN .lt (.int i) (.int j)=AA (.bl (decide (i<j))):=rfl
theorem c_le:yN .le (.int i) (.int j)=AA (.bl (decide (i<=j))):=rfl
theorem c_gt:yN .gt (.int i) (.int j)=AA (.bl (decide (j<i))):=rfl
theorem c_ge:yN .ge (.int i) (.int j)=AA (.bl (decide (j<=i))):=rfl
theorem t_bl{b:Bool}:yaQ st (.bl b)=AA b:=rfl
theorem on_t{f:Bool->Fl}{b:Bool}:onF (AA b) f=f b:=rfl
theorem ono{α:Type}{f:Bool->R α}{b:Bool}:onO (AA b) f=f b:=rfl
theorem zax{ρ:IC.Env}:stO ρ (AA st)=.nx ρ st:=rfl
theorem nxO_some{ρ:IC.Env}:nxO (AA ρ) st=.nx ρ st:=rfl
theorem fl_ok{α:Type}{a:α}{ρ:IC.Env}{k:α->SO->Fl}:(R.ok a st).fl ρ k=k a st:=rfl
theorem bd_ok{α β:Type}{a:α}{k:α->SO->R β}:(R.ok a st).bind k=k a st:=rfl
theorem th_nx{ρ:IC.Env}{k:IC.Env->SO->Fl}:yaJ (.nx ρ st) k=k ρ st:=rfl
theorem th_rt{v:PV}{k:IC.Env->SO->Fl}:yaJ (.rt v st) k=.rt v st:=rfl
theorem fl_exc{α:Type}{c:Nat}{ρ:IC.Env}{k:α->SO->Fl}:(R.exc c st:R α).fl ρ k=.exc c ρ st:=rfl
theorem bd_exc{α β:Type}{c:Nat}{k:α->SO->R β}:(R.exc c st:R α).bind k=.exc c st:=rfl
theorem th_exc{c:Nat}{ρ:IC.Env}{k:IC.Env->SO->Fl}:yaJ (.exc c ρ st) k=.exc c ρ st:=rfl
theorem noLocs_ints:∀(l:List Int),nLs (l.map PV.int)=AB
 |[]=>rfl
 |_::l=>by simp[nLs,nL,noLocs_ints l]
theorem bT_n{i:Nat}{v:PV}{ρ:IC.Env}:yR (.n i) v ρ=AA (ρ.set i (AA v)):=rfl
end
theorem zpx:∀(n x y:Nat),x<=n->(x ^^^ y)+(x &&& y)=x ||| y
 |n,x,y,h=>by
  by_cases hx:x=0
  .subst hx;simp
  .have ih:=zpx (n-1) (x/2) (y/2) (by lia);rw[<-Nat.xor_div_two,<-Nat.and_div_two,<-Nat.or_div_two]at ih;have m1:(x ^^^ y)%2=((x%2) ^^^ (y%2)):=by
    have:=Nat.xor_mod_two_pow (a:=x) (b:=y) (n:=1);simpa using this
   have m2:(x &&& y)%2=((x%2) &&& (y%2)):=by
    have:=Fg (a:=x) (b:=y) (n:=1);simpa using this
   have m3:(x ||| y)%2=((x%2) ||| (y%2)):=by
    have:=Nat.or_mod_two_pow (a:=x) (b:=y) (n:=1);simpa using this
   rcases EZ x with a|a<;>rcases EZ y with b|b<;>rw[a,b]at m1 m2 m3<;>erw[Nat.reduceXor,Nat.reduceAnd,Nat.reduceOr]at m1 m2 m3<;>lia
theorem zdM(x y:Nat):BH (x:Int) (y:Int)=((x &&& y:Nat):Int):=by
 simp[BH]
theorem zdA(x y:Nat):Az (x:Int) (y:Int)=((x ||| y:Nat):Int):=by
 have h1:¬(0:Int)<=-(x:Int)-1:=by lia
 have h2:¬(0:Int)<=-(y:Int)-1:=by lia
 have h3:(-(-(x:Int)-1)-1).toNat=x:=by lia
 have h4:(-(-(y:Int)-1)-1).toNat=y:=by lia
 erw[Az,BH,Builtin.bitNot,h1,h2,decide_false,h3,h4];lia
theorem zhU(x y:Nat):BR (x:Int) (y:Int)=((x ^^^ y:Nat):Int):=by
 have:=zpx x x y (AT x);rw[BR,zdA,zdM];lia
theorem pw(w:Nat):((2^w:Nat):Int)=2^w:=by simp
theorem zpj{w:Nat}{a b:Int}(a0:0<=a)(b0:0<=b)(b1:b<2^w):0<=BH a b/\BH a b<2^w:=by
 obtain⟨x,rfl⟩:∃n:Nat,a=n:=⟨a.toNat,by lia⟩;obtain⟨y,rfl⟩:∃n:Nat,b=n:=⟨b.toNat,by lia⟩;rw[zdM];rw[<-pw]at b1 ⊢;exact⟨by lia,by exact_mod_cast E6 x (by lia:y<2^w)⟩
theorem zjn{w:Nat}{a b:Int}(a0:0<=a)(a1:a<2^w)(b0:0<=b)(b1:b<2^w):0<=BR a b/\BR a b<2^w:=by
 obtain⟨x,rfl⟩:∃n:Nat,a=n:=⟨a.toNat,by lia⟩;obtain⟨y,rfl⟩:∃n:Nat,b=n:=⟨b.toNat,by lia⟩;rw[zhU];rw[<-pw]at a1 b1 ⊢;exact⟨by lia,by exact_mod_cast GF (by lia:x<2^w) (by lia:y<2^w)⟩
theorem zom{w:Nat}{a b:Int}(a0:0<=a)(a1:a<2^w)(b0:0<=b)(b1:b<2^w):0<=Az a b/\Az a b<2^w:=by
 obtain⟨x,rfl⟩:∃n:Nat,a=n:=⟨a.toNat,by lia⟩;obtain⟨y,rfl⟩:∃n:Nat,b=n:=⟨b.toNat,by lia⟩;rw[zdA];rw[<-pw]at a1 b1 ⊢;exact⟨by lia,by exact_mod_cast Nat.or_lt_two_pow (by lia:x<2^w) (by lia:y<2^w)⟩
theorem zin{a b:Int}(a0:0<=a)(b0:0<=b):Az a b=0 ↔ a=0/\b=0:=by
 obtain⟨x,rfl⟩:∃n:Nat,a=n:=⟨a.toNat,by lia⟩;obtain⟨y,rfl⟩:∃n:Nat,b=n:=⟨b.toNat,by lia⟩;rw[zdA];have:=Nat.or_eq_zero_iff (n:=x) (m:=y);lia
theorem zcv{w x:Nat}(h:x<2^(w+1)):(2*(x:Int))/2^(w+1)=((x/2^w:Nat):Int)/\(x/2^w=0 \/ x/2^w=1):=by
 have hp:0<2^w:=F3 (by lia);constructor
 .rw[<-pw];have:(2*x)/2^(w+1)=x/2^w:=by
   rw[HS,Nat.mul_comm 2 x,Nat.mul_div_mul_right _ _ (by lia)]
  rw[<-this];rfl
 .have:x/2^w<2:=Nat.div_lt_of_lt_mul (by rw[HS]at h;lia);generalize x/2^w=q at this;lia
noncomputable def tb(w:Nat)(a:Int):Int:=(2*a)/2^w
theorem zpt{w:Nat}(hw:0<w){a b:Int}(a0:0<=a)(a1:a<2^w)(b0:0<=b)(b1:b<2^w):tb w (BH a b)=tb w a*tb w b:=by
 obtain⟨x,rfl⟩:∃n:Nat,a=n:=⟨a.toNat,by lia⟩;obtain⟨y,rfl⟩:∃n:Nat,b=n:=⟨b.toNat,by lia⟩;obtain⟨w,rfl⟩:∃v,w=v+1:=⟨w-1,by lia⟩;rw[<-pw]at a1 b1;have hx:=zcv (show x<2^(w+1)by lia);have hy:=zcv (show y<2^(w+1)by lia);have hz:=zcv (E6 x (show y<2^(w+1)by lia));rw[zdM,tb,tb,tb,hx.1,hy.1,hz.1,Fh];rcases hx.2 with e|e<;>rcases hy.2 with f|f<;>rw[e,f]<;>rfl
theorem zkZ{w:Nat}(hw:0<w){a b:Int}(a0:0<=a)(a1:a<2^w)(b0:0<=b)(b1:b<2^w):tb w (BR a b)=(tb w a+tb w b)%2:=by
 obtain⟨x,rfl⟩:∃n:Nat,a=n:=⟨a.toNat,by lia⟩;obtain⟨y,rfl⟩:∃n:Nat,b=n:=⟨b.toNat,by lia⟩;obtain⟨w,rfl⟩:∃v,w=v+1:=⟨w-1,by lia⟩;rw[<-pw]at a1 b1;have hx:=zcv (show x<2^(w+1)by lia);have hy:=zcv (show y<2^(w+1)by lia);have hz:=zcv (GF (show x<2^(w+1)by lia) (show y<2^(w+1)by lia));rw[zhU,tb,tb,tb,hx.1,hy.1,hz.1,Nat.xor_div_two_pow];rcases hx.2 with e|e<;>rcases hy.2 with f|f<;>rw[e,f]<;>rfl
theorem zng{w:Nat}(hw:0<w){a:Int}(a0:0<=a)(a1:a<2^w):tb w a=if 2^w<=2*a then 1 else 0:=by
 have h1:(0:Int)<2^w:=A4 (by lia);unfold tb;split
 .rename_i h;exact Int.le_antisymm (Int.le_of_lt_add_one (Bi h1 (by lia))) (FX h1 (by lia))
 .exact BJ (by lia) (by lia)
theorem zcw(ys:List PV)(h:ys.length<=1000000)(st:SO):ycd (.ok ys st)=.ok (.lst ys) st:=by simp[ycd,h]
theorem zbs(n:Nat)(h:n<1000):ybY (.int (n:Int))=AA (yu n 0 1):=by
 simp[ybY];lia
theorem zct{z:Int}(h:0<=z):∃n:Nat,z=n:=⟨z.toNat,by lia⟩
def ybz(st:SO)(f:Fl):R PV:=
 match f with
 |.rt v _=>if nL v then .ok v st else .bad
 |.nx _ _=>.ok .non st
 |.exc c _ _=>.exc c st
 |_=>.bad
theorem zc{T:Nat->Option IC.Fn}{k f:Nat}{fn:IC.Fn}{args:List PV}{st:SO}(hT:T f=AA fn)(hp:fn.pure=AB)(hl:args.length=fn.np)(hn:nLs args=AB):
  yc T (k+1) f args st=ybz st (exs (yc T k) (args.map AA++Au (fn.ns-fn.np) AD) [] fn.body):=by
 rw[yc,hT];dsimp only;rw[if_pos hl,if_pos hp,if_pos hn];rfl
def outI(f:Fl):R PV:=
 match f with
 |.rt v st1=>.ok v st1
 |.nx _ st1=>.ok .non st1
 |.exc c _ st1=>.exc c st1
 |_=>.bad
theorem zr{T:Nat->Option IC.Fn}{k f:Nat}{fn:IC.Fn}{args:List PV}{st:SO}(hT:T f=AA fn)(hp:fn.pure=AC)(hl:args.length=fn.np):
  yc T (k+1) f args st=outI (exs (yc T k) (args.map AA++Au (fn.ns-fn.np) AD) st fn.body):=by
 rw[yc,hT];dsimp only;rw[if_pos hl,hp,if_neg (by simp)];rfl
theorem zbI{st:SO}{v:PV}:outI (.rt v st)=.ok v st:=rfl
theorem zoI{st s:SO}{b:Bool}:ybz st (.rt (.bl b) s)=.ok (.bl b) st:=rfl
theorem zm1{st s:SO}{b:Int}:ybz st (.rt (.int b) s)=.ok (.int b) st:=rfl
noncomputable def yaC:PV:=.tup [.int 2147483647,.int 2147483629,.int 2147483587,.int 2147483579,.int 2147483563]
noncomputable def ydJ:Css:=match yaD.body with
 |.cons _ (.cons _ (.cons (.for _ _ b) _))=>b
 |_=>.nil
theorem zdD{c:Cl}{s num g p:Int}{i:Nat}{u5 u6 u7:Option PV}(hg:∀st,idxV st (.tup [.int 11,.int 101,.int 1009,.int 10007,.int 100003]) (.int i)=AA (.int g))(hi:i<5)(hp:0<p)(hp2:p<18446744073709551616):
  ∃num' v5 v6 v7,exs c [AA (.int s),AA yaC,AA (.int num),AA (.int i),AA (.int p),u5,u6,u7] [] ydJ=.nx [AA (.int s),AA yaC,AA (.int num'),AA (.int i),AA (.int p),v5,v6,v7] []:=by
 have h1:∀z:Int,yG .mul (.int z) (.int (48271+2*(i:Int)))=AA (.int (z*(48271+2*(i:Int)))):=λz=>zc2 (by lia);have h2:∀z y:Int,yG .mul (.int z) (.int (y%p))=AA (.int (z*(y%p))):=λz y=>zc2 (by
  have a:=Aq y (show p≠0 by lia);have b:=Ai y hp;lia)
 have h3:∀z:Int,yG .mul (.int z) (.int p)=AA (.int (z*p)):=λz=>zc2 (by lia);erw[ydJ,yaD,AX,BV,Bl,C6,if_true,xs_cons,xs_nil,x_asg,IC.ve1,IC.ve2,IC.ve3,IC.ve11,IC.ve16,evs,AU,AQ,bd_ok,fl_ok,toR_some,bT_n,nxO_some,th_nx,Ag,Ah,sizeMax,Cz,b_add,b_mul2,hg,h1,h2,h3,zjV hp];exact⟨_,_,_,_,rfl⟩
theorem zke{c:Cl}{s num:Int}{u5 u6 u7:Option PV}(i:Nat)(p:Int)(h:(i,p)∈[(0,(2147483647:Int)),(1,2147483629),(2,2147483587),(3,2147483579),(4,2147483563)]):
  ∃num' v5 v6 v7,exs c [AA (.int s),AA yaC,AA (.int num),AA (.int i),AA (.int p),u5,u6,u7] [] ydJ=.nx [AA (.int s),AA yaC,AA (.int num'),AA (.int i),AA (.int p),v5,v6,v7] []:=by
 erw[AO,Dn,A8,or_false]at h;rcases h with⟨rfl,rfl⟩|⟨rfl,rfl⟩|⟨rfl,rfl⟩|⟨rfl,rfl⟩|⟨rfl,rfl⟩
 .exact zdD (λ_=>rfl) (by decide) (by decide) (by decide)
 .exact zdD (λ_=>rfl) (by decide) (by decide) (by decide)
 .exact zdD (λ_=>rfl) (by decide) (by decide) (by decide)
 .exact zdD (λ_=>rfl) (by decide) (by decide) (by decide)
 .exact zdD (λ_=>rfl) (by decide) (by decide) (by decide)
noncomputable def ydX:List PV:=[.tup [.int 0,.int 2147483647],.tup [.int 1,.int 2147483629],.tup [.int 2,.int 2147483587],.tup [.int 3,.int 2147483579],.tup [.int 4,.int 2147483563]]
theorem mixed(k:Nat)(s:Int)(st:SO):∃num,yc T (k+1) zeK [.int s] st=.ok (.int num) st:=by
 let⟨ρ',st',h,num,a,b,c,d,e,e1,e2⟩:=zeQ (call:=yc T k) (t:=.t [3,4]) (b:=ydJ) (λ_ ρ st=>∃num a b c d e,ρ=[AA (.int s),AA yaC,AA (.int num),a,b,c,d,e]/\st=[]) ydX 0 [AA (.int s),AA yaC,AA (.int 0),AD,AD,AD,AD,AD] [] ⟨_,_,_,_,_,_,rfl,rfl⟩ (by
  rintro j x ρ st hx ⟨num,a,b,c,d,e,rfl,rfl⟩
  have hx:=A5 hx;have hx:∃i p,x=.tup [.int ((i:Nat):Int),.int p]/\(i,p)∈[(0,(2147483647:Int)),(1,2147483629),(2,2147483587),(3,2147483579),(4,2147483563)]:=by
   erw[ydX,AO,A8,or_false]at hx;rcases hx with rfl|rfl|rfl|rfl|rfl
   .exact⟨0,_,rfl,by simp⟩
   .exact⟨1,_,rfl,by simp⟩
   .exact⟨2,_,rfl,by simp⟩
   .exact⟨3,_,rfl,by simp⟩
   .exact⟨4,_,rfl,by simp⟩
  let⟨i,p,rfl,hm⟩:=hx;let⟨num',v5,v6,v7,hh⟩:=zke (c:=yc T k) (s:=s) (num:=num) (u5:=c) (u6:=d) (u7:=e) i p hm;exact⟨_,_,_,rfl,hh,_,_,_,_,_,_,rfl,rfl⟩)
 subst e1 e2;refine⟨num,?_⟩;rw[yc];have hb:yaD.body=.cons (.asg (.n 1) (.tup (.cons (.cst (.int 2147483647)) (.cons (.cst (.int 2147483629)) (.cons (.cst (.int 2147483587)) (.cons (.cst (.int 2147483579)) (.cons (.cst (.int 2147483563)) .nil))))))) (.cons (.asg (.n 2) (.cst (.int 0))) (.cons (.for (.t [3,4]) (.enum (.var 1)) ydJ) (.cons (.ret (.var 2)) .nil))):=rfl;have hT:T zeK=AA ⟨1,8,AB,yaD.body⟩:=rfl;have hp:PV.tup [.int 2147483647,.int 2147483629,.int 2147483587,.int 2147483579,.int 2147483563]=yaC:=rfl;rw[hT,hb];have h5:ev (yc T k) [AA (.int s),AD,AD,AD,AD,AD,AD,AD] [] (.tup (.cons (.cst (.int 2147483647)) (.cons (.cst (.int 2147483629)) (.cons (.cst (.int 2147483587)) (.cons (.cst (.int 2147483579)) (.cons (.cst (.int 2147483563)) .nil))))))=.ok yaC []:=by
  simp[IC.ve1,IC.ve11,evs,R.bind,sizeMax,yaC]
 have he:evi (yc T k) [AA (.int s),AA yaC,AA (.int 0),AD,AD,AD,AD,AD] [] (.enum (.var 1))=.ok ydX []:=by
  simp[evi,IC.ve2,R.bind,yaC,yL,ydX]
 erw[AX,BV,if_true,nLs,nL,Dm,AL,Ak,C7,Au,Aw,BW,xs_cons,xs_nil,x_asg,x_for,x_ret,h5,R.fl,yR,nxO,yaJ,Ag,Ah,IC.ve1,he,h,IC.ve2,AU,AQ]
set_option backward.eqns.nonrecursive true
local macro_rules | `(tactic| simp! [$xs,*])=>do
 let l<-("IC.xs_cons IC.xs_nil IC.x_asg IC.x_ite IC.x_ret IC.x_expr IC.x_for IC.x_six IC.evs IC.evi IC.ve1 IC.ve2 IC.ve3 IC.ve4 IC.ve5 IC.ve6 IC.ve7 IC.ve8 IC.ve9 IC.ve10 IC.ve11 IC.ve12 IC.ve13 IC.ve15 IC.ve16 IC.ve17 IC.ve18 IC.ve19 IC.ve20 IC.ve21 IC.ve24 IC.ve25 IC.ve28 IC.v_comp List.getElem?_cons_zero List.getElem?_cons_succ WK.bd_ok WK.fl_ok WK.bd_exc WK.fl_exc WK.toR_some IC.toL WK.bT_n WK.nxO_some WK.th_nx WK.th_rt WK.th_exc List.set_cons_zero List.set_cons_succ WK.on_t WK.t_bl WK.ono IC.onBl cond_true cond_false List.length_cons List.length_nil Nat.zero_add Nat.reduceAdd Nat.reduceSub Nat.reduceLeDiff if_true IC.nL IC.nLs WK.noLocs_ints Bool.and_self Bool.not_true Bool.not_false List.map_cons List.map_nil List.replicate List.cons_append List.nil_append List.append_nil Option.bind_none Option.bind_some Option.join_some WK.b_add WK.b_sub WK.b_mul2 WK.b_div2 WK.c_lt WK.c_le WK.c_gt WK.c_ge WK.c_eq WK.c_ne IC.PV.tup IC.sizeMax".splitOn " ").toArray.mapM λs=>`(Lean.Parser.Tactic.simpLemma| $(Lean.mkIdent s.toName):term)
 `(tactic| simp only[$l,*,$xs,*])
theorem rdS{st:SO}{n:Nat}{o x:Ob}(h:st[n]?=AA o):(st.set n x)[n]?=AA x:=by
 have:n<st.length:=by
  rcases C3 n st.length with h1|h1
  .exact h1
  .rw[BN h1]at h;cases h
 rw[Ab this]
theorem zpF(ns:List Int)(a:Int)(h:ns≠[]):∃v,yba (ns.map PV.int) (.int (a%(ns.length:Int)))=AA (.int v):=by
 have h0:0<ns.length:=Fi.2 h;have h1:=Aq a (show (ns.length:Int)≠0 by lia);have h2:=Ai a (show (0:Int)<ns.length by lia);have h3:(a%(ns.length:Int)).toNat<ns.length:=by lia
 refine⟨ns[(a%(ns.length:Int)).toNat],?_⟩;simp[yba,at?,ixI,h1,h2,h3]
noncomputable def flT:Css:=match yap.body with
 |.cons _ (.cons _ (.cons _ t))=>t
 |x=>x
noncomputable abbrev flS(l:PV)(a p:Int)(f:Bool):Ob:=.lst [l,.int a,.int p,.bl f]
theorem zpT{st:SO}{n:Nat}{l:PV}{a p v:Int}{f:Bool}(h:st[n]?=AA (flS l a p f)):ybD st (.loc n) (.int 1) (.int v)=AA (st.set n (flS l v p f)):=by erw[ybD,h];rfl
theorem zpS{st:SO}{n:Nat}{l:PV}{a p v:Int}{f:Bool}(h:st[n]?=AA (flS l a p f)):ybD st (.loc n) (.int 2) (.int v)=AA (st.set n (flS l a v f)):=by erw[ybD,h];rfl
theorem zpL{st:SO}{n:Nat}{l:PV}{a p:Int}{f g:Bool}(h:st[n]?=AA (flS l a p f)):ybD st (.loc n) (.int 3) (.bl g)=AA (st.set n (flS l a p g)):=by erw[ybD,h];rfl
theorem ygm{st:SO}{n:Nat}{l:PV}{a p:Int}{f:Bool}(h:st[n]?=AA (flS l a p f)):idxV st (.loc n) (.int 0)=AA l:=by erw[idxV,h];rfl
theorem yg9{st:SO}{n:Nat}{l:PV}{a p:Int}{f:Bool}(h:st[n]?=AA (flS l a p f)):idxV st (.loc n) (.int 1)=AA (.int a):=by erw[idxV,h];rfl
theorem ygj{st:SO}{n:Nat}{l:PV}{a p:Int}{f:Bool}(h:st[n]?=AA (flS l a p f)):idxV st (.loc n) (.int 3)=AA (.bl f):=by erw[idxV,h];rfl
theorem p18:yG .pow (.int 10) (.int 18)=AA (.int 1000000000000000000):=by ac_rfl
theorem zf5(k n:Nat){l:PV}{m a v p q:Int}{f g:Bool}{st:SO}(h:st[n]?=AA (flS l a p f))(hl:∀st,yaA .len st [l]=AA (.int m))(hg:(decide (a ≥ m) || decide (v<1000000000000000000))=g)
  (h1:g=AB->yc T (k+1) zeK [.int v] (st.set n (flS l (a+1) p AB))=.ok (.int q) (st.set n (flS l (a+1) p AB))) (h2:g=AC->q=v-1000000000000000000):
  exs (yc T (k+1)) [AA (.loc n),AA l,AA (.int a),AA (.int v)] st flT=.nx [AA (.loc n),AA l,AA (.int a),AA (.int v)] (st.set n (flS l (a+1) q g)):=by
 have s1:=zpT h (v:=a+1);have r1:=rdS h (x:=flS l (a+1) p f);have s2:=zpL r1 (g:=g);have r2:=rdS r1 (x:=flS l (a+1) p g);have s3:=zpS r2 (v:=q);have i3:=ygj r2;rw[D3]at s2 s3 i3 r2;rw[D3]at s3
 have hb:flT=(match flT with
  |.cons a (.cons (.six x y _) r)=>.cons a (.cons (.six x y (.or (.cmp .ge (.var 2) (.blt .len (.cons (.var 1) .nil))) (.cmp .lt (.var 3) (.bin .pow (.cst (.int 10)) (.cst (.int 18)))))) r)
  |x=>x):=rfl
 have hor:∀st,ev (yc T (k+1)) [AA (.loc n),AA l,AA (.int a),AA (.int v)] st (.or (.cmp .ge (.var 2) (.blt .len (.cons (.var 1) .nil))) (.cmp .lt (.var 3) (.bin .pow (.cst (.int 10)) (.cst (.int 18)))))=.ok (.bl g) st:=λst=>by
  cases c:decide (a ≥ m)
  .rw[c,Fq]at hg;simp! [hl,c,p18,hg]
  .rw[c,GT]at hg;subst hg;simp! [hl,c]
 generalize hE:(Ce.or (.cmp .ge (.var 2) (.blt .len (.cons (.var 1) .nil))) (.cmp .lt (.var 3) (.bin .pow (.cst (.int 10)) (.cst (.int 18)))))=E at *
 cases g with
 |true=>
  have h1:=h1 rfl;rw[hb];simp! [flT,yap,stO,s1,hor,s2,i3,h1,s3]
 |false=>
  have h2:=h2 rfl;subst h2;rw[hb];simp! [flT,yap,stO,s1,hor,s2,i3,p18,s3]
theorem fill(k n:Nat)(ns:List Int)(hns:ns.length<=1000)(a p:Int)(ha:0<=a)(f:Bool)(st:SO)(h:st[n]?=AA (.lst [.lst (ns.map .int),.int a,.int p,.bl f])):
  ∃p' f',yc T (k+2) zhm [.loc n] st=.ok .non (st.set n (.lst [.lst (ns.map .int),.int (a+1),.int p',.bl f'])):=by
 have hT:T zhm=AA ⟨1,4,AC,yap.body⟩:=rfl;have hl:∀st,yaA .len st [.lst (ns.map .int)]=AA (.int (ns.length:Int)):=λst=>by
  show AA (PV.int (((ns.map PV.int).length:Nat):Int))=_;simp
 have i0:=ygm h;have i1:=yg9 h;have bt:∀(a b:PV) (ρ:IC.Env),yR (.t [1,2]) (.tp AC [a,b]) ρ=AA ((ρ.set 1 (AA a)).set 2 (AA b)):=λ_ _ _=>rfl
 have hb:yap.body=(match yap.body with
  |.cons a (.cons b (.cons c _))=>.cons a (.cons b (.cons c flT))
  |x=>x):=rfl
 have m31:yG .mul (.int 31) (.int a)=AA (.int (31*a)):=za9 (by decide);obtain⟨v,hv⟩:∃v,exs (yc T (k+1)) [AA (.loc n),AD,AD,AD] st yap.body=exs (yc T (k+1)) [AA (.loc n),AA (.lst (ns.map .int)),AA (.int a),AA (.int v)] st flT:=by
  by_cases hn:ns=[]
  .have c0:decide ((ns.length:Int) > 0)=false:=by subst hn;rfl
   refine⟨31*a+7,?_⟩;rw[hb];generalize flT=F at *;generalize ns.map PV.int=L at *;simp! [yap,i0,i1,bt,m31,hl,c0]
  .have h0:0<ns.length:=Fi.2 hn;let⟨v,hv⟩:=zpF ns a hn;have c0:decide ((ns.length:Int) > 0)=true:=decide_eq_true (by lia);have d1:=zim (i:=a) (j:=(ns.length:Int)) (by lia) (by lia);have d2:=zjV (i:=a) (j:=(ns.length:Int)) (by lia);have m1:yG .mul (.int 104729) (.int (a/(ns.length:Int)))=AA (.int (104729*(a/(ns.length:Int)))):=za9 (by decide);have ix:∀st,idxV st (.lst (ns.map .int)) (.int (a%(ns.length:Int)))=AA (.int v):=λ_=>hv;refine⟨104729*(a/(ns.length:Int))+v,?_⟩;rw[hb];generalize flT=F at *;generalize ns.map PV.int=L at *;simp! [yap,i0,i1,bt,m31,hl,c0,d1,d2,m1,ix]
 cases c:(decide (a ≥ (ns.length:Int)) || decide (v<1000000000000000000))with
 |true=>
  let⟨q,hq⟩:=mixed k v (st.set n (flS (.lst (ns.map .int)) (a+1) p AB));refine⟨q,AB,?_⟩;rw[zr hT rfl rfl];have e:=zf5 k n h hl c (λ_=>hq) (λh=>nomatch h);rw[<-hv]at e;exact(congrArg _ e).trans rfl
 |false=>
  refine⟨v-1000000000000000000,AC,?_⟩;rw[zr hT rfl rfl];have e:=zf5 k n h hl c (λh=>nomatch h) (λ_=>rfl);rw[<-hv]at e;exact(congrArg _ e).trans rfl
noncomputable abbrev cM:Nat:=21
noncomputable abbrev sw:Str:=AF "w"
noncomputable abbrev sws:Str:=AF "words"
noncomputable abbrev smk:Str:=AF "marked"
def mob(w:Int)(L:Nat)(mk:Int):Ob:=.ins cM [(sw,.int w),(sws,.loc L),(smk,.int mk)]
structure MM(st:SO)(m l:Nat)(w:Int)(M:Mem)(mk:Int)(L:Nat):Prop where
 o:st[m]?=AA (mob w l mk)
 d:Dc st l M L
 ne:m≠l
theorem yf9{w mk:Int}{L:Nat}:([(sw,PV.int w),(sws,.loc L),(smk,.int mk)]:List (AS×PV)).lookup sw=AA (.int w):=by ac_rfl
theorem yfB{w mk:Int}{L:Nat}:([(sw,PV.int w),(sws,.loc L),(smk,.int mk)]:List (AS×PV)).lookup sws=AA (.loc L):=by ac_rfl
theorem yfK{w mk:Int}{L:Nat}:([(sw,PV.int w),(sws,.loc L),(smk,.int mk)]:List (AS×PV)).lookup smk=AA (.int mk):=by ac_rfl
section
variable {st:SO}{m l L:Nat}{w mk:Int}{M:Mem}
theorem MM.fw(h:MM st m l w M mk L):ybb cM st (.loc m) sw=AA (.int w):=by erw[ybb,h.o,mob,if_true];exact yf9
theorem MM.fd(h:MM st m l w M mk L):ybb cM st (.loc m) sws=AA (.loc l):=by erw[ybb,h.o,mob,if_true];exact yfB
theorem MM.fm(h:MM st m l w M mk L):ybb cM st (.loc m) smk=AA (.int mk):=by erw[ybb,h.o,mob,if_true];exact yfK
theorem MM.ins(h:MM st m l w M mk L)(n:AS)(hm:(([(sw,PV.non),(sws,.non),(smk,.non)]:List (AS×PV)).lookup n).isNone=true:=by decide +kernel):yb9 cM n st (.loc m)=AA true:=by
 have e:([(sw,PV.int w),(sws,.loc l),(smk,.int mk)]:List (AS×PV)).lookup n=none:=by
  erw[Bz]at hm ⊢
  cases h1:n==sw with
  |true=>rw[h1]at hm;cases hm
  |false=>
   rw[h1]at hm
   cases h2:n==sws with
   |true=>rw[h2]at hm;cases hm
   |false=>
    rw[h2]at hm
    cases h3:n==smk with
    |true=>rw[h3]at hm;cases hm
    |false=>rfl
 erw[yb9,h.o,mob];rw[if_pos ⟨trivial,e⟩]
theorem znZ{v:Int}:ybT smk (.int v) [(sw,PV.int w),(sws,.loc L),(smk,.int mk)]=[(sw,.int w),(sws,.loc L),(smk,.int v)]:=by ac_rfl
theorem Dc.set_ne{n:Nat}(h:Dc st l M L)(hn:n≠l)(o:Ob):Dc (st.set n o) l M L:=by
 let⟨kvs,h1,h2⟩:=h.ex;exact⟨kvs,by rw[AR hn];exact h1,h2⟩
theorem Dc.le{L':Nat}(h:Dc st l M L)(hL:L<=L'):Dc st l M L':=by
 let⟨kvs,h1,h2,h3,h4⟩:=h.ex;exact⟨kvs,h1,h2,h3,B1 h4 hL⟩
theorem MM.sm(h:MM st m l w M mk L)(v:Int):ybc cM st (.loc m) smk (.int v)=AA (st.set m (mob w l v))/\MM (st.set m (mob w l v)) m l w M v L:=by
 refine⟨?_,⟨rdS h.o,h.d.set_ne h.ne _,h.ne⟩⟩;erw[ybc,h.o,mob];rw[if_pos ⟨trivial,by simp⟩,znZ]
theorem MM.sd(h:MM st m l w M mk L)(hL:L<999999)(c:Cel)(v:Int):∃st',ybm st (.loc l) (yH c) (.int v)=AA st'/\(∃o,st'=st.set l o)/\MM st' m l w (wr M c v) mk (L+1):=by
 let⟨kvs,e,d⟩:=zjO h.d hL c.1 c.2 v;exact⟨_,e,⟨_,rfl⟩,by rw[AR (BP h.ne)];exact h.o,d,h.ne⟩
theorem zeD(k:Nat)(h:MM st m l w M mk L)(c:Cel):yc T (k+1) zx [.loc m,yH c] st=.ok (.int (rd M c)) st:=by
 have hT:T zx=AA zR:=rfl;have g:ycq .get st (.loc l) [yH c,.int 0]=.ok (.int (rd M c)) st:=zkv h.d c.1 c.2;have o:yaR .get st (.loc l)=AA true:=by
  let⟨kvs,h1,_⟩:=h.d.ex;simp[yaR,ybl,h1]
 rw[zr hT rfl rfl];generalize yH c=q at *;simp! [zR,h.fd,o,g,zbI,IC.ve32]
end
theorem highest(k n:Nat)(hn:n<=100)(s:SO):yc T (k+1) zdv [.int n] s=.ok (.int (2^n-1)) s:=by
 have hT:T zdv=AA zb5:=rfl;have hs:yG .shl (.int 1) (.int (n:Int))=AA (.int (2^n)):=by
  erw[yG,binI];rw[if_pos ⟨by lia,by lia,by decide⟩];simp
 rw[zc hT rfl rfl rfl];simp! [zb5,zm1,hs]
theorem zaE{st s:SO}{a b:Int}:ybz st (.rt (.tp AC [.int a,.int b]) s)=.ok (.tp AC [.int a,.int b]) st:=rfl
section
variable {x y m:Int}{n:Nat}(hn:n<=100)(hn1:1<=n)(k:Nat)(st:SO)
theorem zoF:yG .shr (.int x) (.int (n:Int))=AA (.int (x/2^n)):=by
 erw[yG,binI];rw[if_pos (by lia)];simp
theorem band(a b:Int):yG .band (.int a) (.int b)=AA (.int (BH a b)):=rfl
theorem zgo(a:Int):BH a (2^n-1)=a%2^n:=PySem.W.kbt_mask a n
include hn
theorem zlT:yc T (k+1) zfR [.int n,.int x,.int y,.int m] st=.ok (.tp AC [.int x,.int m]) st:=by
 have hT:T zfR=AA zeN:=rfl;rw[zc hT rfl rfl rfl];simp! [zeN,zaE]
theorem zm6:yc T (k+2) zfL [.int n,.int x,.int y,.int m] st=.ok (.tp AC [.int (2^n-1-x),.int m]) st:=by
 have hT:T zfL=AA zeo:=rfl;have e:=highest k n hn;rw[zc hT rfl rfl rfl];simp! [zeo,zaE,e]
theorem zf1:yc T (k+2) zeq [.int n,.int x,.int y,.int m] st=.ok (.tp AC [.int ((x+y+m)%2^n),.int ((x+y+m)/2^n)]) st:=by
 have hT:T zeq=AA zcS:=rfl;have e:=highest k n hn;rw[zc hT rfl rfl rfl];simp! [zcS,zaE,e,band,zoF,zgo]
theorem zmL:yc T (k+2) za5 [.int n,.int x,.int y,.int m] st=.ok (.tp AC [.int ((x-y-m)%2^n),.int (if x-y-m<0 then 1 else 0)]) st:=by
 have hT:T za5=AA zaq:=rfl;have e:=highest k n hn;rw[zc hT rfl rfl rfl]
 by_cases c:x-y-m<0
 .have hc:yN .lt (.int (x-y-m)) (.int 0)=AA (.bl AB):=by simp[yN,ybN,c]
  rw[if_pos c];have hd:decide (x-y-m<0)=true:=decide_eq_true c;simp! [zaq,zaE,e,band,zgo,hd]
 .rw[if_neg c];have hd:decide (x-y-m<0)=false:=decide_eq_false c;simp! [zaq,zaE,e,band,zgo,hd]
theorem zpb:yc T (k+1) zdi [.int n,.int x,.int y,.int m] st=.ok (.tp AC [.int (BH x y),.int m]) st:=by
 have hT:T zdi=AA zb8:=rfl;rw[zc hT rfl rfl rfl];simp! [zb8,zaE,zp3]
theorem zqc:yc T (k+1) zeB [.int n,.int x,.int y,.int m] st=.ok (.tp AC [.int (Az x y),.int m]) st:=by
 have hT:T zeB=AA zcT:=rfl;rw[zc hT rfl rfl rfl];simp! [zcT,zaE,yfw]
theorem zqp:yc T (k+1) zeH [.int n,.int x,.int y,.int m] st=.ok (.tp AC [.int (BR x y),.int m]) st:=by
 have hT:T zeH=AA zcW:=rfl;rw[zc hT rfl rfl rfl];simp! [zcW,zaE,zpR]
theorem zh7:yc T (k+3) zc9 [.int n,.int x,.int y,.int m] st=.ok (.tp AC [.int ((x+x+m)%2^n),.int ((x+x+m)/2^n)]) st:=by
 have hT:T zc9=AA zcf:=rfl;have e:=zf1 (x:=x) (y:=x) (m:=m) hn k;rw[zc hT rfl rfl rfl];simp! [zcf,zaE,e]
include hn1
theorem zlP(x0:0<=x)(x1:x<2^n)(m0:0<=m)(m1:m<2):Az (x/2) (m*2^(n-1))=x/2+m*(2^n/2):=by
 obtain⟨n',rfl⟩:∃n',n=n'+1:=⟨n-1,by lia⟩;let⟨a,rfl⟩:=zct x0;let⟨b,rfl⟩:=zct m0;have e1:((a:Int)/2)=((a/2:Nat):Int):=by lia
 have e2:((b:Int)*2^(n'+1-1))=((2^n' * b:Nat):Int):=by
  rw[show n'+1-1=n' from rfl,Ae];simp
 have hp:(2:Int)^(n'+1)=2*2^n':=by rw[Ac,Ae]
 have ha:a/2<2^n':=by
  have:(a:Int)<2*2^n':=by rw[<-hp];exact x1
  have h3:((2^n':Nat):Int)=2^n':=by simp
  lia
 rw[e1,e2,zdA,Nat.or_comm,<-Nat.two_pow_add_eq_or_of_lt ha,hp,Int.mul_ediv_cancel_left _ (by decide)];have h3:((2^n' * b:Nat):Int)=b*2^n':=by rw[Ae];simp
 rw[Int.natCast_add,h3,Cy]
theorem zjJ(x0:0<=x)(x1:x<2^n)(m0:0<=m)(m1:m<2):yc T (k+1) zeF [.int n,.int x,.int y,.int m] st=.ok (.tp AC [.int (x/2+m*(2^n/2)),.int (x%2)]) st:=by
 have hT:T zeF=AA zcO:=rfl;have h1:yG .shr (.int x) (.int 1)=AA (.int (x/2)):=by
  have:=zoF (x:=x) (n:=1);simpa using this
 have h2:yG .shl (.int m) (.int ((n:Int)-1))=AA (.int (m*2^(n-1))):=by
  erw[yG,binI];rw[if_pos ⟨by lia,by lia,by lia⟩]
  congr 3
  congr 1
  lia
 have h3:BH x 1=x%2:=HU x;rw[zc hT rfl rfl rfl];simp! [zcO,zaE,h1,h2,yfw,zlP hn hn1 x0 x1 m0 m1,band,h3]
end
theorem zkt{j:Nat}{k:Nat->Fl}:yfh (AA j) k=k j:=rfl
theorem made{s:AS}{j:Nat}(hj:mkV zQ AB (.str s)=AA j)(k:Nat)(st:SO){n x y m a b:Int}(e:yc T k j [.int n,.int x,.int y,.int m] []=.ok (.tp AC [.int a,.int b]) []):
  yc T (k+1) zhp [.str s,.int n,.int x,.int y,.int m] st=.ok (.tp AC [.int a,.int b]) st:=by
 have hT:T zhp=AA zgC:=rfl;have hd:decide (5<6)=true:=rfl;rw[zc hT rfl rfl rfl];erw[zgC,AL,Ak,C7,Au,Aw,BW,xs_cons,zqo,IC.ve2,AU,fl_ok];simp! [hd,hj,zkt,e,zaE]
theorem zjU:mkV zQ AB (.str "move")=AA zfR/\mkV zQ AB (.str "bare")=AA zfL/\mkV zQ AB (.str "sum")=AA zeq/\mkV zQ AB (.str "less")=AA za5/\mkV zQ AB (.str "both")=AA zdi /\
  mkV zQ AB (.str "any")=AA zeB/\mkV zQ AB (.str "odd")=AA zeH/\mkV zQ AB (.str "twice")=AA zc9/\mkV zQ AB (.str "half")=AA zeF:=by
 refine⟨?_,?_,?_,?_,?_,?_,?_,?_,?_⟩<;>decide +kernel
theorem ygW{i j:Nat}{k:Bool}{a b:PV}{ρ:IC.Env}:yR (.t [i,j]) (.tp k [a,b]) ρ=AA ((ρ.set i (AA a)).set j (AA b)):=rfl
theorem yei{call:Cl}{ρ:IC.Env}{st:SO}:ev call ρ st (.neg (.cst (.int 1)))=.ok (.int (-1)) st:=by erw[ev,R.bind]
def okM(r:R PV)(st:SO)(m l:Nat)(w:Int)(M':Mem)(mk':Int)(L':Nat):Prop:=∃st',MM st' m l w M' mk' L'/\(∀n,n≠m->n≠l->st'[n]?=st[n]?)/\st'.length=st.length/\r=.ok .non st'
section
variable {st:SO}{m l L n:Nat}{mk:Int}{M:Mem}
theorem zaU(k:Nat)(h:MM st m l n M mk L)(hL:L<999999){s:AS}{j:Nat}(hj:mkV zQ AB (.str s)=AA j){t x z:Cel}{r:List PV}
  (hlast:∀st,idxV st (.tp AC (.str s::yH t::yH x::r)) (.int (-1))=AA (yH z)) {v m':Int} (e:yc T (k+3) j [.int n,.int (rd M x),.int (rd M z),.int mk] []=.ok (.tp AC [.int v,.int m']) []):
  okM (yc T (k+5) zak [.loc m,.tp AC (.str s::yH t::yH x::r)] st) st m l n (wr M t v) m' (L+1):=by
 have hT:T zak=AA zT:=rfl;have e1:yc T (k+4) zx [.loc m,yH x] st=.ok (.int (rd M x)) st:=zeD (k+3) h x;have e2:yc T (k+4) zx [.loc m,yH z] st=.ok (.int (rd M z)) st:=zeD (k+3) h z;have e3:yc T (k+4) zhp [.str s,.int n,.int (rd M x),.int (rd M z),.int mk] st=_:=made hj (k+3) st e;have ih:=h.ins (AF "held_in");let⟨s1,d1,⟨o,ho⟩,h1⟩:=h.sd hL t v;let⟨d2,h2⟩:=h1.sm m';refine⟨_,h2,λq a b=>?_,by simp[ho],?_⟩
 .rw[AR (BP a),ho,AR (BP b)]
 rw[zr hT rfl rfl];generalize yH t=ct at *;generalize yH x=cx at *;generalize yH z=cz at *;simp! [zT,ih,ix0,ix1,ix2,e1,yei,hlast,e2,ygW,h.fw,h.fm,e3,h.fd,zhT,d1,zax,zfJ,d2,DL,IC.ve32,IC.ve37];rfl
end
section
variable {st:SO}{m l L n:Nat}{mk:Int}{M:Mem}
theorem zck(k:Nat){s:AS}{r:List PV}{M':Mem}{mk':Int}{L':Nat}(h:MM st m l n M mk L)(q1:yN .eq (.str s) (.str "mark")=AA (.bl AC))(q2:yN .eq (.str s) (.str "ask")=AA (.bl AC))(q3:yN .eq (.str s) (.str "set")=AA (.bl AC))(q4:yN .eq (.str s) (.str "times")=AA (.bl AC))
  (g:okM (yc T (k+5) zak [.loc m,.tp AC (.str s::r)] st) st m l n M' mk' L'):okM (yc T (k+6) zn [.loc m,.tp AC (.str s::r)] st) st m l n M' mk' L':=by
 have hT:T zn=AA zl:=rfl;let⟨st',g1,g2,g3,e⟩:=g;refine⟨st',g1,g2,g3,?_⟩;have ih:=h.ins (AF "go_made");rw[zr hT rfl rfl];simp! [zl,ix0,q1,q2,q3,q4,ih,e,IC.ve37];rfl
theorem MM.le{L':Nat}{w:Int}(h:MM st m l w M mk L)(hL:L<=L'):MM st m l w M mk L':=⟨h.o,h.d.le hL,h.ne⟩
theorem zmD(k:Nat)(h:MM st m l n M mk L)(d:Int):okM (yc T (k+6) zn [.loc m,yP (.mark d)] st) st m l n M d (L+1):=by
 have hT:T zn=AA zl:=rfl;let⟨d2,h2⟩:=h.sm d;refine⟨_,h2.le (by lia),λq a b=>by rw[AR (BP a)],by simp,?_⟩;have q:yN .eq (.str "mark") (.str "mark")=AA (.bl AB):=by ac_rfl
 rw[zr hT rfl rfl];simp! [zl,yP,ix0,ix1,q,zfJ,d2,zax];rfl
theorem zoj(k:Nat)(h:MM st m l n M mk L)(x:Cel):okM (yc T (k+6) zn [.loc m,yP (.ask x)] st) st m l n M (bi (!(rd M x==0))) (L+1):=by
 have hT:T zn=AA zl:=rfl;let⟨d2,h2⟩:=h.sm (bi (!(rd M x==0)));refine⟨_,h2.le (by lia),λq a b=>by rw[AR (BP a)],by simp,?_⟩;have q:yN .eq (.str "ask") (.str "mark")=AA (.bl AC):=by ac_rfl
 have q2:yN .eq (.str "ask") (.str "ask")=AA (.bl AB):=by ac_rfl
 have e1:yc T (k+5) zx [.loc m,yH x] st=.ok (.int (rd M x)) st:=zeD (k+4) h x;have ih:=h.ins (AF "held_in");rw[zr hT rfl rfl];erw[yP];generalize yH x=cx at *
 cases e:(rd M x==0)with
 |true=>
  rw[e]at d2;have d2:ybc cM st (.loc m) smk (.int 0)=_:=d2;simp! [zl,ix0,ix1,q,q2,ih,e1,e,zfJ,d2,zax,IC.ve37];rfl
 |false=>
  rw[e]at d2;have d2:ybc cM st (.loc m) smk (.int 1)=_:=d2;simp! [zl,ix0,ix1,q,q2,ih,e1,e,zfJ,d2,zax,IC.ve37];rfl
theorem zoH(k:Nat)(h:MM st m l n M mk L)(hL:L<999999)(t:Cel)(d:Int):okM (yc T (k+6) zn [.loc m,yP (.set t d)] st) st m l n (wr M t d) mk (L+1):=by
 have hT:T zn=AA zl:=rfl;let⟨s1,d1,⟨o,ho⟩,h1⟩:=h.sd hL t d;refine⟨_,h1,λq a b=>by rw[ho,AR (BP b)],by simp[ho],?_⟩;have q:yN .eq (.str "set") (.str "mark")=AA (.bl AC):=by ac_rfl
 have q2:yN .eq (.str "set") (.str "ask")=AA (.bl AC):=by ac_rfl
 have q3:yN .eq (.str "set") (.str "set")=AA (.bl AB):=by ac_rfl
 rw[zr hT rfl rfl];erw[yP];generalize yH t=ct at *;simp! [zl,ix0,ix1,ix2,q,q2,q3,h.fd,zhT,d1,zax,IC.ve32];rfl
theorem yco{s a b:PV}:∀st,idxV st (.tp AC [s,a,b]) (.int (-1))=AA b:=λst=>rfl
theorem yb4{s a b c:PV}:∀st,idxV st (.tp AC [s,a,b,c]) (.int (-1))=AA c:=λst=>rfl
theorem zm9(a:Int):(if a<0 then(1:Int)else 0)=bi (decide (a<0)):=by
 by_cases h:a<0<;>simp[h,bi]
theorem zpp(k:Nat)(h:MM st m l n M mk L)(hL:L<999999)(hn:n<=100)(hn1:1<=n)(r:Rw)(hh:∀t x,r=.half t x->0<=rd M x/\rd M x<2^n/\0<=mk/\mk<2):
  okM (yc T (k+6) zn [.loc m,yP r] st) st m l n (stepM (2^n) M mk r).1 (stepM (2^n) M mk r).2 (L+1):=by
 let⟨j1,j2,j3,j4,j5,j6,j7,j8,j9⟩:=zjU
 cases r with
 |mark d=>exact zmD k h d
 |ask x=>exact zoj k h x
 |set t d=>exact zoH k h hL t d
 |move t x=>exact zck k h (by ac_rfl) (by ac_rfl) (by ac_rfl) (by ac_rfl) (zaU k h hL j1 yco (zlT hn (k+2) []))
 |bare t x=>exact zck k h (by ac_rfl) (by ac_rfl) (by ac_rfl) (by ac_rfl) (zaU k h hL j2 yco (zm6 hn (k+1) []))
 |twice t x=>
  have e:=zh7 (x:=rd M x) (y:=rd M x) (m:=mk) hn k [];rw[show rd M x+rd M x+mk=2*rd M x+mk by lia]at e;exact zck k h (by ac_rfl) (by ac_rfl) (by ac_rfl) (by ac_rfl) (zaU k h hL j8 yco e)
 |half t x=>
  let⟨a,b,c,d⟩:=hh t x rfl;exact zck k h (by ac_rfl) (by ac_rfl) (by ac_rfl) (by ac_rfl) (zaU k h hL j9 yco (zjJ hn hn1 (k+2) [] a b c d))
 |sum t x y=>exact zck k h (by ac_rfl) (by ac_rfl) (by ac_rfl) (by ac_rfl) (zaU k h hL j3 yb4 (zf1 hn (k+1) []))
 |less t x y=>
  have e:=zmL (x:=rd M x) (y:=rd M y) (m:=mk) hn (k+1) [];rw[zm9]at e;exact zck k h (by ac_rfl) (by ac_rfl) (by ac_rfl) (by ac_rfl) (zaU k h hL j4 yb4 e)
 |both t x y=>exact zck k h (by ac_rfl) (by ac_rfl) (by ac_rfl) (by ac_rfl) (zaU k h hL j5 yb4 (zpb hn (k+2) []))
 |any t x y=>exact zck k h (by ac_rfl) (by ac_rfl) (by ac_rfl) (by ac_rfl) (zaU k h hL j6 yb4 (zqc hn (k+2) []))
 |odd t x y=>exact zck k h (by ac_rfl) (by ac_rfl) (by ac_rfl) (by ac_rfl) (zaU k h hL j7 yb4 (zqp hn (k+2) []))
end
noncomputable abbrev cZ:Cel:=(122,0)
noncomputable abbrev cS:Cel:=(115,0)
noncomputable abbrev cT:Cel:=(116,0)
noncomputable def yC(f:Int->Rw):Nat->List Rw
 |0=>[]
 |n+1=>yC f n++[f n]
def yK(n:Nat)(f:Cel->Cel->Cel->Rw):List Rw:=yC (λi=>f (99,i) (97,i) (98,i)) n
def yo(n:Nat):List Rw:=[.set cS 0]++yC (λi=>Rw.any cS cS (99,i)) n++[.ask cS,.set (109,2) 1,.less (109,2) (109,2) cZ,.twice cT (99,(n:Int)-1),.sum (109,3) cZ cZ]
def yak(a b c:Cel):List Rw:=[.odd cT a b,.odd cS a c,.both cT cT cS,.twice cT cT,.sum (109,1) cZ cZ]
def yaf(n:Nat):List Rw:=[.mark 0]++yK n .sum++[.sum (109,0) cZ cZ]++yak (99,(n:Int)-1) (97,(n:Int)-1) (98,(n:Int)-1)++yo n
def yZ(f:Cel->Cel->Cel->Rw)(n:Nat):List Rw:=yK n f++yo n
noncomputable def ye(W:Int):Nat->Int->List Int
 |0,_=>[]
 |n+1,x=>x%W::ye W n (x/W)
theorem zS(W:Int):∀n x,(ye W n x).length=n
 |0,_=>rfl
 |n+1,x=>by rw[ye,AX,zS]
def yaK(c:Nat):Nat->List Int->Mem->Mem
 |_,[],M=>M
 |i,v::vs,M=>yaK c (i+1) vs (upd M c i v)
noncomputable def M0:Mem:=λ_ _=>0
def yS(W:Int)(n:Nat)(x y:Int):Mem:=yaK 98 0 (ye W n y) (yaK 97 0 (ye W n x) M0)
noncomputable def yt(W:Int)(M:Mem)(c:Nat):Nat->Int
 |0=>0
 |n+1=>yt W M c n+M c n*W^n
structure Cx where
 l:Nat
 c:Int
 i:Int
 j:Int
 m:Int
deriving DecidableEq
inductive Op where
 |fig (d:Int)|cel (x:Cx)
deriving DecidableEq
structure Rs where
 nm:AS
 ops:List Op
deriving DecidableEq
inductive T2 where
 |row (r:Rs)|rounds (c m t:Int) (rs:List Rs)
deriving DecidableEq
inductive T1 where
 |row (r:Rs)|rounds (c m t:Int) (ps:List T2)
deriving DecidableEq
noncomputable def Cx.at(x:Cx)(I J n:Int):Int:=x.c+x.i*I+x.j*J+x.m*n
def Op.pv(I J n:Int):Op->PV
 |.fig d=>.int d
 |.cel x=>yac x.l (x.at I J n)
def Rs.pv(r:Rs)(I J n:Int):PV:=.tup (.str r.nm::r.ops.map (Op.pv I J n))
noncomputable def cnt(c m t w n:Int):Nat:=(c+m*n+t*w*n).toNat
noncomputable def upTo{α:Type}(f:Nat->List α):Nat->List α
 |0=>[]
 |n+1=>upTo f n++f n
def T2.rows(w n:Int)(I:Nat):T2->List PV
 |.row r=>[r.pv I 0 n]
 |.rounds c m t rs=>upTo (λJ=>rs.map λr=>r.pv I J n) (cnt c m t w n)
def T2.rnd(w n:Int):T2->Nat
 |.row _=>0
 |.rounds c m t _=>cnt c m t w n
def yam(w n:Int)(I:Nat)(ps:List T2):List PV:=ps.flatMap (T2.rows w n I)
def ybn(w n:Int)(ps:List T2):Nat:=(ps.map (T2.rnd w n)).sum
def T1.rows(w n:Int):T1->List PV
 |.row r=>[r.pv 0 0 n]
 |.rounds c m t ps=>upTo (λI=>yam w n I ps) (cnt c m t w n)
def T1.rnd(w n:Int):T1->Nat
 |.row _=>0
 |.rounds c m t ps=>cnt c m t w n*(1+ybn w n ps)
def yI(w n:Int)(ps:List T1):List PV:=ps.flatMap (T1.rows w n)
def yaS(w n:Int)(ps:List T1):Nat:=(ps.map (T1.rnd w n)).sum
noncomputable def sm(i:Int):Bool:=decide (i.natAbs<=200)
def ydU:PV->Option Op
 |.int d=>AA (.fig d)
 |.tp _ [.str s,.tp _ [.int c,.int i,.int j,.int m]]=>if s=chS (s.cps.getD 0 0)/\(sm c&&sm i&&sm j&&sm m)=AB then AA (.cel ⟨s.cps.getD 0 0,c,i,j,m⟩)else AD
 |_=>AD
def ybA:List PV->Option (List Op)
 |[]=>AA []
 |v::vs=>match ydU v,ybA vs with
  |some a,AA b=>AA (a::b)
  |_,_=>AD
def rowOf:PV->Option Rs
 |.tp _ (.str nm::vs)=>match ybA vs with
  |some ops=>if vs.length<100 then AA ⟨nm,ops⟩else AD
  |none=>AD
 |_=>AD
noncomputable def ydF(s:AS):Bool:=decide (s=AF "row")
def ycf:PV->Option Rs
 |.tp _ [.str s,v]=>if ydF s then rowOf v else AD
 |_=>AD
def deepOf:List PV->Option (List Rs)
 |[]=>AA []
 |v::vs=>match ycf v,deepOf vs with
  |some a,AA b=>AA (a::b)
  |_,_=>AD
noncomputable def ycr(s:AS):Bool:=decide (s=AF "rounds")
def part2(v:PV):Option T2:=
 match v with
 |.tp _ [.str s,.tp _ [.int c,.int m,.int t],_,.tp _ vs]=>if ycr s&&(sm c&&sm m&&sm t)then(deepOf vs).map (.rounds c m t)else AD
 |v=>(ycf v).map .row
def yaZ:List PV->Option (List T2)
 |[]=>AA []
 |v::vs=>match part2 v,yaZ vs with
  |some a,AA b=>AA (a::b)
  |_,_=>AD
def part1(v:PV):Option T1:=
 match v with
 |.tp _ [.str s,.tp _ [.int c,.int m,.int t],_,.tp _ vs]=>if ycr s&&(sm c&&sm m&&sm t)then(yaZ vs).map (.rounds c m t)else AD
 |v=>(ycf v).map .row
def yaL:List PV->Option (List T1)
 |[]=>AA []
 |v::vs=>match part1 v,yaL vs with
  |some a,AA b=>AA (a::b)
  |_,_=>AD
theorem zm4{v:PV}{o:Op}(h:ydU v=AA o):(∃d,o=.fig d/\v=.int d) \/ ∃a b x,o=.cel x/\v=.tp a [.str (chS x.l),.tp b [.int x.c,.int x.i,.int x.j,.int x.m]]/\x.i.natAbs<=200/\x.j.natAbs<=200/\x.m.natAbs<=200:=by
 unfold ydU at h;split at h
 .left;cases h;exact⟨_,rfl,rfl⟩
 .right;rename_i a s b c i j m;split at h
  .rename_i q
   cases h
   have q2:=q.2;erw[sm,AK,decide_eq_true_eq]at q2;refine⟨a,b,_,rfl,?_,q2.1.1.2,q2.1.2,q2.2⟩;simp only;rw[<-q.1]
  .cases h
 .cases h
theorem zkr{v:PV}{r:Rs}(h:rowOf v=AA r):∃a vs,v=.tp a (.str r.nm::vs)/\ybA vs=AA r.ops/\vs.length<100:=by
 unfold rowOf at h;split at h
 .rename_i a nm vs;split at h
  .rename_i ops q;split at h
   .rename_i z
    cases h;exact⟨a,vs,rfl,q,z⟩
   .cases h
  .cases h
 .cases h
theorem zmy{v:PV}{r:Rs}(h:ycf v=AA r):∃a v1,v=.tp a [.str "row",v1]/\rowOf v1=AA r:=by
 unfold ycf at h;split at h
 .rename_i a s v1;split at h
  .rename_i q;have q:s=AF "row":=by simpa [ydF] using q
   exact⟨a,v1,by rw[q],h⟩
  .cases h
 .cases h
theorem zjZ{v:PV}{p:T2}(h:part2 v=AA p):(∃r,p=.row r/\ycf v=AA r) \/ ∃a b sn d vs c m t rs,p=.rounds c m t rs/\v=.tp a [.str "rounds",.tp b [.int c,.int m,.int t],sn,.tp d vs]/\deepOf vs=AA rs/\c.natAbs<=200/\m.natAbs<=200/\t.natAbs<=200:=by
 unfold part2 at h;split at h
 .right;rename_i a s b c m t sn d vs;split at h
  .rename_i q;erw[ycr,sm,AK,decide_eq_true_eq]at q
   cases e:deepOf vs with
   |none=>rw[e]at h;cases h
   |some rs=>
    rw[e]at h
    cases h
    exact⟨a,b,sn,d,vs,c,m,t,rs,rfl,by rw[q.1],e,q.2.1.1,q.2.1.2,q.2.2⟩
  .cases h
 .left
  cases e:ycf v with
  |none=>rw[e]at h;cases h
  |some r=>rw[e]at h;cases h;exact⟨r,rfl,rfl⟩
theorem zkc{v:PV}{p:T1}(h:part1 v=AA p):(∃r,p=.row r/\ycf v=AA r) \/ ∃a b sn d vs c m t ps,p=.rounds c m t ps/\v=.tp a [.str "rounds",.tp b [.int c,.int m,.int t],sn,.tp d vs]/\yaZ vs=AA ps/\c.natAbs<=200/\m.natAbs<=200/\t.natAbs<=200:=by
 unfold part1 at h;split at h
 .right;rename_i a s b c m t sn d vs;split at h
  .rename_i q;erw[ycr,sm,AK,decide_eq_true_eq]at q
   cases e:yaZ vs with
   |none=>rw[e]at h;cases h
   |some rs=>
    rw[e]at h
    cases h
    exact⟨a,b,sn,d,vs,c,m,t,rs,rfl,by rw[q.1],e,q.2.1.1,q.2.1.2,q.2.2⟩
  .cases h
 .left
  cases e:ycf v with
  |none=>rw[e]at h;cases h
  |some r=>rw[e]at h;cases h;exact⟨r,rfl,rfl⟩
noncomputable abbrev cU:Nat:=20
noncomputable abbrev sn:Str:=AF "n"
noncomputable abbrev sst:Str:=AF "steps"
noncomputable abbrev srw:Str:=AF "rows"
noncomputable abbrev srd:Str:=AF "rounds"
abbrev ufs(w n:Int)(l:Nat)(r q:Int):List (AS×PV):=[(sw,.int w),(sn,.int n),(sst,.loc l),(srw,.int r),(srd,.int q)]
def uob(w n:Int)(l:Nat)(r q:Int):Ob:=.ins cU (ufs w n l r q)
structure UM(st:SO)(u l:Nat)(w n r q:Int)(xs:List PV):Prop where
 o:st[u]?=AA (uob w n l r q)
 d:st[l]?=AA (.lst xs)
 ne:u≠l
section
variable {st:SO}{u l:Nat}{w n r q:Int}{xs:List PV}
theorem UM.fw(h:UM st u l w n r q xs):ybb cU st (.loc u) sw=AA (.int w):=by erw[ybb,h.o,uob,if_true];ac_rfl
theorem UM.fn(h:UM st u l w n r q xs):ybb cU st (.loc u) sn=AA (.int n):=by erw[ybb,h.o,uob,if_true];ac_rfl
theorem UM.fs(h:UM st u l w n r q xs):ybb cU st (.loc u) sst=AA (.loc l):=by erw[ybb,h.o,uob,if_true];ac_rfl
theorem UM.fr(h:UM st u l w n r q xs):ybb cU st (.loc u) srw=AA (.int r):=by erw[ybb,h.o,uob,if_true];ac_rfl
theorem UM.fq(h:UM st u l w n r q xs):ybb cU st (.loc u) srd=AA (.int q):=by erw[ybb,h.o,uob,if_true];ac_rfl
theorem UM.sr(h:UM st u l w n r q xs)(v:Int):ybc cU st (.loc u) srw (.int v)=AA (st.set u (uob w n l v q))/\UM (st.set u (uob w n l v q)) u l w n v q xs:=by
 refine⟨?_,rdS h.o,by rw[AR h.ne];exact h.d,h.ne⟩;erw[ybc,h.o,uob];rw[if_pos ⟨trivial,by simp⟩,show ybT srw (.int v) (ufs w n l r q)=ufs w n l v q by ac_rfl]
theorem UM.sq(h:UM st u l w n r q xs)(v:Int):ybc cU st (.loc u) srd (.int v)=AA (st.set u (uob w n l r v))/\UM (st.set u (uob w n l r v)) u l w n r v xs:=by
 refine⟨?_,rdS h.o,by rw[AR h.ne];exact h.d,h.ne⟩;erw[ybc,h.o,uob];rw[if_pos ⟨trivial,by simp⟩,show ybT srd (.int v) (ufs w n l r q)=ufs w n l r v by ac_rfl]
theorem UM.ap(h:UM st u l w n r q xs)(hx:xs.length<1000000)(v:PV):ycq .append st (.loc l) [v]=.ok .non (st.set l (.lst (xs++[v])))/\UM (st.set l (.lst (xs++[v]))) u l w n r q (xs++[v]):=by
 refine⟨?_,by rw[AR (BP h.ne)];exact h.o,rdS h.d,h.ne⟩;unfold ycq;erw[yd3,h.d];rw[if_pos hx]
theorem UM.ok(h:UM st u l w n r q xs):yaR .append st (.loc l)=AA true:=by simp[yaR,yah,h.d]
theorem UM.ins(h:UM st u l w n r q xs)(x:AS)(hx:((ufs 0 0 0 0 0).lookup x).isNone=true:=by decide +kernel):yb9 cU x st (.loc u)=AA true:=by
 have e:(ufs w n l r q).lookup x=none:=by
  erw[ufs,Bz]at hx ⊢
  cases h1:x==sw<;>rw[h1]at hx<;>simp only at hx ⊢<;>try cases hx
  cases h2:x==sn<;>rw[h2]at hx<;>simp only at hx ⊢<;>try cases hx
  cases h3:x==sst<;>rw[h3]at hx<;>simp only at hx ⊢<;>try cases hx
  cases h4:x==srw<;>rw[h4]at hx<;>simp only at hx ⊢<;>try cases hx
  cases h5:x==srd<;>rw[h5]at hx<;>simp only at hx ⊢<;>try cases hx
 erw[yb9,h.o,uob];rw[if_pos ⟨trivial,e⟩]
theorem zhI(k:Nat)(h:UM st u l w n r q xs)(hq:q+1<=4000):∃s,yc T (k+1) zP [.loc u] st=.ok .non s/\UM s u l w n r (q+1) xs:=by
 have hT:T zP=AA zy:=rfl;let⟨d,h2⟩:=h.sq (q+1);have c:decide (q+1 > 4000)=false:=decide_eq_false (by lia);have vM:zbV=.int 4000:=rfl;refine⟨_,?_,h2⟩;rw[zr hT rfl rfl];have f1:=h.fq;have f2:=h2.fq;simp! [zy,f1,zfJ,d,zax,f2,vM,c,IC.ve32,zbI];rfl
theorem zfr(k:Nat):∀(G:List Int),G.length<=2->∀s:SO,yc T (k+1) zaW [.tp AC (G.map .int)] s=.ok (.tp AC [.int (G.headD 0),.int (G.tail.headD 0)]) s
 |[],_,s=>by
  have hT:T zaW=AA zaI:=rfl;rw[zc hT rfl rfl rfl];rfl
 |[a],_,s=>by
  have hT:T zaW=AA zaI:=rfl;rw[zc hT rfl rfl rfl];rfl
 |[a,b],_,s=>by
  have hT:T zaW=AA zaI:=rfl;rw[zc hT rfl rfl rfl];rfl
theorem ziM(k:Nat)(h:UM st u l w n r q xs)(hx:xs.length<1000000)(sen:PV)(G:List Int)(hG:G.length<=2):∃s,yc T (k+2) zO [.loc u,sen,.tp AC (G.map .int)] st=.ok .non s/\UM s u l w n r q (xs++[.tp AC [.str "asked",sen,.int (G.headD 0),.int (G.tail.headD 0)]]):=by
 have hT:T zO=AA zz:=rfl;have e1:=zfr k G hG st;let⟨a,h2⟩:=h.ap hx (.tp AC [.str "asked",sen,.int (G.headD 0),.int (G.tail.headD 0)]);have bt:∀(i j:Nat) (a b:PV) (ρ:IC.Env),yR (.t [i,j]) (.tp AC [a,b]) ρ=AA ((ρ.set i (AA a)).set j (AA b)):=λ_ _ _ _ _=>rfl;refine⟨_,?_,h2⟩;rw[zr hT rfl rfl];have f1:=h.fs;have o:=h.ok;generalize PV.tp AC (G.map .int)=gv at *;simp! [zz,e1,bt,f1,o,a,IC.ve32,zbI];rfl
theorem zju(k:Nat)(h:UM st u l w n r q xs)(bb:Bool)(c m t:Int)(b1:yG .mul (.int m) (.int n)=AA (.int (m*n)))(b2:yG .mul (.int t) (.int w)=AA (.int (t*w)))(b3:yG .mul (.int (t*w)) (.int n)=AA (.int (t*w*n))):
  yc T (k+1) zW [.loc u,.tp bb [.int c,.int m,.int t]] st=.ok (.int (c+m*n+t*w*n)) st:=by
 have hT:T zW=AA zC:=rfl;have bt:∀(i j k:Nat) (a b c:PV) (ρ:IC.Env),yR (.t [i,j,k]) (.tp bb [a,b,c]) ρ=AA (((ρ.set i (AA a)).set j (AA b)).set k (AA c)):=λ_ _ _ _ _ _ _=>rfl;rw[zr hT rfl rfl];have f1:=h.fw;have f2:=h.fn;simp! [zC,bt,f1,f2,b1,b2,b3,IC.ve32,zbI]
theorem zjN(k:Nat){b:Bool}{c i j m I J n:Int}(hi:i.natAbs<=200)(hj:j.natAbs<=200)(hm:m.natAbs<=200)(s:SO):yc T (k+1) zef [.tp b [.int c,.int i,.int j,.int m],.int n,.int I,.int J] s=.ok (.int (c+i*I+j*J+m*n)) s:=by
 have hT:T zef=AA zbq:=rfl;have h1:i.natAbs<18446744073709551616:=by lia
 have h2:j.natAbs<18446744073709551616:=by lia
 have h3:m.natAbs<18446744073709551616:=by lia
 have j2:∀st,idxV st (.tp b [.int c,.int i,.int j,.int m]) (.int 2)=AA (.int j):=λ_=>rfl;have j3:∀st,idxV st (.tp b [.int c,.int i,.int j,.int m]) (.int 3)=AA (.int m):=λ_=>rfl;rw[zc hT rfl rfl rfl];simp! [zbq,ix0,ix1,j2,j3,za9 h1,za9 h2,za9 h3];rfl
theorem placed(k:Nat){v:PV}{o:Op}(h:ydU v=AA o)(I J n:Int)(s:SO):yc T (k+2) zbm [v,.int n,.int I,.int J] s=.ok (o.pv I J n) s:=by
 have hT:T zbm=AA zaX:=rfl;rcases zm4 h with⟨d,rfl,rfl⟩|⟨f1,f2,x,rfl,rfl,q1,q2,q3⟩
 .rw[zc hT rfl rfl rfl];have hi:ya2 (.int d) [.tuple]=AA (.bl AC):=rfl;simp! [zaX,hi];rfl
 .have hi:ya2 (.tp f1 [.str (chS x.l),.tp f2 [.int x.c,.int x.i,.int x.j,.int x.m]]) [.tuple]=AA (.bl AB):=rfl;have e:=λs=>zjN k (b:=f2) (c:=x.c) (I:=I) (J:=J) (n:=n) q1 q2 q3 s;rw[zc hT rfl rfl rfl];simp! [zaX,hi,ix0,ix1,e];rfl
theorem zg9(k:Nat)(x:AS)(I J n:Int)(s:SO):yc T (k+2) zbm [.str x,.int n,.int I,.int J] s=.ok (.str x) s:=by
 have hT:T zbm=AA zaX:=rfl;rw[zc hT rfl rfl rfl];have hi:ya2 (.str x) [.tuple]=AA (.bl AC):=rfl;simp! [zaX,hi];rfl
def arC:Ce:=.call zbm (.cons (.var 0) (.cons (.fld cU (.var 3) sn) (.cons (.var 1) (.cons (.var 2) .nil))))
theorem zf3(k:Nat)(h:UM st u l w n r q xs)(I J:Int):∀(vs:List PV) (ops:List Op),ybA vs=AA ops->yaq (yc T (k+2)) [AD,AA (.int I),AA (.int J),AA (.loc u)] (.n 0) (.cst (.bl AB)) arC vs st=.ok (ops.map (Op.pv I J n)) st
 |[],ops,e=>by cases e;exact zbk
 |v::vs,ops,e=>by
  unfold ybA at e;split at e
  .rename_i a b ha hb
   cases e
   have hp:=placed k ha I J n st;have f1:=h.fn;have ih:=zf3 k h I J vs b hb;have one:ybd (yc T (k+2)) [AD,AA (.int I),AA (.int J),AA (.loc u)] (.n 0) (.cst (.bl AB)) arC v st=.ok (AA (a.pv I J n)) st:=by
    simp! [ybd,arC,f1,hp,IC.ve32]
   rw[zL,one,bd_ok,ih,bd_ok];rfl
  .cases e
theorem ziH:∀{vs:List PV} {ops:List Op},ybA vs=AA ops->ops.length=vs.length
 |[],ops,e=>by cases e;rfl
 |v::vs,ops,e=>by
  unfold ybA at e;split at e
  .rename_i a b ha hb
   cases e
   rw[AX,AX,ziH hb]
  .cases e
theorem zlD(k:Nat)(h:UM st u l w n r q xs)(hx:xs.length<1000000)(hr:r+1<=4000){v:PV}{rs:Rs}(hv:rowOf v=AA rs)(G:List Int)(hG:G.length<=2)
  (hrow:∀s,yc T (k+2) zbz [rs.pv (G.headD 0) (G.tail.headD 0) n] s=.ok (.bl AB) s):
  ∃s,yc T (k+3) zaG [.loc u,v,.tp AC (G.map .int)] st=.ok .non s/\UM s u l w n (r+1) q (xs++[.tp AC [.str "row",rs.pv (G.headD 0) (G.tail.headD 0) n]]):=by
 have hT:T zaG=AA zH:=rfl;let⟨a,vs,rfl,ho,hl⟩:=zkr hv;have e1:=zfr (k+1) G hG st;generalize G.headD 0=I at *;generalize G.tail.headD 0=J at *;have hl2:=ziH ho;have e2:yaq (yc T (k+2)) [AD,AA (.int I),AA (.int J),AA (.loc u)] (.n 0) (.cst (.bl AB)) arC (.str rs.nm::vs) st=.ok (.str rs.nm::rs.ops.map (Op.pv I J n)) st:=by
  have hp:=zg9 k rs.nm I J n st;have f1:=h.fn;have one:ybd (yc T (k+2)) [AD,AA (.int I),AA (.int J),AA (.loc u)] (.n 0) (.cst (.bl AB)) arC (.str rs.nm) st=.ok (AA (.str rs.nm)) st:=by
   simp! [ybd,arC,f1,hp,IC.ve32]
  rw[zL,one,bd_ok,zf3 k h I J vs rs.ops ho,bd_ok];rfl
 have e2:yaq (yc T (k+2)) [AD,AA (.int I),AA (.int J),AA (.loc u)] (.n 0) (.cst (.bl AB)) (.call zbm (.cons (.var 0) (.cons (.fld cU (.var 3) sn) (.cons (.var 1) (.cons (.var 2) .nil))))) (.str rs.nm::vs) st=_:=e2;let⟨d,h2⟩:=h.sr (r+1);have ht:∀st,yaA .tuple st [.lst (.str rs.nm::rs.ops.map (Op.pv I J n))]=AA (rs.pv I J n):=λ_=>rfl;let⟨b,h3⟩:=h2.ap hx (.tp AC [.str "row",rs.pv I J n]);have bt:∀(i j:Nat) (a b:PV) (ρ:IC.Env),yR (.t [i,j]) (.tp AC [a,b]) ρ=AA ((ρ.set i (AA a)).set j (AA b)):=λ_ _ _ _ _=>rfl;have c:decide (r+1 > 4000)=false:=decide_eq_false (by lia);have vM:zdz=.int 4000:=rfl;have f1:=h.fr;have f2:=h2.fr;have f3:=h2.fs;have o:=h2.ok;have lr:=λst=>zcw (.str rs.nm::rs.ops.map (Op.pv I J n)) (by simp[hl2];lia) st;refine⟨_,?_,h3⟩;rw[zr hT rfl rfl];generalize PV.tp AC (G.map .int)=gv at *;generalize PV.str rs.nm::rs.ops.map (Op.pv I J n)=row at *;generalize rs.pv I J n=rowv at *;simp! [zH,e1,bt,e2,lr,ht,f1,zfJ,d,zax,hrow,f2,vM,c,f3,o,b,IC.ve32,zbI];rfl
end
inductive StR:List PV->List PV->Prop
 |nil:StR [] []
 |row {xs rs v}:nL v=AB->StR xs rs->StR (xs++[.tp AC [.str "row",v]]) (rs++[v])
 |ask {xs rs a b c}:nLs [a,b,c]=AB->StR xs rs->StR (xs++[.tp AC [.str "asked",a,b,c]]) rs
def US(st:SO)(u l:Nat)(w n:Int)(R:List PV)(q:Int)(a:Nat):Prop:=∃xs,UM st u l w n R.length q xs/\StR xs R/\xs.length<=R.length+a
section
variable {st:SO}{u l:Nat}{w n q:Int}{R:List PV}{a:Nat}
noncomputable def gpB:Css:=match yj.body with
 |.cons (.for _ _ b) _=>b
 |x=>x
theorem zdT:yN .eq (.str "row") (.str "row")=AA (.bl AB):=by ac_rfl
theorem zhc:yN .eq (.str "rounds") (.str "row")=AA (.bl AC):=by ac_rfl
theorem zjG(I J n:Int)(o:Op):nL (o.pv I J n)=true:=by cases o<;>rfl
theorem ze3(I J n:Int):∀ops:List Op,nLs (ops.map (Op.pv I J n))=AB
 |[]=>rfl
 |o::os=>by rw[AL,nLs,zjG,ze3 I J n os];rfl
theorem zci(r:Rs)(I J n:Int):nL (r.pv I J n)=true:=by
 show nLs (PV.str r.nm::r.ops.map (Op.pv I J n))=AB;rw[nLs,ze3];rfl
theorem zi3(k:Nat)(H:US st u l w n R q a)(hR:R.length+1<=4000)(ha:a<=500000){v:PV}{r:Rs}(hv:ycf v=AA r)(G:List Int)(hG:G.length<=2)
  (hrow:∀s,yc T (k+2) zbz [r.pv (G.headD 0) (G.tail.headD 0) n] s=.ok (.bl AB) s) (p1:Option PV):
  ∃s,exs (yc T (k+3)) [AA (.loc u),p1,AA (.tp AC (G.map .int)),AA v] st gpB=.nx [AA (.loc u),p1,AA (.tp AC (G.map .int)),AA v] s/\US s u l w n (R++[r.pv (G.headD 0) (G.tail.headD 0) n]) q a:=by
 let⟨xs,h,hs,hx⟩:=H;let⟨b,v1,rfl,h1⟩:=zmy hv;let⟨s,e,h2⟩:=zlD k h (by lia) (by lia) h1 G hG hrow;have ih:=h.ins (AF "add_row");refine⟨s,?_,_,?_,.row (zci _ _ _ _) hs,by simp;lia⟩
 .generalize PV.tp AC (G.map .int)=gv at *;simp! [gpB,yj,ix0,ix1,zdT,ih,e,IC.ve37]
 .rw[Af,D5];exact h2
theorem ziP(k:Nat)(I J:Int)(p1:Option PV)(ha:a<=500000):∀(vs:List PV) (rs:List Rs) (st:SO) (R:List PV) (p3:Option PV),deepOf vs=AA rs->US st u l w n R q a->R.length+rs.length<=4000 ->
  (∀r∈rs,∀s,yc T (k+2) zbz [r.pv I J n] s=.ok (.bl AB) s) ->
  ∃s p3',ybf (yc T (k+3)) (.n 3) gpB vs [AA (.loc u),p1,AA (.tp AC [.int I,.int J]),p3] st=.nx [AA (.loc u),p1,AA (.tp AC [.int I,.int J]),p3'] s/\US s u l w n (R++rs.map λr=>r.pv I J n) q a
 |[],rs,st,R,p3,hd,H,_,_=>by
  cases hd
  exact⟨st,p3,zM,by simpa using H⟩
 |v::vs,rs,st,R,p3,hd,H,hl,hrow=>by
  unfold deepOf at hd;split at hd
  .rename_i x y hx hy
   cases hd
   erw[AX]at hl;let⟨s1,e1,H1⟩:=zi3 k H (by lia) ha hx [I,J] (by simp) (hrow x (by simp)) p1;have e1:exs (yc T (k+3)) [AA (.loc u),p1,AA (.tp AC [.int I,.int J]),AA v] st gpB=.nx [AA (.loc u),p1,AA (.tp AC [.int I,.int J]),AA v] s1:=e1;let⟨s2,p3',e2,H2⟩:=ziP k I J p1 ha vs y s1 _ (AA v) hy H1 (by simp;lia) (λr hr=>hrow r (by simp[hr]));refine⟨s2,p3',?_,by simpa using H2⟩;rw[zE (ρ1:=[AA (.loc u),p1,AA (.tp AC [.int I,.int J]),AA v]) rfl,e1];exact e2
  .cases hd
theorem ziF{α:Type}(f:Nat->List α){i:Nat}:∀n,i<=n->(upTo f i).length<=(upTo f n).length
 |0,h=>by
  rw[show i=0 by lia];exact AT _
 |n+1,h=>by
  rcases C3 i (n+1)with h1|h1
  .have:=ziF f (i:=i) n (by lia);rw[upTo,Af];lia
  .have:i=n+1:=by lia
   rw[this];exact AT _
theorem US.ask(H:US st u l w n R q a)(k:Nat)(ha:a+1<=500000)(hR:R.length<=4000)(sen:PV)(hsn:nL sen=AB)(G:List Int)(hG:G.length<=2):∃s,yc T (k+2) zO [.loc u,sen,.tp AC (G.map .int)] st=.ok .non s/\US s u l w n R q (a+1):=by
 let⟨xs,h,hs,hx⟩:=H;let⟨s,e,h2⟩:=ziM k h (by lia) sen G hG;exact⟨s,e,_,h2,.ask (by simp[nLs,nL,hsn]) hs,by simp;lia⟩
theorem US.rnd(H:US st u l w n R q a)(k:Nat)(hq:q+1<=4000):∃s,yc T (k+1) zP [.loc u] st=.ok .non s/\US s u l w n R (q+1) a:=by
 let⟨xs,h,hs,hx⟩:=H;let⟨s,e,h2⟩:=zhI k h hq;exact⟨s,e,_,h2,hs,hx⟩
theorem US.ins(H:US st u l w n R q a)(x:AS)(hx:((ufs 0 0 0 0 0).lookup x).isNone=true:=by decide +kernel):yb9 cU x st (.loc u)=AA true:=by
 let⟨xs,h,_⟩:=H;exact h.ins x hx
noncomputable def grB:Css:=match yp.body with
 |.cons _ (.cons (.for _ _ b) _)=>b
 |x=>x
theorem ye9:∀(G:List Int),G.length<=1->∀J:Int,yG .add (.tp AC (G.map .int)) (.tp AC [.int J])=AA (.tp AC ((G++[J]).map .int))
 |[],_,J=>rfl
 |[a],_,J=>rfl
def BodyOk(k u l:Nat)(w n:Int)(d:Bool)(vs:List PV)(G:List Int)(f:Nat->List PV)(qn an J:Nat):Prop:=
 ∀(st:SO) (R:List PV) (q:Int) (a:Nat),US st u l w n R q a->R.length+(f J).length<=4000->q+qn<=4000->a+an<=500000 ->
  ∃s,yc T k zU [.loc u,.tp d vs,.tp AC ((G++[(J:Int)]).map .int)] st=.ok .non s/\US s u l w n (R++f J) (q+qn) (a+an)
theorem zhr(k:Nat){a1 d:Bool}{s0 cn sn:PV}(hsn:nL sn=AB){vs:List PV}{G:List Int}(hG:G.length<=1){f:Nat->List PV}{qn an N:Nat}(hb:∀J<N,BodyOk (k+2) u l w n d vs G f qn an J)
  (hR:R.length+(upTo f N).length<=4000) (hq:q+(N*(1+qn):Nat)<=4000) (ha:a+N*(1+an)<=500000):∀(M j:Nat) (st:SO) (p4:Option PV),j+M=N->US st u l w n (R++upTo f j) (q+(j*(1+qn):Nat)) (a+j*(1+an)) ->
  ∃s p4',ybf (yc T (k+2)) (.n 4) grB (yu M (j:Int) 1) [AA (.loc u),AA (.tp a1 [s0,cn,sn,.tp d vs]),AA (.tp AC (G.map .int)),AA (.int N),p4] st=.nx [AA (.loc u),AA (.tp a1 [s0,cn,sn,.tp d vs]),AA (.tp AC (G.map .int)),AA (.int N),p4'] s/\US s u l w n (R++upTo f N) (q+(N*(1+qn):Nat)) (a+N*(1+an))
 |0,j,st,p4,hj,H=>by
  have:j=N:=by lia
  subst this;exact⟨st,p4,by rw[yu];exact zM,H⟩
 |M+1,j,st,p4,hj,H=>by
  have l1:(upTo f (j+1)).length<=(upTo f N).length:=ziF f N (by lia);rw[upTo,Af]at l1;have m1:(j+1)*(1+qn)<=N*(1+qn):=F4 _ (by lia);have m2:(j+1)*(1+an)<=N*(1+an):=F4 _ (by lia);have n1:(j+1)*(1+qn)=j*(1+qn)+(1+qn):=FM _ _;have n2:(j+1)*(1+an)=j*(1+an)+(1+an):=FM _ _;let⟨s1,e1,H1⟩:=H.ask k (by lia) (by rw[Af];lia) sn hsn (G++[(j:Int)]) (by simp;lia);let⟨s2,e2,H2⟩:=H1.rnd (k+1) (by lia);let⟨s3,e3,H3⟩:=hb j (by lia) s2 _ _ _ H2 (by rw[Af];lia) (by lia) (by lia);have H3:US s3 u l w n (R++upTo f (j+1)) (q+((j+1)*(1+qn):Nat)) (a+(j+1)*(1+an)):=by
   rw[upTo,<-BB,n1,n2];have x1:q+((j*(1+qn)+(1+qn):Nat):Int)=q+((j*(1+qn):Nat):Int)+1+(qn:Int):=by lia
   have x2:a+(j*(1+an)+(1+an))=a+j*(1+an)+1+an:=by lia
   rw[x1,x2];exact H3
  let⟨s4,p4',e4,H4⟩:=zhr k (a1:=a1) (s0:=s0) (cn:=cn) (sn:=sn) hsn hG hb hR hq ha M (j+1) s3 (AA (.int j)) (by lia) H3;refine⟨s4,p4',?_,H4⟩;have i1:=H.ins (AF "add_asked");have i2:=H1.ins (AF "add_round");have i3:=H2.ins (AF "go_parts");have c1:=ye9 G hG (j:Int);have one:exs (yc T (k+2)) [AA (.loc u),AA (.tp a1 [s0,cn,sn,.tp d vs]),AA (.tp AC (G.map .int)),AA (.int N),AA (.int (j:Int))] st grB=.nx [AA (.loc u),AA (.tp a1 [s0,cn,sn,.tp d vs]),AA (.tp AC (G.map .int)),AA (.int N),AA (.int (j:Int))] s3:=by
   generalize PV.tp AC (G.map .int)=gv at *;generalize PV.tp AC ((G++[(j:Int)]).map .int)=gw at *;generalize PV.tp d vs=pv at *;simp! [grB,yp,ix0,ix1,ix2,ix3,c1,i1,i2,i3,e1,e2,e3,IC.ve37]
  rw[yu,zE (ρ1:=[AA (.loc u),AA (.tp a1 [s0,cn,sn,.tp d vs]),AA (.tp AC (G.map .int)),AA (.int N),AA (.int (j:Int))]) rfl,one];exact e4
theorem US.cnt(H:US st u l w n R q a)(k:Nat)(bb:Bool){c m t:Int}(hm:m.natAbs<=200)(ht:t.natAbs<=200)(n0:0<=n)(n1:n<=8):yc T (k+1) zW [.loc u,.tp bb [.int c,.int m,.int t]] st=.ok (.int (c+m*n+t*w*n)) st:=by
 let⟨xs,h,_⟩:=H;have zc2:∀{i j:Int},j.natAbs<18446744073709551616->yG .mul (.int i) (.int j)=AA (.int (i*j)):=λh=>zj5 (.inr h);exact zju k h bb c m t (za9 (by lia)) (za9 (by lia)) (zc2 (by lia))
theorem zl7(z:Int)(s:SO):yaA .max s [.int 0,.int z]=AA (.int ((z.toNat:Nat):Int)):=by
 show AA (PV.int (if 0<z then z else 0))=_;split
 .rw[Int.toNat_of_nonneg (by lia)]
 .rw[show z.toNat=0 by lia];rfl
theorem zfj(k:Nat){a1 b d:Bool}{s0 sn:PV}(hsn:nL sn=AB){vs:List PV}{c m t:Int}{G:List Int}(hG:G.length<=1){f:Nat->List PV}{qn an N:Nat}(hN:N=cnt c m t w n)(hm:m.natAbs<=200)(ht:t.natAbs<=200)(n0:0<=n)(n1:n<=8)(hN2:N<1000000)
  (hb:∀J<N,BodyOk (k+2) u l w n d vs G f qn an J) (hR:R.length+(upTo f N).length<=4000) (hq:q+(N*(1+qn):Nat)<=4000) (ha:a+N*(1+an)+1<=500000) (H:US st u l w n R q a):
  ∃s,yc T (k+3) zt [.loc u,.tp a1 [s0,.tp b [.int c,.int m,.int t],sn,.tp d vs],.tp AC (G.map .int)] st=.ok .non s/\US s u l w n (R++upTo f N) (q+(N*(1+qn):Nat)) (a+N*(1+an)+1):=by
 have hT:T zt=AA ⟨3,5,AC,yp.body⟩:=rfl;have e1:=H.cnt (k+1) b (c:=c) hm ht n0 n1;have i1:=H.ins (AF "count_of");let⟨s1,p4,e2,H2⟩:=zhr k (a1:=a1) (s0:=s0) (cn:=.tp b [.int c,.int m,.int t]) (sn:=sn) (a:=a) (q:=q) (R:=R) hsn hG hb hR hq (by lia) N 0 st AD (by lia) (by simpa [upTo] using H);let⟨s2,e3,H3⟩:=H2.ask k (by lia) (by rw[Af];lia) sn hsn (G++[(N:Int)]) (by simp;lia);have i2:=H2.ins (AF "add_asked");have c1:=ye9 G hG (N:Int);have hx:=zl7 (c+m*n+t*w*n) st;have hz:((c+m*n+t*w*n).toNat:Int)=(N:Int):=by rw[hN];rfl
 rw[hz]at hx;have hr:ybY (.int (N:Int))=AA (yu N 0 1):=by
  erw[ybY];rw[if_pos (by lia)];rfl
 have hbd:yp.body=(match yp.body with
  |.cons x (.cons (.for t i _) r)=>.cons x (.cons (.for t i grB) r)
  |x=>x):=rfl
 refine⟨s2,?_,H3⟩;rw[zr hT rfl rfl];dsimp only;rw[hbd];have e2:ybf (yc T (k+2)) (.n 4) grB (yu N 0 1) _ st=_:=e2;generalize PV.tp AC (G.map .int)=gv at *;generalize PV.tp AC ((G++[(N:Int)]).map .int)=gw at *;generalize PV.tp d vs=pv at *;generalize PV.tp b [.int c,.int m,.int t]=cv at *;generalize c+m*n+t*w*n=z at *;simp! [yp,ix0,ix1,ix2,ix3,i1,e1,hx,hr,e2,c1,i2,e3,IC.ve37,zbI];rfl
theorem zfF(k:Nat){b:Bool}{vs:List PV}{gv:PV}{s:SO}{p3:Option PV}(e:ybf (yc T k) (.n 3) gpB vs [AA (.loc u),AA (.tp b vs),AA gv,AD] st=.nx [AA (.loc u),AA (.tp b vs),AA gv,p3] s):
  yc T (k+1) zU [.loc u,.tp b vs,gv] st=.ok .non s:=by
 have hT:T zU=AA ⟨3,4,AC,yj.body⟩:=rfl
 have hbd:yj.body=(match yj.body with
  |.cons (.for t i _) r=>.cons (.for t i gpB) r
  |x=>x):=rfl
 rw[zr hT rfl rfl];dsimp only;rw[hbd];simp! [yj,e,zbI];rfl
theorem zjo(k:Nat){d:Bool}{vs:List PV}{rs:List Rs}(hd:deepOf vs=AA rs)(I:Int)(J:Nat)(hrow:∀r∈rs,∀s,yc T (k+2) zbz [r.pv I J n] s=.ok (.bl AB) s):BodyOk (k+4) u l w n d vs [I] (λJ=>rs.map λr=>r.pv I J n) 0 0 J:=by
 intro st R q a H h1 h2 h3;let⟨s,p3,e,H2⟩:=ziP k (a:=a) (q:=q) I J (AA (.tp d vs)) (by lia) vs rs st R AD hd H (by simpa using h1) hrow;exact⟨s,zfF (k+3) e,by simpa using H2⟩
theorem zla(k:Nat)(H:US st u l w n R q a){a1:Bool}{r:List PV}{gv:PV}{p1:Option PV}{s:SO}(e:yc T k zt [.loc u,.tp a1 (.str "rounds" :: r),gv] st=.ok .non s):
  exs (yc T k) [AA (.loc u),p1,AA gv,AA (.tp a1 (.str "rounds" :: r))] st gpB=.nx [AA (.loc u),p1,AA gv,AA (.tp a1 (.str "rounds" :: r))] s:=by
 have ih:=H.ins (AF "go_rounds");simp! [gpB,yj,ix0,zhc,ih,e,IC.ve37]
def ybF(v:PV):Prop:=∀(k:Nat) (s:SO),yc T (10+k) zbz [v] s=.ok (.bl AB) s
def T2.ak(w n:Int):T2->Nat
 |.row _=>0
 |.rounds c m t _=>cnt c m t w n+1
def ak2(w n:Int)(ps:List T2):Nat:=(ps.map (T2.ak w n)).sum
theorem ze8{c m t w n:Int}(hc:c.natAbs<=200)(hm:m.natAbs<=200)(ht:t.natAbs<=200)(w0:0<=w)(w1:w<=16)(n0:0<=n)(n1:n<=8):(c+m*n+t*w*n).natAbs<1000000:=by
 have h1:(m*n).natAbs<=200*8:=by rw[F5];exact Aj hm (by lia)
 have h2:(t*w*n).natAbs<=200*16*8:=by rw[F5,F5];exact Aj (Aj ht (by lia)) (by lia)
 generalize m*n=A at *;generalize t*w*n=B at *;lia
theorem zix{α:Type}{f:Nat->List α}{x:α}:∀{N J:Nat},J<N->x∈f J->x∈upTo f N
 |0,_,h,_=>absurd h (by lia)
 |N+1,J,h,hx=>by
  rw[upTo,Ax];rcases C3 J N with h1|h1
  .exact .inl (zix h1 hx)
  .have:J=N:=by lia
   exact .inr (this ▸ hx)
theorem znj{a b d:Bool}{x c m t sn:PV}{vs:List PV}(h:nL (.tp a [x,.tp b [c,m,t],sn,.tp d vs])=AB):nL sn=true:=by
 erw[nL,nLs,AK]at h;exact h.2.2.1
theorem zpV{a b d:Bool}{x c m t sn:PV}{vs:List PV}(h:nL (.tp a [x,.tp b [c,m,t],sn,.tp d vs])=AB):nLs vs=true:=by
 erw[nL,nLs,AK]at h;exact h.2.2.2.1
theorem zbQ{v:PV}{vs:List PV}(h:nLs (v::vs)=AB):nL v=AB/\nLs vs=true:=by
 simpa only[nLs,AK] using h
theorem zl9(k:Nat)(w0:0<=w)(w1:w<=16)(n0:0<=n)(n1:n<=8)(I:Nat)(p1:Option PV){v:PV}{p:T2}(hv:nL v=AB)(hp:part2 v=AA p)(H:US st u l w n R q a)(hR:R.length+(p.rows w n I).length<=4000)(hq:q+(p.rnd w n:Nat)<=4000)(ha:a+p.ak w n<=500000)(hrow:∀x∈p.rows w n I,ybF x):
  ∃s,exs (yc T (k+13)) [AA (.loc u),p1,AA (.tp AC [.int I]),AA v] st gpB=.nx [AA (.loc u),p1,AA (.tp AC [.int I]),AA v] s/\US s u l w n (R++p.rows w n I) (q+(p.rnd w n:Nat)) (a+p.ak w n):=by
 rcases zjZ hp with⟨r,rfl,h1⟩|⟨a1,b,sn,d,vs,c,m,t,rs,rfl,rfl,hd,hc,hm,ht⟩
 .let⟨s,e,H2⟩:=zi3 (k+10) H (by simpa [T2.rows] using hR) (by lia) h1 [(I:Int)] (by simp) (λs=>by
   have:=hrow (r.pv I 0 n) (by simp[T2.rows]) (k+2) s;rw[show 10+(k+2)=k+10+2 by lia]at this;exact this) p1
  exact⟨s,e,by simpa [T2.rows,T2.rnd,T2.ak] using H2⟩
 .have hN:cnt c m t w n<1000000:=by
   have:=ze8 hc hm ht w0 w1 n0 n1;erw[cnt];lia
  erw[T2.rows,T2.rnd,T2.ak]at hR hq ha hrow ⊢;let⟨s,e,H2⟩:=zfj (k+10) (a1:=a1) (b:=b) (d:=d) (s0:=.str "rounds") (sn:=sn) (znj hv) (vs:=vs) (G:=[(I:Int)]) (by simp) (f:=λJ=>rs.map λr=>r.pv I J n) (qn:=0) (an:=0) rfl hm ht n0 n1 hN
   (λJ hJ=>zjo (k+8) hd I J (λr hr s=>by
    have:=hrow (r.pv I J n) (zix hJ (DZ.2 ⟨r,hr,rfl⟩)) k s;rw[show 10+k=k+8+2 by lia]at this;exact this)) hR (by simpa using hq) (by lia) H
  have e:yc T (k+13) zt [.loc u,.tp a1 [.str "rounds",.tp b [.int c,.int m,.int t],sn,.tp d vs],.tp AC [.int I]] st=.ok .non s:=e;exact⟨s,zla (k+13) H e,by simpa [Dl] using H2⟩
theorem zlm(k:Nat)(w0:0<=w)(w1:w<=16)(n0:0<=n)(n1:n<=8)(I:Nat)(p1:Option PV):∀(vs:List PV) (ps:List T2) (st:SO) (R:List PV) (q:Int) (a:Nat) (p3:Option PV),nLs vs=AB->yaZ vs=AA ps->US st u l w n R q a->R.length+(yam w n I ps).length<=4000->q+(ybn w n ps:Nat)<=4000->a+ak2 w n ps<=500000->(∀x∈yam w n I ps,ybF x) ->
  ∃s p3',ybf (yc T (k+13)) (.n 3) gpB vs [AA (.loc u),p1,AA (.tp AC [.int I]),p3] st=.nx [AA (.loc u),p1,AA (.tp AC [.int I]),p3'] s/\US s u l w n (R++yam w n I ps) (q+(ybn w n ps:Nat)) (a+ak2 w n ps)
 |[],ps,st,R,q,a,p3,_,hp,H,_,_,_,_=>by
  cases hp
  exact⟨st,p3,zM,by simpa [yam,ybn,ak2] using H⟩
 |v::vs,ps,st,R,q,a,p3,hv,hp,H,hR,hq,ha,hrow=>by
  unfold yaZ at hp;split at hp
  .rename_i x y hx hy
   cases hp
   have r1:yam w n I (x::y)=x.rows w n I++yam w n I y:=by simp[yam]
   have r2:ybn w n (x::y)=x.rnd w n+ybn w n y:=by simp[ybn]
   have r3:ak2 w n (x::y)=x.ak w n+ak2 w n y:=by simp[ak2]
   rw[r1,Af]at hR;rw[r2]at hq;rw[r3]at ha;rw[r1]at hrow;rw[r1,r2,r3];let⟨s1,e1,H1⟩:=zl9 k w0 w1 n0 n1 I p1 (zbQ hv).1 hx H (by lia) (by lia) (by lia) (λz hz=>hrow z (by simp[hz]));let⟨s2,p3',e2,H2⟩:=zlm k w0 w1 n0 n1 I p1 vs y s1 _ _ _ (AA v) (zbQ hv).2 hy H1 (by rw[Af];lia) (by lia) (by lia) (λz hz=>hrow z (by simp[hz]));refine⟨s2,p3',?_,?_⟩
   .rw[zE (ρ1:=[AA (.loc u),p1,AA (.tp AC [.int I]),AA v]) rfl,e1];exact e2
   .rw[<-BB,<-Dl,show q+((x.rnd w n+ybn w n y:Nat):Int)=q+(x.rnd w n:Nat)+(ybn w n y:Nat)by lia];exact H2
  .cases hp
theorem zkA(k:Nat)(w0:0<=w)(w1:w<=16)(n0:0<=n)(n1:n<=8){d:Bool}{vs:List PV}{ps:List T2}(hv:nLs vs=AB)(hp:yaZ vs=AA ps)(I:Nat)(hrow:∀x∈yam w n I ps,ybF x):BodyOk (k+14) u l w n d vs [] (λI=>yam w n I ps) (ybn w n ps) (ak2 w n ps) I:=by
 intro st R q a H h1 h2 h3;let⟨s,p3,e,H2⟩:=zlm k w0 w1 n0 n1 I (AA (.tp d vs)) vs ps st R q a AD hv hp H h1 h2 h3 hrow;exact⟨s,zfF (k+13) e,H2⟩
def T1.ak(w n:Int):T1->Nat
 |.row _=>0
 |.rounds c m t ps=>cnt c m t w n*(1+ak2 w n ps)+1
def ak1(w n:Int)(ps:List T1):Nat:=(ps.map (T1.ak w n)).sum
theorem zlZ(k:Nat)(w0:0<=w)(w1:w<=16)(n0:0<=n)(n1:n<=8)(p1:Option PV){v:PV}{p:T1}(hv:nL v=AB)(hp:part1 v=AA p)(H:US st u l w n R q a)(hR:R.length+(p.rows w n).length<=4000)(hq:q+(p.rnd w n:Nat)<=4000)(ha:a+p.ak w n<=500000)(hrow:∀x∈p.rows w n,ybF x):
  ∃s,exs (yc T (k+15)) [AA (.loc u),p1,AA (.tp AC []),AA v] st gpB=.nx [AA (.loc u),p1,AA (.tp AC []),AA v] s/\US s u l w n (R++p.rows w n) (q+(p.rnd w n:Nat)) (a+p.ak w n):=by
 rcases zkc hp with⟨r,rfl,h1⟩|⟨a1,b,sn,d,vs,c,m,t,ps,rfl,rfl,hd,hc,hm,ht⟩
 .let⟨s,e,H2⟩:=zi3 (k+12) H (by simpa [T1.rows] using hR) (by lia) h1 [] (by simp) (λs=>by
   have:=hrow (r.pv 0 0 n) (by simp[T1.rows]) (k+4) s;rw[show 10+(k+4)=k+12+2 by lia]at this;exact this) p1
  exact⟨s,e,by simpa [T1.rows,T1.rnd,T1.ak] using H2⟩
 .have hN:cnt c m t w n<1000000:=by
   have:=ze8 hc hm ht w0 w1 n0 n1;erw[cnt];lia
  erw[T1.rows,T1.rnd,T1.ak]at hR hq ha hrow ⊢;let⟨s,e,H2⟩:=zfj (k+12) (a1:=a1) (b:=b) (d:=d) (s0:=.str "rounds") (sn:=sn) (znj hv) (vs:=vs) (G:=[]) (by simp) (f:=λI=>yam w n I ps) (qn:=ybn w n ps) (an:=ak2 w n ps) rfl hm ht n0 n1 hN
   (λJ hJ=>zkA k w0 w1 n0 n1 (zpV hv) hd J (λz hz=>hrow z (zix hJ hz))) hR hq (by lia) H
  have e:yc T (k+15) zt [.loc u,.tp a1 [.str "rounds",.tp b [.int c,.int m,.int t],sn,.tp d vs],.tp AC []] st=.ok .non s:=e;exact⟨s,zla (k+15) H e,by rw[<-Dl];exact H2⟩
theorem zlf(k:Nat)(w0:0<=w)(w1:w<=16)(n0:0<=n)(n1:n<=8)(p1:Option PV):∀(vs:List PV) (ps:List T1) (st:SO) (R:List PV) (q:Int) (a:Nat) (p3:Option PV),nLs vs=AB->yaL vs=AA ps->US st u l w n R q a->R.length+(yI w n ps).length<=4000->q+(yaS w n ps:Nat)<=4000->a+ak1 w n ps<=500000->(∀x∈yI w n ps,ybF x) ->
  ∃s p3',ybf (yc T (k+15)) (.n 3) gpB vs [AA (.loc u),p1,AA (.tp AC []),p3] st=.nx [AA (.loc u),p1,AA (.tp AC []),p3'] s/\US s u l w n (R++yI w n ps) (q+(yaS w n ps:Nat)) (a+ak1 w n ps)
 |[],ps,st,R,q,a,p3,_,hp,H,_,_,_,_=>by
  cases hp
  exact⟨st,p3,zM,by simpa [yI,yaS,ak1] using H⟩
 |v::vs,ps,st,R,q,a,p3,hv,hp,H,hR,hq,ha,hrow=>by
  unfold yaL at hp;split at hp
  .rename_i x y hx hy
   cases hp
   have r1:yI w n (x::y)=x.rows w n++yI w n y:=by simp[yI]
   have r2:yaS w n (x::y)=x.rnd w n+yaS w n y:=by simp[yaS]
   have r3:ak1 w n (x::y)=x.ak w n+ak1 w n y:=by simp[ak1]
   rw[r1,Af]at hR;rw[r2]at hq;rw[r3]at ha;rw[r1]at hrow;rw[r1,r2,r3];let⟨s1,e1,H1⟩:=zlZ k w0 w1 n0 n1 p1 (zbQ hv).1 hx H (by lia) (by lia) (by lia) (λz hz=>hrow z (by simp[hz]));let⟨s2,p3',e2,H2⟩:=zlf k w0 w1 n0 n1 p1 vs y s1 _ _ _ (AA v) (zbQ hv).2 hy H1 (by rw[Af];lia) (by lia) (by lia) (λz hz=>hrow z (by simp[hz]));refine⟨s2,p3',?_,?_⟩
   .rw[zE (ρ1:=[AA (.loc u),p1,AA (.tp AC []),AA v]) rfl,e1];exact e2
   .rw[<-BB,<-Dl,show q+((x.rnd w n+yaS w n y:Nat):Int)=q+(x.rnd w n:Nat)+(yaS w n y:Nat)by lia];exact H2
  .cases hp
end
theorem yeF(k:Nat)(w n:Int):yc T (k+1) zav [.loc 0,.int w,.int n] [.ins cU []]=.ok .non [uob w n 1 0 0,.lst []]:=by
 have hT:T zav=AA zV:=rfl;rw[zr hT rfl rfl];ac_rfl
theorem zkN(w n:Int):US [uob w n 1 0 0,.lst []] 0 1 w n [] 0 0:=⟨[],⟨rfl,rfl,by decide⟩,.nil,by simp⟩
theorem StR.nl{xs rs:List PV}(h:StR xs rs):nLs xs=true:=by
 have ap:∀(a b:List PV),nLs a=AB->nLs b=AB->nLs (a++b)=true:=by
  intro a
  induction a with
  |nil=>intro b _ h;exact h
  |cons x a ih=>
   intro b h1 h2;let⟨p,q⟩:=zbQ h1;rw[Aw,nLs,p,ih b q h2];rfl
 induction h with
 |nil=>rfl
 |row hv _ ih=>exact ap _ _ ih (by simp[nLs,nL,hv])
 |ask hv _ ih=>exact ap _ _ ih (by erw[nLs,nL,Bool.and_true,Di]at hv ⊢;simpa using hv)
theorem zg2:yN .eq (.str "asked") (.str "row")=AA (.bl AC):=by ac_rfl
theorem zku(k:Nat){b:Bool}{vs:List PV}{ps:List T1}{w n:Int}(hv:nLs vs=AB)(hp:yaL vs=AA ps)(w0:0<=w)(w1:w<=16)(n0:0<=n)(n1:n<=8)(hR:(yI w n ps).length<=4000)(hq:yaS w n ps<=4000)(ha:ak1 w n ps<=500000)(hrow:∀x∈yI w n ps,ybF x)
  (hit:∀s,yc T (k+16) zF [.tp b vs] s=.ok (.bl AB) s) (st:SO):∃xs,yc T (k+17) zd5 [.tp b vs,.int w,.int n] st=.ok (.lst xs) st/\StR xs (yI w n ps):=by
 have hT:T zd5=AA zbn:=rfl;have hnl:nLs [.tp b vs,.int w,.int n]=true:=by simp[nLs,nL,hv]
 let⟨s,p3,e,xs,h,hs,_⟩:=zlf k w0 w1 n0 n1 (AA (.tp b vs)) vs ps [uob w n 1 0 0,.lst []] [] 0 0 AD hv hp (zkN w n) (by simpa using hR) (by lia) (by lia) hrow;have e:=zfF (k+15) e;have i0:=yeF (k+15) w n;have ih:=(zkN w n).ins (AF "go_parts");have f1:=h.fs;have fz:ydn (.loc 1) s=.ok (.lst xs) (s.set 1 .dead):=by simp[ydn,h.d]
 refine⟨xs,?_,by simpa using hs⟩;have nl:=hs.nl;rw[zc hT rfl rfl hnl];generalize PV.tp b vs=tv at *;simp! [zbn,hit,i0,ih,e,f1,fz,IC.ve32,IC.ve33,IC.ve37,ybE,newV];simp[ybz,nL,nl]
noncomputable def unT:Ce:=.cmp .eq (.idx (.var 0) (.cst (.int 0))) (.cst (.str "row"))
noncomputable def unE:Ce:=.idx (.var 0) (.cst (.int 1))
theorem zjR(k:Nat){st:SO}{xs rs:List PV}(h:StR xs rs):∀(ys b:List PV),yaq (yc T k) [AD] (.n 0) unT unE ys st=.ok b st->yaq (yc T k) [AD] (.n 0) unT unE (xs++ys) st=.ok (rs++b) st:=by
 induction h with
 |nil=>intro ys b e;exact e
 |@row xs rs v hv _ ih=>
  intro ys b e;have one:ybd (yc T k) [AD] (.n 0) unT unE (.tp AC [.str "row",v]) st=.ok (AA v) st:=by
   simp! [ybd,unT,unE,ix0,ix1,zdT]
  have:=ih (.tp AC [.str "row",v]::ys) (v::b) (by rw[zL,one,bd_ok,e,bd_ok];rfl);rw[BB,BB];exact this
 |@ask xs rs x y z hv _ ih=>
  intro ys b e;have one:ybd (yc T k) [AD] (.n 0) unT unE (.tp AC [.str "asked",x,y,z]) st=.ok AD st:=by
   simp! [ybd,unT,unE,ix0,ix1,zg2]
  have:=ih (.tp AC [.str "asked",x,y,z]::ys) b (by rw[zL,one,bd_ok,e,bd_ok];rfl);rw[BB];exact this
theorem StR.nl2{xs rs:List PV}(h:StR xs rs):nLs rs=true:=by
 have ap:∀(a b:List PV),nLs a=AB->nLs b=AB->nLs (a++b)=true:=by
  intro a
  induction a with
  |nil=>intro b _ h;exact h
  |cons x a ih=>
   intro b h1 h2;let⟨p,q⟩:=zbQ h1;rw[Aw,nLs,p,ih b q h2];rfl
 induction h with
 |nil=>rfl
 |row hv _ ih=>exact ap _ _ ih (by simp[nLs,hv])
 |ask _ _ ih=>exact ih
theorem unrolled(k:Nat){b:Bool}{vs:List PV}{ps:List T1}{w n:Int}(hv:nLs vs=AB)(hp:yaL vs=AA ps)(w0:0<=w)(w1:w<=16)(n0:0<=n)(n1:n<=8)(hR:(yI w n ps).length<=4000)(hq:yaS w n ps<=4000)(ha:ak1 w n ps<=500000)(hrow:∀x∈yI w n ps,ybF x)
  (hit:∀s,yc T (k+16) zF [.tp b vs] s=.ok (.bl AB) s) (st:SO):yc T (k+18) zd1 [.tp b vs,.int w,.int n] st=.ok (.tp AC (yI w n ps)) st:=by
 have hT:T zd1=AA zbt:=rfl;have hnl:nLs [.tp b vs,.int w,.int n]=true:=by simp[nLs,nL,hv]
 let⟨xs,e,hs⟩:=zku k hv hp w0 w1 n0 n1 hR hq ha hrow hit [];have ec:=zjR (k+17) (st:=[]) hs [] [] zbk;rw[BD,BD]at ec;have ec:yaq (yc T (k+17)) [AD] (.n 0) (.cmp .eq (.idx (.var 0) (.cst (.int 0))) (.cst (.str "row"))) (.idx (.var 0) (.cst (.int 1))) xs []=_:=ec;have nl:=hs.nl2;have lr:=λst=>zcw (yI w n ps) (by lia) st;have ht:∀st,yaA .tuple st [.lst (yI w n ps)]=AA (.tp AC (yI w n ps)):=λ_=>rfl;rw[zc hT rfl rfl hnl];generalize PV.tp b vs=tv at *;generalize yI w n ps=rows at *;simp! [zbt,e,ec,lr,ht];simp[ybz,nL,nl]
theorem zgZ(w n:Int):∀ps:List T1,nLs (yI w n ps)=true:=by
 have ap:∀(a b:List PV),nLs a=AB->nLs b=AB->nLs (a++b)=true:=by
  intro a
  induction a with
  |nil=>intro b _ h;exact h
  |cons x a ih=>
   intro b h1 h2;let⟨p,q⟩:=zbQ h1;rw[Aw,nLs,p,ih b q h2];rfl
 have up:∀(f:Nat->List PV) (N:Nat),(∀i,nLs (f i)=AB)->nLs (upTo f N)=true:=by
  intro f N h
  induction N with
  |zero=>rfl
  |succ N ih=>exact ap _ _ ih (h N)
 have mp:∀(rs:List Rs) (I J:Int),nLs (rs.map λr=>r.pv I J n)=true:=by
  intro rs I J
  induction rs with
  |nil=>rfl
  |cons r rs ih=>rw[AL,nLs,zci,ih];rfl
 have two:∀(I:Nat) (ps:List T2),nLs (yam w n I ps)=true:=by
  intro I ps
  induction ps with
  |nil=>rfl
  |cons p ps ih=>
   rw[yam,BY];refine ap _ _ ?_ ih
   cases p with
   |row r=>simp[T2.rows,nLs,zci]
   |rounds c m t rs=>exact up _ _ λJ=>mp rs _ _
 intro ps
 induction ps with
 |nil=>rfl
 |cons p ps ih=>
  rw[yI,BY];refine ap _ _ ?_ ih
  cases p with
  |row r=>simp[T1.rows,nLs,zci]
  |rounds c m t ps=>exact up _ _ λI=>two I ps
theorem zio(k:Nat){deed:PV}(hd:nL deed=AB){b:Bool}{vs:List PV}{ps:List T1}{w n:Int}(ht:∀s,yc T (k+18) zaS [deed] s=.ok (.tp b vs) s)(hv:nLs vs=AB)(hp:yaL vs=AA ps)(w0:0<=w)(w1:w<=16)(n0:0<=n)(n1:n<=8)(hR:(yI w n ps).length<=4000)(hq:yaS w n ps<=4000)(ha:ak1 w n ps<=500000)(hrow:∀x∈yI w n ps,ybF x)
  (hit:∀s,yc T (k+16) zF [.tp b vs] s=.ok (.bl AB) s) (st:SO):yc T (k+19) zaZ [deed,.int w,.int n] st=.ok (.tp AC (yI w n ps)) st:=by
 have hT:T zaZ=AA zaF:=rfl;have hnl:nLs [deed,.int w,.int n]=true:=by simp[nLs,nL,hd]
 have e:=unrolled k hv hp w0 w1 n0 n1 hR hq ha hrow hit [];have nl:=zgZ w n ps;rw[zc hT rfl rfl hnl];generalize PV.tp b vs=tv at *;generalize yI w n ps=rows at *;simp! [zaF,ht,e];simp[ybz,nL,nl]
def Dg(W:Int)(M:Mem)(c n:Nat):Prop:=∀i:Nat,i<n->0<=M c i/\M c i<W
theorem Dg.mono{W:Int}{M:Mem}{c n:Nat}(h:Dg W M c (n+1)):Dg W M c n:=λi hi=>h i (by lia)
theorem zd{W:Int}{M M':Mem}{c c':Nat}:∀n,(∀i:Nat,i<n->M c i=M' c' i)->yt W M c n=yt W M' c' n
 |0,_=>rfl
 |n+1,h=>by rw[yt,yt,zd n λi hi=>h i (by lia),h n (by lia)]
theorem zA{W:Int}(hW:0<W){M:Mem}{c:Nat}:∀n,Dg W M c n->0<=yt W M c n/\yt W M c n<W^n
 |0,_=>by simp[yt]
 |n+1,h=>by
  let⟨a,b⟩:=zA hW n h.mono;let⟨c0,c1⟩:=h n (by lia);have hp:0<W^n:=A4 hW;have h1:0<=M c n*W^n:=Cu c0 (by lia);have h2:M c n*W^n<=(W-1)*W^n:=BC (by lia) (by lia);rw[B4,Bg]at h2;rw[yt,Ac,Ae (W^n) W];lia
theorem zaR{W:Int}(hW:0<W){M:Mem}{c:Nat}:∀n,Dg W M c n->(yt W M c n=0 ↔ ∀i:Nat,i<n->M c i=0)
 |0,_=>by simp[yt]
 |n+1,h=>by
  have ih:=zaR hW n h.mono;let⟨a,b⟩:=zA hW n h.mono;let⟨c0,c1⟩:=h n (by lia);have hp:0<W^n:=A4 hW;have h1:0<=M c n*W^n:=Cu c0 (by lia);rw[yt];constructor
  .intro h2 i hi;have h3:M c n*W^n=0:=by omega
   rcases C3 i n with z|z
   .exact ih.1 (by lia) i z
   .rw[show i=n by lia];rcases Int.mul_eq_zero.1 h3 with e|e
    .exact e
    .lia
  .intro h2;rw[h2 n (by lia),ih.2 λi hi=>h2 i (by lia)];simp
theorem zcC{w:Nat}(hw:0<w){M:Mem}{c n:Nat}(h:Dg (2^w) M c (n+1)):tb w (M c n)=if (2^w:Int)^(n+1)<=2*yt (2^w) M c (n+1)then 1 else 0:=by
 let⟨c0,c1⟩:=h n (by lia);let⟨a,b⟩:=zA (A4 (by lia)) n h.mono;rw[zng hw c0 c1,yt];obtain⟨v,rfl⟩:∃v,w=v+1:=⟨w-1,by lia⟩;have hp:0<((2:Int)^(v+1))^n:=A4 (A4 (by lia));rw[Ac ((2:Int)^(v+1)) n];generalize ((2:Int)^(v+1))^n=P at *;generalize hV:yt (2^(v+1)) M c n=V at *;rw[Ac]at *;generalize (2:Int)^v=H at *;generalize M c (n:Int)=d at *
 by_cases hd:H<=d
 .have h1:=BC hd (show 0<=P by lia);have h2:P*(H*2)=2*(H*P):=by rw[Ae P,Ad,Ae 2 P,<-Ad,Ae 2]
  rw[if_pos (by lia),if_pos (by rw[h2];lia)]
 .have h1:=BC (show d<=H-1 by lia) (show 0<=P by lia);rw[B4,Bg]at h1;have h2:P*(H*2)=2*(H*P):=by rw[Ae P,Ad,Ae 2 P,<-Ad,Ae 2]
  rw[if_neg (by lia),if_neg (by rw[h2];lia)]
theorem zfY{W:Int}(hW:0<W)(hW2:2<=W)(M:Mem)(k:Int)(k0:0<=k)(k1:k<=1):∀n,Dg W M 97 n->Dg W M 98 n ->
  (∀d j,(d≠99 \/ (n:Int)<=j)->(yh W (yK n .sum) M k).1 d j=M d j)/\Dg W (yh W (yK n .sum) M k).1 99 n/\0<=(yh W (yK n .sum) M k).2/\(yh W (yK n .sum) M k).2<=1/\yt W (yh W (yK n .sum) M k).1 99 n+(yh W (yK n .sum) M k).2*W^n=yt W M 97 n+yt W M 98 n+k
 |0,_,_=>⟨λ_ _ _=>rfl,λi hi=>by lia,k0,k1,by simp[yt,yK,yC,yh]⟩
 |n+1,ha,hb=>by
  let⟨h1,h2,h3,h4,h5⟩:=zfY hW hW2 M k k0 k1 n ha.mono hb.mono;have e:yK (n+1) .sum=yK n .sum++[.sum (99,n) (97,n) (98,n)]:=rfl;rw[e,zh];generalize yh W (yK n .sum) M k=R at *;let⟨M1,k'⟩:=R;simp only at *;let⟨a0,a1⟩:=ha n (by lia);let⟨b0,b1⟩:=hb n (by lia);erw[yh,stepM,rd,wr,h1 97 n (.inl (by decide)),h1 98 n (.inl (by decide))];generalize hA:M 97 (n:Int)=A at *;generalize hB:M 98 (n:Int)=B at *;have d1:=Aq (A+B+k') (show W≠0 by lia);have d2:=Ai (A+B+k') hW;have d3:=Bw (A+B+k') W;have d4:0<=(A+B+k')/W:=C0 (by lia) (by lia);have d5:(A+B+k')/W<2:=Bi hW (by lia);refine⟨λd j hd=>?_,λi hi=>?_,d4,by lia,?_⟩
  .unfold upd;rw[if_neg (by lia),h1 d j (by lia)]
  .unfold upd
   by_cases hin:i=n
   .subst hin;rw[if_pos ⟨rfl,rfl⟩];exact⟨d1,d2⟩
   .rw[if_neg (by lia)];exact h2 i (by lia)
  .have hv:yt W (upd M1 99 (n:Int) ((A+B+k')%W)) 99 (n+1)=yt W M1 99 n+(A+B+k')%W*W^n:=by
    rw[yt,zd (M':=M1) (c':=99) n λi hi=>by unfold upd;rw[if_neg (by lia)]];unfold upd;rw[if_pos ⟨rfl,rfl⟩]
   rw[hv,yt,yt,hA,hB,Ac];generalize W^n=P at *;generalize (A+B+k')%W=r at *;generalize (A+B+k')/W=q at *;have e2:r=A+B+k'-W*q:=by lia
   subst e2;have e3:(A+B+k'-W*q)*P+q*(P*W)=A*P+B*P+k' * P:=by
    rw[B4,BL,BL,Ae W q,Ad q W P,Ae W P];lia
   generalize (A+B+k'-W*q)*P=X1 at *;generalize q*(P*W)=X2 at *;lia
theorem zgw{W:Int}(M:Mem)(k:Int)(hS:0<=M 115 0):∀n,(∀i:Nat,i<n->0<=M 99 i) ->
  (yh W (yC (λi=>Rw.any cS cS (99,i)) n) M k).2=k/\(∀d j,d≠115->(yh W (yC (λi=>Rw.any cS cS (99,i)) n) M k).1 d j=M d j)/\0<=(yh W (yC (λi=>Rw.any cS cS (99,i)) n) M k).1 115 0/\((yh W (yC (λi=>Rw.any cS cS (99,i)) n) M k).1 115 0=0 ↔ M 115 0=0/\∀i:Nat,i<n->M 99 i=0)
 |0,_=>⟨rfl,λ_ _ _=>rfl,hS,by simp[yC,yh]⟩
 |n+1,h=>by
  let⟨h1,h2,h3,h4⟩:=zgw (W:=W) M k hS n λi hi=>h i (by lia);rw[yC,zh];generalize yh W (yC (λi=>Rw.any cS cS (99,i)) n) M k=R at *;let⟨M1,k'⟩:=R;simp only at *;have hb:=h n (by lia);erw[yh,stepM,rd,wr,cS,h2 99 n (by decide)];have hz:=zin h3 hb;refine⟨h1,λd j hd=>?_,?_,?_⟩
  .unfold upd;rw[if_neg (by lia),h2 d j hd]
  .unfold upd;rw[if_pos ⟨rfl,rfl⟩];obtain⟨x,hx⟩:∃x:Nat,M1 115 0=x:=⟨(M1 115 0).toNat,by lia⟩;obtain⟨y,hy⟩:∃y:Nat,M 99 n=y:=⟨(M 99 n).toNat,by lia⟩;rw[hx,hy,zdA];lia
  .unfold upd;rw[if_pos ⟨rfl,rfl⟩,hz,h4];constructor
   .rintro⟨⟨a,b⟩,c⟩
    refine⟨a,λi hi=>?_⟩;rcases C3 i n with z|z
    .exact b i z
    .rw[show i=n by lia];exact c
   .rintro⟨a,b⟩
    exact⟨⟨a,λi hi=>b i (by lia)⟩,b n (by lia)⟩
theorem zm{W:Int}{r:Rw}{rs:List Rw}{M:Mem}{k:Int}:yh W (r::rs) M k=yh W rs (stepM W M k r).1 (stepM W M k r).2:=rfl
theorem zab(b:Bool):0<=bi b/\bi b<=1:=by cases b<;>decide
theorem zcd{w:Nat}(hw:1<w){n:Nat}(M:Mem)(k:Int)(hc:Dg (2^w) M 99 (n+1))(hz:M 122 0=0):
  (∀j,(yh (2^w) (yo (n+1)) M k).1 99 j=M 99 j)/\(yh (2^w) (yo (n+1)) M k).1 109 0=M 109 0/\(yh (2^w) (yo (n+1)) M k).1 109 1=M 109 1 /\
  (yh (2^w) (yo (n+1)) M k).1 109 2=bi (yt (2^w) M 99 (n+1)==0)/\(yh (2^w) (yo (n+1)) M k).1 109 3=bi (decide ((2^w:Int)^(n+1)<=2*yt (2^w) M 99 (n+1))):=by
 have hW:(0:Int)<2^w:=A4 (by lia);have hW4:(4:Int)<=2^w:=by
  have h:(2:Nat)^2<=2^w:=A9 (by lia) (by lia);have h2:=pw w;lia
 let⟨h1,h2,h3,h4⟩:=zgw (W:=2^w) (wr M cS 0) k (by simp[wr,upd]) (n+1) (λi hi=>by simp[wr,upd];exact(hc i hi).1);have e:yo (n+1)=.set cS 0::(yC (λi=>Rw.any cS cS (99,i)) (n+1)++[.ask cS,.set (109,2) 1,.less (109,2) (109,2) cZ,.twice cT (99,((n+1:Nat):Int)-1),.sum (109,3) cZ cZ]):=rfl;have hst:stepM (2^w) M k (.set cS 0)=(wr M cS 0,k):=rfl;rw[e,zm,hst,zh];generalize yh (2^w) (yC (λi=>Rw.any cS cS (99,i)) (n+1)) (wr M cS 0) k=R at *;let⟨M1,k'⟩:=R;simp only at *;subst h1;have g:∀d j,d≠115->M1 d j=M d j:=λd j hd=>by
  rw[h2 d j hd];erw[wr,upd,cS];rw[if_neg (by lia)]
 have hn:((n+1:Nat):Int)-1=n:=by lia
 have h5:M1 115 0=0 ↔ yt (2^w) M 99 (n+1)=0:=by
  rw[h4,zaR hW (n+1) hc];constructor
  .rintro⟨_,b⟩ i hi
   have:=b i hi;simpa [wr,upd] using this
  .intro b;exact⟨by simp[wr,upd],λi hi=>by simpa [wr,upd] using b i hi⟩
 have ht:=zcC (by lia) hc;have hb:bi (!(M1 115 0==0))=1-bi (yt (2^w) M 99 (n+1)==0):=by
  by_cases hv:yt (2^w) M 99 (n+1)=0
  .rw[h5.2 hv,hv];rfl
  .have:¬M1 115 0=0:=λz=>hv (h5.1 z);rw[beq_eq_false_iff_ne.2 this,beq_eq_false_iff_ne.2 hv];rfl
 have hbr:=zab (yt (2^w) M 99 (n+1)==0);rw[hn];erw[yh,stepM,rd,wr,upd,cS,cT,cZ];rw[hb];generalize bi (yt (2^w) M 99 (n+1)==0)=v at *;have hm:bi (decide ((1:Int)-0-(1-v)<0))=0:=by
  rw[decide_eq_false (by lia)];rfl
 have hm2:(1-0-(1-v))%(2:Int)^w=v:=by
  rw[show 1-0-(1-v)=v by lia];exact A2 (by lia) (by lia)
 have hT:(2*M 99 n+0)/2^w=bi (decide ((2^w:Int)^(n+1)<=2*yt (2^w) M 99 (n+1))):=by
  rw[DA];show tb w (M 99 n)=_;rw[ht]
  by_cases q:(2^w:Int)^(n+1)<=2*yt (2^w) M 99 (n+1)
  .rw[if_pos q,decide_eq_true q];rfl
  .rw[if_neg q,decide_eq_false q];rfl
 have hTr:=zab (decide ((2^w:Int)^(n+1)<=2*yt (2^w) M 99 (n+1)));erw[De,false_and,if_false,Int.reduceEq,and_false,and_self,if_true,g _ _ (show (99:Nat)≠115 by decide),g _ _ (show (109:Nat)≠115 by decide),g _ _ (show (122:Nat)≠115 by decide),hz,hm,hm2,hT];refine⟨λj=>trivial,trivial,trivial,trivial,?_⟩;rw[show (0:Int)+0+bi (decide ((2^w:Int)^(n+1)<=2*yt (2^w) M 99 (n+1)))=bi (decide ((2^w:Int)^(n+1)<=2*yt (2^w) M 99 (n+1)))by lia];exact A2 (by lia) (by lia)
theorem zbW{c d:Nat}(h:d≠c)(j:Int):∀(vs:List Int) (i:Nat) (M:Mem),yaK c i vs M d j=M d j
 |[],_,_=>rfl
 |v::vs,i,M=>by
  rw[yaK,zbW h j vs,upd,if_neg (by lia)]
theorem zc7{c:Nat}(j:Int):∀(vs:List Int) (i:Nat) (M:Mem),j<i->yaK c i vs M c j=M c j
 |[],_,_,_=>rfl
 |v::vs,i,M,h=>by
  rw[yaK,zc7 j vs (i+1) _ (by lia),upd,if_neg (by lia)]
theorem zer{c:Nat}:∀(vs:List Int) (i:Nat) (M:Mem) (k:Nat),k<vs.length->yaK c i vs M c ((i+k:Nat):Int)=vs.getD k 0
 |[],_,_,_,h=>by simp at h
 |v::vs,i,M,0,h=>by
  rw[yaK,zc7 _ vs (i+1) _ (by lia),upd,if_pos ⟨rfl,by simp⟩];rfl
 |v::vs,i,M,k+1,h=>by
  rw[yaK,show i+(k+1)=i+1+k by lia,zer vs (i+1) _ k (by simpa using h)];rfl
theorem zdj{W:Int}(hW:0<W):∀(n:Nat) (x:Int) (k:Nat),k<n->(ye W n x).getD k 0=x/W^k%W
 |0,_,_,h=>by lia
 |n+1,x,0,h=>by simp[ye]
 |n+1,x,k+1,h=>by
  rw[ye];show (ye W n (x/W)).getD k 0=_;rw[zdj hW n (x/W) k (by lia),Ac,Ae (W^k),BX (by lia)]
theorem zcq{W x:Int}(hW:0<W)(n:Nat):x%W^(n+1)=x%W^n+x/W^n%W*W^n:=by
 have hp:0<W^n:=A4 hW;rw[Ac];generalize W^n=P at *;have e1:=Bw x P;have e2:=Bw (x/P) W;have a0:=Aq x (show P≠0 by lia);have a1:=Ai x hp;have b0:=Aq (x/P) (show W≠0 by lia);have b1:=Ai (x/P) hW;generalize x%P=r at *;generalize x/P=q at *;generalize q%W=s at *;generalize q/W=t at *;subst e2;have e3:x=r+s*P+P*W*t:=by
  rw[<-e1,F6,Ae P s,Ad P W t];lia
 have c1:s*P<=(W-1)*P:=BC (by lia) (by lia);have c0:0<=s*P:=Cu b0 (by lia);rw[B4,Bg]at c1;rw[e3,Int.add_mul_emod_self_left,A2 (by lia) (by rw[Ae P W];lia)]
theorem zeG{W:Int}(hW:0<W){M:Mem}{c:Nat}{x:Int}:∀n,(∀i:Nat,i<n->M c i=x/W^i%W)->yt W M c n=x%W^n
 |0,_=>by simp[yt,HV]
 |n+1,h=>by rw[yt,zeG hW n λi hi=>h i (by lia),h n (by lia),zcq hW]
section
variable {W:Int}(n:Nat)(x y:Int)
theorem zdN{d:Nat}(h1:d≠97)(h2:d≠98)(j:Int):yS W n x y d j=0:=by
 rw[yS,zbW h2,zbW h1];rfl
variable (hW:0<W)
include hW
theorem zl8{i:Nat}(h:i<n):yS W n x y 97 i=x/W^i%W:=by
 rw[yS,zbW (by decide)];have:=zer (c:=97) (ye W n x) 0 M0 i (by rw[zS];exact h);rw[Bl]at this;rw[this,zdj hW n x i h]
theorem zl6{i:Nat}(h:i<n):yS W n x y 98 i=y/W^i%W:=by
 rw[yS];have:=zer (c:=98) (ye W n y) 0 (yaK 97 0 (ye W n x) M0) i (by rw[zS];exact h);rw[Bl]at this;rw[this,zdj hW n y i h]
theorem zgc:Dg W (yS W n x y) 97 n:=λi hi=>by
 rw[zl8 n x y hW hi];exact⟨Aq _ (by lia),Ai _ hW⟩
theorem zhh:Dg W (yS W n x y) 98 n:=λi hi=>by
 rw[zl6 n x y hW hi];exact⟨Aq _ (by lia),Ai _ hW⟩
theorem zgD(h0:0<=x)(h1:x<W^n):yt W (yS W n x y) 97 n=x:=by
 rw[zeG hW n λi hi=>zl8 n x y hW hi,A2 h0 h1]
theorem ziz(h0:0<=y)(h1:y<W^n):yt W (yS W n x y) 98 n=y:=by
 rw[zeG hW n λi hi=>zl6 n x y hW hi,A2 h0 h1]
end
theorem zis{w:Nat}(hw:1<w)(M:Mem)(a b c:Cel)(ha:a.1≠115/\a.1≠116)(hb:b.1≠115/\b.1≠116)(hc:c.1≠115/\c.1≠116)(hz:M 122 0=0)
  (a0:0<=rd M a/\rd M a<2^w) (b0:0<=rd M b/\rd M b<2^w) (c0:0<=rd M c/\rd M c<2^w):
  (∀d j,d≠115->d≠116->(d≠109 \/ j≠1)->(yh (2^w) (yak a b c) M 0).1 d j=M d j)/\(yh (2^w) (yak a b c) M 0).2=0/\(yh (2^w) (yak a b c) M 0).1 109 1=(tb w (rd M a)+tb w (rd M b))%2*((tb w (rd M a)+tb w (rd M c))%2):=by
 have hW:(0:Int)<2^w:=A4 (by lia);have hW4:(4:Int)<=2^w:=by
  have h:(2:Nat)^2<=2^w:=A9 (by lia) (by lia);have h2:=pw w;lia
 have x1:=zjn a0.1 a0.2 b0.1 b0.2;have x2:=zjn a0.1 a0.2 c0.1 c0.2;have t1:=zpt (by lia:0<w) x1.1 x1.2 x2.1 x2.2;rw[zkZ (by lia) a0.1 a0.2 b0.1 b0.2,zkZ (by lia) a0.1 a0.2 c0.1 c0.2]at t1;let⟨a1,a2⟩:=a;let⟨b1,b2⟩:=b;let⟨c1,c2⟩:=c;erw[rd]at *;have m1:=Aq (tb w (M a1 a2)+tb w (M b1 b2)) (show (2:Int)≠0 by decide);have m2:=Ai (tb w (M a1 a2)+tb w (M b1 b2)) (show (0:Int)<2 by decide);have m3:=Aq (tb w (M a1 a2)+tb w (M c1 c2)) (show (2:Int)≠0 by decide);have m4:=Ai (tb w (M a1 a2)+tb w (M c1 c2)) (show (0:Int)<2 by decide);have hr:0<=(tb w (M a1 a2)+tb w (M b1 b2))%2*((tb w (M a1 a2)+tb w (M c1 c2))%2)/\(tb w (M a1 a2)+tb w (M b1 b2))%2*((tb w (M a1 a2)+tb w (M c1 c2))%2)<=1:=by
  rcases (by lia:(tb w (M a1 a2)+tb w (M b1 b2))%2=0 \/ (tb w (M a1 a2)+tb w (M b1 b2))%2=1)with e|e<;>rw[e]<;>lia
 generalize (tb w (M a1 a2)+tb w (M b1 b2))%2*((tb w (M a1 a2)+tb w (M c1 c2))%2)=v at *;have n1:¬(c1=116):=hc.2;have n2:¬(a1=116):=ha.2;erw[yak,yh,stepM,rd,wr,upd,cS,cT,cZ,n1,n2,De,false_and,if_false,and_self,if_true,hz,DA];unfold tb at t1;rw[t1];refine⟨λd j h1 h2 h3=>?_,?_,?_⟩
 .simp only[h1,h2,false_and,if_false];rw[if_neg (by lia)]
 .exact BJ (by lia) (by lia)
 .rw[D4];exact A2 (by lia) (by lia)
theorem zme{X:Fl}{v:PV}{st:SO}(h:ybz [] X=.ok v []):ybz st X=.ok v st:=by
 cases X with
 |rt u s=>
  erw[ybz]at h ⊢
  by_cases c:nL u=AB
  .rw[if_pos c]at h ⊢;cases h;rfl
  .rw[if_neg c]at h;cases h
 |nx ρ s=>erw[ybz]at h ⊢;cases h;rfl
 |_=>cases h
theorem zcB{k f:Nat}{fn:IC.Fn}{args:List PV}{v:PV}(hT:T f=AA fn)(hp:fn.pure=AB)(hl:args.length=fn.np)(hn:nLs args=AB)(h:yc T (k+1) f args []=.ok v [])(st:SO):yc T (k+1) f args st=.ok v st:=by
 rw[zc hT hp hl hn]at h ⊢;exact zme h
def ybp(W:Int):List Rw->Mem->Int->Prop
 |[],_,_=>True
 |r::rs,M,k=>(∀t x,r=.half t x->0<=rd M x/\rd M x<W/\0<=k/\k<2)/\ybp W rs (stepM W M k r).1 (stepM W M k r).2
noncomputable def rnA:Css:=match yJ.body with
 |.cons (.for _ _ b) _=>b
 |x=>x
noncomputable def rnB:Css:=match yJ.body with
 |.cons _ (.cons (.for _ _ b) _)=>b
 |x=>x
theorem rnS:yJ.body=.cons (.for (.n 2) (.seq (.var 1)) rnA) (.cons (.for (.n 2) (.seq (.var 1)) rnB) .nil):=rfl
theorem zkq(r:Rw):nLs [yP r]=true:=by cases r<;>rfl
section
variable {m l n:Nat}
theorem zc6(k:Nat){v:Option PV}(st:SO):∀(rs:List Rw),(∀r∈rs,yc T (k+1) zaf [yP r] []=.ok .non [])->∀p2,∃q2,ybf (yc T (k+1)) (.n 2) rnA (rs.map yP) [AA (.loc m),v,p2] st=.nx [AA (.loc m),v,q2] st
 |[],h,p2=>⟨p2,by rw[Ak,zM]⟩
 |r::rs,h,p2=>by
  let⟨q2,e⟩:=zc6 k (v:=v) st rs (λq hq=>h q (AV _ hq)) (AA (yP r));have e1:=zcB (f:=zaf) (fn:=zar) rfl rfl rfl (zkq r) (h r (by simp)) st;refine⟨q2,?_⟩;rw[AL,zE (ρ1:=[AA (.loc m),v,AA (yP r)]) rfl];generalize yP r=row at *;have hb:exs (yc T (k+1)) [AA (.loc m),v,AA row] st rnA=.nx [AA (.loc m),v,AA row] st:=by
   simp! [rnA,yJ,e1]
  rw[hb];exact e
theorem zhi(k:Nat)(hn:n<=100)(hn1:1<=n){v:Option PV}:∀(rs:List Rw) (M:Mem) (mk:Int) (st:SO) (L:Nat) (p2:Option PV),MM st m l n M mk L->L+rs.length<999999->ybp (2^n) rs M mk ->
  ∃st' q2,MM st' m l n (yh (2^n) rs M mk).1 (yh (2^n) rs M mk).2 (L+rs.length)/\(∀q,q≠m->q≠l->st'[q]?=st[q]?)/\st'.length=st.length/\ybf (yc T (k+6)) (.n 2) rnB (rs.map yP) [AA (.loc m),v,p2] st=.nx [AA (.loc m),v,q2] st'
 |[],M,mk,st,L,p2,h,hL,hh=>⟨st,p2,h,λ_ _ _=>rfl,rfl,by rw[Ak,zM]⟩
 |r::rs,M,mk,st,L,p2,h,hL,hh=>by
  erw[AX]at hL;let⟨s1,h1,o1,l1,e1⟩:=zpp k h (by lia) hn hn1 r hh.1;let⟨s2,q2,h2,o2,l2,e2⟩:=zhi k hn hn1 (v:=v) rs _ _ s1 (L+1) (AA (yP r)) h1 (by lia) hh.2;refine⟨s2,q2,?_,λq a b=>(o2 q a b).trans (o1 q a b),l2.trans l1,?_⟩
  .rw[yh,AX,show L+(rs.length+1)=L+1+rs.length by lia];exact h2
  .have ih:=h.ins (AF "go_row");rw[AL,zE (ρ1:=[AA (.loc m),v,AA (yP r)]) rfl];generalize yP r=row at *;have hb:exs (yc T (k+6)) [AA (.loc m),v,AA row] st rnB=.nx [AA (.loc m),v,AA row] s1:=by
    simp! [rnB,yJ,ih,e1,IC.ve37]
   rw[hb];exact e2
theorem zj0(k:Nat)(hn:n<=100)(hn1:1<=n){rs:List Rw}{M:Mem}{mk:Int}{st:SO}{L:Nat}(h:MM st m l n M mk L)(hL:L+rs.length<999999)(hh:ybp (2^n) rs M mk)(hA:∀r∈rs,yc T (k+6) zaf [yP r] []=.ok .non []):
  okM (yc T (k+7) zaY [.loc m,.tp AC (rs.map yP)] st) st m l n (yh (2^n) rs M mk).1 (yh (2^n) rs M mk).2 (L+rs.length):=by
 have hT:T zaY=AA ⟨2,3,AC,yJ.body⟩:=rfl;let⟨q2,e1⟩:=zc6 (m:=m) (k+5) (v:=AA (.tp AC (rs.map yP))) st rs hA AD;let⟨s2,q3,h2,o2,l2,e2⟩:=zhi k hn hn1 (v:=AA (.tp AC (rs.map yP))) rs M mk st L q2 h hL hh;refine⟨s2,h2,o2,l2,?_⟩;rw[zr hT rfl rfl];show outI (exs (yc T (k+6)) [AA (.loc m),AA (.tp AC (rs.map yP)),AD] st yJ.body)=_;rw[rnS,xs_cons,x_for];generalize rs.map yP=rows at *;simp! [e1,e2];rfl
theorem zhy:([97,98,99,100,109].all λc=>(CS 9).all λi=>isOk (yc T 8 zba [.str ⟨#[c]⟩,.int (i:Nat)] []) (yac c (i:Nat)))=true:=by decide +kernel
theorem known(k:Nat){c i:Nat}(hc:c∈[97,98,99,100,109])(hi:i<9)(st:SO):yc T (8+k) zba [.str ⟨#[c]⟩,.int (i:Int)] st=.ok (yac c i) st:=by
 have h:=Bc.1 zhy c hc;have h:=Bc.1 h i (by simpa using hi);have h:=zaw (zdt h) k;rw[show 8+k=7+k+1 by lia]at h ⊢;exact zcB (f:=zba) (fn:=za3) rfl rfl rfl rfl h st
theorem yeG(k:Nat){st:SO}{L:Nat}{w mk:Int}{M:Mem}(h:MM st m l w M mk L){c i:Nat}(hc:c∈[97,98,99,100,109])(hi:i<9):yc T (9+k) zZ [.loc m,.str ⟨#[c]⟩,.int (i:Int)] st=.ok (.int (M c i)) st:=by
 have hT:T zZ=AA zal:=rfl;have e1:=known k hc hi st;have e2:yc T (8+k) zx [.loc m,yac c i] st=.ok (.int (M c i)) st:=by
  rw[show 8+k=7+k+1 by lia];exact zeD (7+k) h (c,(i:Int))
 have ih:=h.ins (AF "held_in");rw[show 9+k=8+k+1 by lia,zr hT rfl rfl];generalize yac c i=q at *;simp! [zal,ih,e1,e2,zbI,IC.ve37]
theorem zfl(k:Nat)(v lo hi:Int)(h1:lo<=v)(h2:v<=hi)(st:SO):yc T (k+1) zaO [.int v,.int lo,.int hi] st=.ok (.bl AB) st:=by
 have hT:T zaO=AA zaB:=rfl;rw[zc hT rfl rfl rfl];have e1:ya2 (.int v) [.int]=AA (.bl AB):=rfl;have e2:ya2 (.int v) [.bool]=AA (.bl AC):=rfl;simp! [zaB,e1,e2,decide_eq_true h1,decide_eq_true h2];rfl
theorem yhd(k:Nat)(hn:n<=100){st:SO}{L:Nat}{mk:Int}{M:Mem}(h:MM st m l n M mk L)(hL:L<999999){c i:Nat}(hc:c∈[97,98,99,100,109])(hi:i<9){v:Int}(v0:0<=v)(v1:v<2^n):
  okM (yc T (9+k) zcl [.loc m,.str ⟨#[c]⟩,.int (i:Int),.int v] st) st m l n (upd M c i v) mk (L+1):=by
 have hT:T zcl=AA zay:=rfl;have e1:=known k hc hi st;have e2:yc T (8+k) zdv [.int n] st=.ok (.int (2^n-1)) st:=by rw[show 8+k=7+k+1 by lia];exact highest (7+k) n hn st
 have e3:yc T (8+k) zaO [.int v,.int 0,.int (2^n-1)] st=.ok (.bl AB) st:=by rw[show 8+k=7+k+1 by lia];exact zfl (7+k) v 0 (2^n-1) v0 (by lia) st
 let⟨s1,d1,⟨o,ho⟩,h1⟩:=h.sd hL (c,(i:Int)) v;refine⟨s1,h1,λq a b=>by rw[ho,AR (BP b)],by simp[ho],?_⟩;have d1:ybm st (.loc l) (yac c i) (.int v)=AA s1:=d1;rw[show 9+k=8+k+1 by lia,zr hT rfl rfl];generalize yac c i=q at *;simp! [zay,e1,h.fw,e2,e3,h.fd,zhT,d1,zax,IC.ve32];rfl
end
theorem ye0{v:PV}:ybT sw v []=[(sw,v)]:=rfl
theorem yec{a v:PV}:ybT sws v [(sw,a)]=[(sw,a),(sws,v)]:=by ac_rfl
theorem yeq{a b v:PV}:ybT smk v [(sw,a),(sws,b)]=[(sw,a),(sws,b),(smk,v)]:=by ac_rfl
theorem yd8(k:Nat)(w:Int)(st:SO):yc T (k+1) zag [.loc st.length,.int w] (st++[.ins cM []])=.ok .non (st++[mob w (st.length+1) 0]++[.dct AB []]):=by
 have hT:T zag=AA zN:=rfl;have g0:(st++[Ob.ins cM []])[st.length]?=AA (.ins cM []):=by simp
 have s1:ybc cM (st++[Ob.ins cM []]) (.loc st.length) sw (.int w)=AA (st++[.ins cM [(sw,.int w)]]):=by
  erw[ybc,g0];rw[if_pos ⟨trivial,by simp⟩,ye0];simp
 have g1:(st++[Ob.ins cM [(sw,.int w)]]++[Ob.dct AB []])[st.length]?=AA (.ins cM [(sw,.int w)]):=by simp
 have s2:ybc cM (st++[Ob.ins cM [(sw,.int w)]]++[Ob.dct AB []]) (.loc st.length) sws (.loc (st.length+1))=AA (st++[.ins cM [(sw,.int w),(sws,.loc (st.length+1))]]++[.dct AB []]):=by
  erw[ybc,g1];rw[if_pos ⟨trivial,by simp⟩,yec];simp
 have g2:(st++[Ob.ins cM [(sw,.int w),(sws,.loc (st.length+1))]]++[Ob.dct AB []])[st.length]?=AA (.ins cM [(sw,.int w),(sws,.loc (st.length+1))]):=by simp
 have s3:ybc cM (st++[Ob.ins cM [(sw,.int w),(sws,.loc (st.length+1))]]++[Ob.dct AB []]) (.loc st.length) smk (.int 0)=AA (st++[mob w (st.length+1) 0]++[.dct AB []]):=by
  erw[ybc,g2];rw[if_pos ⟨trivial,by simp⟩,yeq];simp[mob]
 have hd:∀(ρ:IC.Env),ev (yc T k) ρ (st++[Ob.ins cM [(sw,.int w)]]) (.dict0 AB)=.ok (.loc (st.length+1)) (st++[Ob.ins cM [(sw,.int w)]]++[.dct AB []]):=λρ=>by
  erw[ev,Af,D5]
 rw[zr hT rfl rfl];erw[zN,xs_cons,zfJ,hd];have hlen:(st++[Ob.ins cM [(sw,.int w)]]).length=st.length+1:=by simp
 simp! [s1,zax,hlen,s2,s3];rfl
theorem ze6(W:Int)(hW:0<W)(x:Int):∀(n a:Nat),(yu n (a:Int) 1).map (λp=>match p with | .int j=>PV.int (x/W^j.toNat%W)|q=>q)=(ye W n (x/W^a)).map .int
 |0,a=>rfl
 |n+1,a=>by
  have h:=ze6 W hW x n (a+1);rw[yu,AL,ye,AL]
  congr 1
  .rw[show ((a:Int)+1)=((a+1:Nat):Int)by lia,h,Ac,BX (Bu (A4 hW))]
theorem znp(n:Nat)(hn:n<=1000):yG .shl (.int 1) (.int (n:Int))=AA (.int (2^n)):=by
 erw[yG,binI];rw[if_pos ⟨by lia,by lia,by decide⟩];simp
theorem zk9(a b:Nat)(ha:a<=1000):yG .mul (.int (a:Int)) (.int (b:Int))=AA (.int ((a*b:Nat):Int)):=by
 have h:yaI (a:Int) (b:Int)=true:=by
  erw[yaI,DH,decide_eq_true_eq];exact .inl (by simp;lia)
 erw[yG,binI,h,if_true];simp
theorem lowest(k:Nat)(x:Int)(w n:Nat)(hw:w<=16)(hn:n<=8)(st:SO):yc T (k+1) zaa [.int x,.int w,.int n] st=.ok (.tp AC ((ye (2^w) n x).map .int)) st:=by
 have hT:T zaa=AA zan:=rfl;have e1:=znp w (by lia);have hr:=zbs n (by lia);have hc:yaq (yc T k) [AD,AA (.int (2^w-1)),AA (.int x),AA (.int w)] (.n 0) (.cst (.bl AB)) (.bin .band (.bin .shr (.var 2) (.bin .mul (.var 3) (.var 0))) (.var 1)) (yu n 0 1) []=.ok ((ye (2^w) n x).map .int) []:=by
  have h:=ze6 (2^w) (A4 (by decide)) x n 0;rw[Ch,EG]at h;rw[<-h];refine zaT _ λp hp=>?_;obtain⟨j,hj,rfl⟩:∃j:Nat,j<n/\p=.int (j:Int):=by
   have:∀(n a:Nat) (p:PV),p∈yu n (a:Int) 1->∃j:Nat,a<=j/\j<a+n/\p=.int (j:Int):=by
    intro n
    induction n with
    |zero=>intro a p h;cases h
    |succ n ih=>
     intro a p h;rw[yu]at h;rcases AO.1 h with rfl|h
     .exact⟨a,AT _,by lia,rfl⟩
     .let⟨j,h1,h2,h3⟩:=ih (a+1) p (by rw[show ((a+1:Nat):Int)=(a:Int)+1 by lia];exact h);exact⟨j,by lia,by lia,h3⟩
   let⟨j,_,h2,h3⟩:=this n 0 p hp;exact⟨j,by lia,h3⟩
  have m1:=zk9 w j (by lia);have s1:yG .shr (.int x) (.int ((w*j:Nat):Int))=AA (.int (x/2^(w*j))):=by
   erw[yG,binI];rw[if_pos (by lia),CG]
  have b1:=band (x/2^(w*j)) (2^w-1);rw[zgo (n:=w) (x/2^(w*j))]at b1;simp! [ybd,m1,s1,b1];rw[CG,<-CB]
 rw[zc hT rfl rfl rfl];simp! [zan,e1,hr,hc];rw[zcw _ (by simp[zS];lia)];have ht:yaA .tuple [] [.lst ((ye (2^w) n x).map .int)]=AA (.tp AC ((ye (2^w) n x).map .int)):=rfl;simp! [ht];simp[ybz,nL,noLocs_ints]
theorem zaC{W:Int}(hW:0<W):∀(n:Nat) (x:Int),∀v∈ye W n x,0<=v/\v<W
 |0,x,v,h=>by cases h
 |n+1,x,v,h=>by
  rw[ye]at h;rcases AO.1 h with rfl|h
  .exact⟨Aq _ (by lia),Ai _ hW⟩
  .exact zaC hW n _ v h
noncomputable def mwB:Css:=match yE.body with
 |.cons _ (.cons (.for _ _ b) _)=>b
 |x=>x
noncomputable def mwC:Css:=match mwB with
 |.cons (.for _ _ b) _=>b
 |x=>x
section
variable {m l n:Nat}
theorem zfX(k:Nat)(hn:n<=100){c:Nat}(hc:c∈[97,98,99,100,109]){p0 p1 p2 p3 p6:Option PV}:∀(ws:List Int) (i:Nat) (M:Mem) (st:SO) (L:Nat) (p7 p8:Option PV),(∀v∈ws,0<=v/\v<2^n)->i+ws.length<=9->MM st m l n M 0 L->L+ws.length<999999 ->
  ∃st' q7 q8,MM st' m l n (yaK c i ws M) 0 (L+ws.length)/\(∀q,q≠m->q≠l->st'[q]?=st[q]?)/\st'.length=st.length /\
   ybf (yc T (9+k)) (.t [7,8]) mwC (yL i (ws.map .int)) [p0,p1,p2,p3,AA (.loc m),AA (.str ⟨#[c]⟩),p6,p7,p8] st=.nx [p0,p1,p2,p3,AA (.loc m),AA (.str ⟨#[c]⟩),p6,q7,q8] st'
 |[],i,M,st,L,p7,p8,hv,hi,h,hL=>⟨st,p7,p8,h,λ_ _ _=>rfl,rfl,by rw[Ak,yL,zM]⟩
 |v::ws,i,M,st,L,p7,p8,hv,hi,h,hL=>by
  erw[AX]at hi hL;let⟨v0,v1⟩:=hv v (by simp);let⟨s1,h1,o1,l1,e1⟩:=yhd k hn h (by lia) hc (i:=i) (by lia) v0 v1;let⟨s2,q7,q8,h2,o2,l2,e2⟩:=zfX k hn hc (p0:=p0) (p1:=p1) (p2:=p2) (p3:=p3) (p6:=p6) ws (i+1) (upd M c i v) s1 (L+1) (AA (.int i)) (AA (.int v)) (λu hu=>hv u (AV _ hu)) (by lia) h1 (by lia);refine⟨s2,q7,q8,?_,λq a b=>(o2 q a b).trans (o1 q a b),l2.trans l1,?_⟩
  .rw[yaK,AX,show L+(ws.length+1)=L+1+ws.length by lia];exact h2
  .have ih:=h.ins (AF "put");have bt:yR (.t [7,8]) (.tup [.int (i:Int),.int v]) [p0,p1,p2,p3,AA (.loc m),AA (.str ⟨#[c]⟩),p6,p7,p8]=AA [p0,p1,p2,p3,AA (.loc m),AA (.str ⟨#[c]⟩),p6,AA (.int i),AA (.int v)]:=rfl;rw[AL,yL,zE bt];have hb:exs (yc T (9+k)) [p0,p1,p2,p3,AA (.loc m),AA (.str ⟨#[c]⟩),p6,AA (.int i),AA (.int v)] st mwC=.nx [p0,p1,p2,p3,AA (.loc m),AA (.str ⟨#[c]⟩),p6,AA (.int i),AA (.int v)] s1:=by
    simp! [mwC,mwB,yE,ih,e1,IC.ve37]
   rw[hb];exact e2
end
theorem zfp(k:Nat)(w n:Nat)(hw:w<=16)(hn:n<=8)(x y:Int)(st:SO):
  ∃st' m l,st.length<=m/\st.length<=l/\MM st' m l w (yS (2^w) n x y) 0 (2*n)/\(∀q,q<st.length->st'[q]?=st[q]?)/\yc T (10+k) zaN [.int w,.int n,.int x,.int y] st=.ok (.loc m) st':=by
 have hT:T zaN=AA ⟨4,9,AC,yE.body⟩:=rfl;have e1:yc T (9+k) zag [.loc st.length,.int w] (st++[.ins cM []])=.ok .non (st++[mob w (st.length+1) 0]++[.dct AB []]):=by rw[show 9+k=8+k+1 by lia];exact yd8 (8+k) w st
 obtain⟨s1,hs1⟩:∃s1,s1=st++[mob w (st.length+1) 0]++[.dct AB []]:=⟨_,rfl⟩;rw[<-hs1]at e1;have h1:MM s1 st.length (st.length+1) w M0 0 0:=by
  rw[hs1];exact⟨by simp,⟨[],by simp,λp hp=>(by cases hp),λc i=>rfl,by simp⟩,by lia⟩
 have eA:∀s,yc T (9+k) zaa [.int x,.int w,.int n] s=.ok (.tp AC ((ye (2^w) n x).map .int)) s:=λs=>by rw[show 9+k=8+k+1 by lia];exact lowest (8+k) x w n hw hn s
 have eB:∀s,yc T (9+k) zaa [.int y,.int w,.int n] s=.ok (.tp AC ((ye (2^w) n y).map .int)) s:=λs=>by rw[show 9+k=8+k+1 by lia];exact lowest (8+k) y w n hw hn s
 have lA:=zS (2^w) n x;have lB:=zS (2^w) n y;let⟨s2,q7,q8,h2,o2,l2,f2⟩:=zfX k (by lia) (c:=97) (by simp) (p0:=AA (.int w)) (p1:=AA (.int n)) (p2:=AA (.int x)) (p3:=AA (.int y)) (p6:=AA (.int x)) (ye (2^w) n x) 0 M0 s1 0 AD AD (zaC (A4 (by decide)) n x) (by lia) h1 (by lia);let⟨s3,r7,r8,h3,o3,l3,f3⟩:=zfX k (by lia) (c:=98) (by simp) (p0:=AA (.int w)) (p1:=AA (.int n)) (p2:=AA (.int x)) (p3:=AA (.int y)) (p6:=AA (.int y)) (ye (2^w) n y) 0 _ s2 _ q7 q8 (zaC (A4 (by decide)) n y) (by lia) h2 (by lia);refine⟨s3,st.length,st.length+1,AT _,by lia,?_,λq hq=>?_,?_⟩
 .rw[show 2*n=0+(ye (2^w) n x).length+(ye (2^w) n y).length by lia];exact h3
 .rw[o3 q (by lia) (by lia),o2 q (by lia) (by lia),hs1,BB,Am hq]
 .have hb:yE.body=(match yE.body with
   |.cons a (.cons (.for t i _) r)=>.cons a (.cons (.for t i mwB) r)
   |x=>x):=rfl
  have hc:mwB=(match mwB with
   |.cons (.for t i _) r=>.cons (.for t i mwC) r
   |x=>x):=rfl
  have bt:∀(a b:PV) (p4 p5 p6 p7 p8:Option PV),yR (.t [5,6]) (.tp AC [a,b]) [AA (.int w),AA (.int n),AA (.int x),AA (.int y),p4,p5,p6,p7,p8]=AA [AA (.int w),AA (.int n),AA (.int x),AA (.int y),p4,AA a,AA b,p7,p8]:=λ_ _ _ _ _ _ _=>rfl;have cA:(AF "a")=⟨#[97]⟩:=by ac_rfl
  have cB:(AF "b")=⟨#[98]⟩:=by ac_rfl
  have g1:exs (yc T (9+k)) [AA (.int w),AA (.int n),AA (.int x),AA (.int y),AA (.loc st.length),AA (.str ⟨#[97]⟩),AA (.int x),AD,AD] s1 mwB=.nx [AA (.int w),AA (.int n),AA (.int x),AA (.int y),AA (.loc st.length),AA (.str ⟨#[97]⟩),AA (.int x),q7,q8] s2:=by
   rw[hc];simp! [mwB,yE,eA,f2]
  have g2:exs (yc T (9+k)) [AA (.int w),AA (.int n),AA (.int x),AA (.int y),AA (.loc st.length),AA (.str ⟨#[98]⟩),AA (.int y),q7,q8] s2 mwB=.nx [AA (.int w),AA (.int n),AA (.int x),AA (.int y),AA (.loc st.length),AA (.str ⟨#[98]⟩),AA (.int y),r7,r8] s3:=by
   rw[hc];simp! [mwB,yE,eB,f3]
  have ag:∀(ρ:IC.Env) (s:SO) (k:IC.Env->SO->Fl),yaG (.nx ρ s) k=k ρ s:=λ_ _ _=>rfl;rw[show 10+k=9+k+1 by lia,zr hT rfl rfl];dsimp only;rw[hb];simp! [yE,e1,ybE,newV,hs1.symm,cA,cB,zE (bt _ _ _ _ _ _ _),zM,g1,g2,ag,zbI,IC.ve33]
noncomputable def getM(M:Mem)(c:Nat):Nat->Nat->List Int
 |_,0=>[]
 |a,n+1=>M c a::getM M c (a+1) n
theorem zc4(k:Nat){m l L:Nat}{w mk:Int}{M:Mem}{st:SO}(h:MM st m l w M mk L){c:Nat}(hc:c∈[97,98,99,100,109])(n:Nat)(hn:n<=8):
  yc T (10+k) zaD [.loc m,.str ⟨#[c]⟩,.int n] st=.ok (.tp AC ((getM M c 0 n).map .int)) st:=by
 have hT:T zaD=AA ⟨3,3,AC,yaw.body⟩:=rfl;have hr:=zbs n (by lia);have ih:=h.ins (AF "word");have hl:∀(n a:Nat),(getM M c a n).length=n:=by
  intro n
  induction n with
  |zero=>intro a;rfl
  |succ n ihn=>intro a;simp[getM,ihn]
 have hcm:∀(n a:Nat),a+n<=9->yaq (yc T (9+k)) [AD,AA (.str ⟨#[c]⟩),AA (.loc m)] (.n 0) (.cst (.bl AB)) (.mcl cM zZ (AF "word") (.var 2) (.cons (.var 1) (.cons (.var 0) .nil))) (yu n (a:Int) 1) st=.ok ((getM M c a n).map .int) st:=by
  intro n
  induction n with
  |zero=>intro a _;rw[yu,zbk];rfl
  |succ n ihn=>
   intro a ha;have e:=yeG k h hc (i:=a) (by lia);have one:ybd (yc T (9+k)) [AD,AA (.str ⟨#[c]⟩),AA (.loc m)] (.n 0) (.cst (.bl AB)) (.mcl cM zZ (AF "word") (.var 2) (.cons (.var 1) (.cons (.var 0) .nil))) (.int (a:Int)) st=.ok (AA (.int (M c a))) st:=by
    simp! [ybd,ih,e,IC.ve37]
   have q:=ihn (a+1) (by lia);rw[yu,zL,one,bd_ok,show ((a:Int)+1)=((a+1:Nat):Int)by lia,q,bd_ok];rfl
 have hcm:=hcm n 0 (by lia);have ht:yaA .tuple st [.lst ((getM M c 0 n).map .int)]=AA (.tp AC ((getM M c 0 n).map .int)):=rfl;rw[show 10+k=9+k+1 by lia,zr hT rfl rfl];have hcm:yaq (yc T (9+k)) [AD,AA (.str ⟨#[c]⟩),AA (.loc m)] (.n 0) (.cst (.bl AB)) (.mcl cM zZ (AF "word") (.var 2) (.cons (.var 1) (.cons (.var 0) .nil))) (yu n 0 1) st=_:=hcm;simp! [yaw,hr,hcm];rw[zcw _ (by simp[hl];lia)];simp! [ht,zbI]
theorem zgm(k:Nat)(x:Int)(w n:Nat)(hw:w<=16)(hn:n<=8)(x0:0<=x)(x1:x<2^(w*n))(st:SO):yc T (k+2) zbl [.int x,.int w,.int n] st=.ok (.tp AC ((ye (2^w) n x).map .int)) st:=by
 have hT:T zbl=AA zby:=rfl;have hwn:w*n<=1000:=by
  have:w*n<=16*8:=Aj hw hn;lia
 have m1:=zk9 w n (by lia);have s1:=znp (w*n) hwn;have e1:∀s,yc T (k+1) zaa [.int x,.int w,.int n] s=_:=λs=>lowest k x w n hw hn s;have c1:decide (x<0)=false:=decide_eq_false (by lia);have c2:decide ((2:Int)^(w*n)<=x)=false:=decide_eq_false (by lia);rw[zc hT rfl rfl rfl];generalize hL:ye (2^w) n x=ws at *;simp! [zby,c1,m1,s1,c2,e1];simp[ybz,nL,noLocs_ints]
structure yb0(pr:Prop)(qb:Bool)(deed:PV)(w n na:Nat)(rs:List Rw):Prop where
 nl:nL deed=AB
 isd:yc T 20 zb2 [deed] []=.ok (.bl AB) []
 isp:pr->yc T 20 zK [deed] []=.ok (.bl AB) []
 quo:∀st,(idxV st deed (.int 0)).bind (λv=>yN .isin v zac)=AA (.bl qb)
 rows:yc T 20 zaZ [deed,.int w,.int n] []=.ok (.tp AC (rs.map yP)) []
 ref:∀r∈rs,yc T 20 zaf [yP r] []=.ok .non []
 ans:yc T 20 zw [deed,.int n] []=.ok (.int na) []
 rest:yc T 20 zbd [deed,.int n] []=.ok (.int (if qb=AB then n else 0:Nat)) []
theorem zfG(k:Nat){pr:Prop}{qb:Bool}{deed:PV}{w n na:Nat}{rs:List Rw}(D:yb0 pr qb deed w n na rs)(hw:w<=16)(hn:n<=8){x y:Int}(x0:0<=x)(x1:x<2^(w*n))(y0:0<=y)(y1:y<2^(w*n))(hp:y≠0->pr)(hq:y=0->qb=AC)(st:SO):
  yc T (21+k) zcn [deed,.int w,.int n,.int x,.int y] st=.ok .non st:=by
 have hT:T zcn=AA zah:=rfl;have hnl:nLs [deed,.int w,.int n,.int x,.int y]=true:=by simp[nLs,D.nl,nL]
 have e1:=zaw D.isd k;have e3:∀s,yc T (20+k) zbl [.int x,.int w,.int n] s=.ok (.tp AC ((ye (2^w) n x).map .int)) s:=λs=>by rw[show 20+k=18+k+2 by lia];exact zgm (18+k) x w n hw hn x0 x1 s
 have e4:∀s,yc T (20+k) zbl [.int y,.int w,.int n] s=.ok (.tp AC ((ye (2^w) n y).map .int)) s:=λs=>by rw[show 20+k=18+k+2 by lia];exact zgm (18+k) y w n hw hn y0 y1 s
 rw[show 21+k=20+k+1 by lia,zc hT rfl rfl hnl];have q:=D.quo []
 cases hi:idxV [] deed (.int 0)with
 |none=>rw[hi]at q;cases q
 |some v=>
  rw[hi,B3]at q;generalize ye (2^w) n x=xs at *;generalize ye (2^w) n y=ys at *
  cases hy:(y==0)with
  |true=>
   rw[hq (by simpa using hy)]at q;simp! [zah,e1,e3,e4,hy,hi,q];rfl
  |false=>
   have e2:=zaw (D.isp (hp (by intro h;rw[h]at hy;exact absurd hy (by decide)))) k;simp! [zah,e1,e2,e3,e4,hy];rfl
theorem ran(k:Nat){pr:Prop}{qb:Bool}{deed:PV}{w n na:Nat}{rs:List Rw}(D:yb0 pr qb deed w n na rs)(hw:w<=16)(hw1:1<=w)(hn:n<=4)(hna:na<=8)(hrs:rs.length<5000){x y:Int}(x0:0<=x)(x1:x<2^(w*n))(y0:0<=y)(y1:y<2^(w*n))(hp:y≠0->pr)(hq:y=0->qb=AC)(hh:ybp (2^w) rs (yS (2^w) n x y) 0)(st:SO):
  yc T (22+k) zox [deed,.int w,.int n,.int x,.int y] st=.ok (.tp AC [.tp AC ((getM (yh (2^w) rs (yS (2^w) n x y) 0).1 99 0 na).map .int),.tp AC ((getM (yh (2^w) rs (yS (2^w) n x y) 0).1 100 0 (if qb=AB then n else 0)).map .int),.tp AC ((getM (yh (2^w) rs (yS (2^w) n x y) 0).1 109 0 4).map .int)]) st:=by
 have hT:T zox=AA ⟨5,7,AB,ycu.body⟩:=rfl;have hnl:nLs [deed,.int w,.int n,.int x,.int y]=true:=by simp[nLs,D.nl,nL]
 have e1:=zfG k D hw (by lia) x0 x1 y0 y1 hp hq [];let⟨s2,m,l,_,_,h2,_,e2⟩:=zfp (11+k) w n hw (by lia) x y [];have e2:yc T (21+k) zaN [.int w,.int n,.int x,.int y] []=.ok (.loc m) s2:=by rw[show 21+k=10+(11+k)by lia];exact e2
 have nl3:nLs [deed,.int w,.int n]=true:=by simp[nLs,D.nl,nL]
 have nl2:nLs [deed,.int n]=true:=by simp[nLs,D.nl,nL]
 have up:∀{f:Nat} {fn:IC.Fn} {args:List PV} {v:PV},T f=AA fn->fn.pure=AB->args.length=fn.np->nLs args=AB->yc T 20 f args []=.ok v []->∀s,yc T (21+k) f args s=.ok v s:=λ{f fn args v} a b c d e s=>by
  have:=zaw e (1+k);rw[show 20+(1+k)=20+k+1 by lia]at this;rw[show 21+k=20+k+1 by lia];exact zcB a b c d this s
 have e3:=up (f:=zaZ) (fn:=zaF) rfl rfl rfl nl3 D.rows s2;let⟨s4,h4,_,_,e4⟩:=zj0 (14+k) (n:=w) (by lia) hw1 h2 (rs:=rs) (by lia) hh (λr hr=>by
  have:=zaw (D.ref r hr) k;rw[show 20+k=14+k+6 by lia]at this;exact this)
 have e4:yc T (21+k) zaY [.loc m,.tp AC (rs.map yP)] s2=.ok .non s4:=by rw[show 21+k=14+k+7 by lia];exact e4
 have e5:=up (f:=zw) (fn:=z8) rfl rfl rfl nl2 D.ans s4;have e6:=up (f:=zbd) (fn:=zap) rfl rfl rfl nl2 D.rest s4;have n1:yc T (21+k) zaD [.loc m,.str ⟨#[99]⟩,.int na] s4=.ok (.tp AC ((getM (yh (2^w) rs (yS (2^w) n x y) 0).1 99 0 na).map .int)) s4:=by
  have:=zc4 (11+k) h4 (c:=99) (by simp) na hna;rw[show 10+(11+k)=21+k by lia]at this;exact this
 have n2:yc T (21+k) zaD [.loc m,.str ⟨#[100]⟩,.int (if qb=AB then n else 0:Nat)] s4=.ok (.tp AC ((getM (yh (2^w) rs (yS (2^w) n x y) 0).1 100 0 (if qb=AB then n else 0)).map .int)) s4:=by
  have:=zc4 (11+k) h4 (c:=100) (by simp) (if qb=AB then n else 0) (by split<;>lia);rw[show 10+(11+k)=21+k by lia]at this;exact this
 have n3:yc T (21+k) zaD [.loc m,.str ⟨#[109]⟩,.int 4] s4=.ok (.tp AC ((getM (yh (2^w) rs (yS (2^w) n x y) 0).1 109 0 4).map .int)) s4:=by
  have:=zc4 (11+k) h4 (c:=109) (by simp) 4 (by lia);rw[show 10+(11+k)=21+k by lia]at this;exact this
 have ih:=h2.ins (AF "run");have cC:(AF "c")=⟨#[99]⟩:=by ac_rfl
 have cD:(AF "d")=⟨#[100]⟩:=by ac_rfl
 have cE:(AF "m")=⟨#[109]⟩:=by ac_rfl
 have vM:zcJ=.int 4:=rfl;rw[show 22+k=21+k+1 by lia,zc hT rfl rfl hnl];dsimp only;generalize rs.map yP=rows at *;generalize getM (yh (2^w) rs (yS (2^w) n x y) 0).1 99 0 na=A at *;generalize getM (yh (2^w) rs (yS (2^w) n x y) 0).1 109 0 4=B at *;generalize getM (yh (2^w) rs (yS (2^w) n x y) 0).1 100 0 (if qb=AB then n else 0)=C at *;generalize (if qb=AB then n else 0)=nr at *;simp! [ycu,e1,e2,ih,e3,e4,e5,e6,cC,cD,cE,vM,n1,n2,n3,IC.ve37];simp[ybz,nL,nLs,noLocs_ints]
theorem letters:((CS 26).all λj=>isOk (yc T 2 zbP [.str (chS (97+j))] []) (.bl AB))=true:=by decide +kernel
theorem zg8(k:Nat){c:Nat}(h1:97<=c)(h2:c<=122)(s:SO):yc T (k+2) zbP [.str (chS c)] s=.ok (.bl AB) s:=by
 have h:=Bc.1 letters (c-97) (by simp;lia);rw[show 97+(c-97)=c by lia]at h;have h:=zaw (zdt h) k;rw[show 2+k=k+1+1 by lia]at h;exact zcB (f:=zbP) (fn:=zbM) rfl rfl rfl rfl h s
theorem zeS(k:Nat){i a b:Int}(h1:a<=i)(h2:i<=b)(s:SO):yc T (k+1) zaO [.int i,.int a,.int b] s=.ok (.bl AB) s:=by
 have hT:T zaO=AA zaB:=rfl;have e1:ya2 (.int i) [.int]=AA (.bl AB):=rfl;have e2:ya2 (.int i) [.bool]=AA (.bl AC):=rfl;have c1:decide (a<=i)=true:=decide_eq_true h1;have c2:decide (i<=b)=true:=decide_eq_true h2;rw[zc hT rfl rfl rfl];simp! [zaB,e1,e2,c1,c2,IC.ve9];rfl
theorem zjv(k:Nat){x:Cel}(h1:97<=x.1)(h2:x.1<=122)(h3:0<=x.2)(h4:x.2<=99)(s:SO):yc T (k+4) ze0 [yH x] s=.ok (.bl AB) s:=by
 have hT:T ze0=AA zcg:=rfl;have hT2:T zb1=AA zaA:=rfl;have el:∀s,yc T (k+3) zb1 [yH x] s=.ok (.bl AB) s:=λs=>by
  have e:=λs=>zg8 k h1 h2 s;rw[zc hT2 rfl rfl rfl];have e1:ya2 (yH x) [.tuple]=AA (.bl AB):=rfl;have e2:∀st,yaA .len st [yH x]=AA (.int 2):=λ_=>rfl;have e3:∀st,idxV st (yH x) (.int 0)=AA (.str (chS x.1)):=λ_=>rfl;generalize yH x=v at *;simp! [zaA,e1,e2,e3,e];rfl
 have ew:=λs=>zeS (k+2) h3 h4 s;have e3:∀st,idxV st (yH x) (.int 1)=AA (.int x.2):=λ_=>rfl;rw[zc hT rfl rfl rfl];generalize yH x=v at *;simp! [zcg,el,e3,ew];rfl
noncomputable abbrev kC:PV:=.str "cell"
noncomputable abbrev kF:PV:=.str "figure"
theorem zmU(k:Nat){x:Cel}(h1:97<=x.1)(h2:x.1<=122)(h3:0<=x.2)(h4:x.2<=99)(s:SO):yc T (k+5) zG [kC,yH x,.bl AC] s=.ok (.bl AB) s:=by
 have hT:T zG=AA zae:=rfl;have e:=λs=>zjv k h1 h2 h3 h4 s;have c:yN .eq kC kF=AA (.bl AC):=by ac_rfl
 have hnl:nLs [kC,yH x,.bl AC]=true:=rfl;rw[zc hT rfl rfl hnl];generalize yH x=v at *;simp! [zae,c,e];rfl
theorem zlg(k:Nat){d:Int}(h1:0<=d)(h2:d<=1)(s:SO):yc T (k+5) zG [kF,.int d,.bl AC] s=.ok (.bl AB) s:=by
 have hT:T zG=AA zae:=rfl;have e:=λs=>zeS (k+3) h1 h2 s;have c:yN .eq kF kF=AA (.bl AB):=by ac_rfl
 rw[zc hT rfl rfl rfl];simp! [zae,c,e];rfl
noncomputable def hfB:Css:=match yaa.body with
 |.cons _ (.cons (.for _ _ b) _)=>b
 |x=>x
theorem zhW(k:Nat){p0 p1:PV}(hp1:p1=.bl AC){st:SO}:∀(l:List (PV×PV)) (p2 p3:Option PV),(∀x∈l,∀s,yc T k zG [x.1,x.2,.bl AC] s=.ok (.bl AB) s) ->
  ∃q2 q3,ybf (yc T k) (.t [2,3]) hfB (l.map λx=>.tp AC [x.1,x.2]) [AA p0,AA p1,p2,p3] st=.nx [AA p0,AA p1,q2,q3] st
 |[],p2,p3,_=>⟨p2,p3,zM⟩
 |(a,b)::l,p2,p3,h=>by
  subst hp1;let⟨q2,q3,e⟩:=zhW k (p0:=p0) rfl (st:=st) l (AA a) (AA b) (λx hx=>h x (by simp[hx]));refine⟨q2,q3,?_⟩;have e1:=h (a,b) (by simp) st;have one:exs (yc T k) [AA p0,AA (.bl AC),AA a,AA b] st hfB=.nx [AA p0,AA (.bl AC),AA a,AA b] st:=by
   simp only at e1;simp! [hfB,yaa,e1]
  rw[AL,zE (ρ1:=[AA p0,AA (.bl AC),AA a,AA b]) rfl,one];exact e
theorem zhS(k:Nat){nm:AS}{ops:List PV}(ho:nLs ops=AB)(hl:0<(.str nm::ops:List PV).length)(hd:ycD zat (.str nm)=AA (.bl AB))(s:SO):yc T (k+1) zcs [.tp AC (.str nm::ops)] s=.ok (.bl AB) s:=by
 have hT:T zcs=AA zbv:=rfl;have hnl:nLs [.tp AC (.str nm::ops)]=true:=by simp[nLs,nL,ho]
 have e1:ya2 (.tp AC (.str nm::ops)) [.tuple]=AA (.bl AB):=rfl;have e2:∀st,yaA .len st [.tp AC (.str nm::ops)]=AA (.int ((.str nm::ops:List PV).length:Nat)):=λ_=>rfl;have e3:∀st,idxV st (.tp AC (.str nm::ops)) (.int 0)=AA (.str nm):=λ_=>ix0;have e4:ya2 (.str nm) [.str]=AA (.bl AB):=rfl;have c:decide (((.str nm::ops:List PV).length:Int) > 0)=true:=decide_eq_true (by lia);rw[zc hT rfl rfl hnl];generalize (PV.str nm::ops).length=L at *;generalize PV.tp AC (.str nm::ops)=v at *;simp! [zbv,e1,e2,e3,e4,c,hd,IC.ve29];rfl
theorem zf9:∀l:List (PV×PV),yaX (l.map (·.1)) (l.map (·.2))=l.map λx=>.tp AC [x.1,x.2]
 |[]=>rfl
 |(a,b)::l=>by erw[AL,yaX,zf9 l,PV.tup]
theorem zid(k:Nat){nm:AS}(l:List (PV×PV))(hd:ycD zat (.str nm)=AA (.bl AB))(hr:ycS zat (.str nm)=AA (.tp AB (l.map (·.1))))(ho:∀x∈l,∀s,yc T (k+1) zG [x.1,x.2,.bl AC] s=.ok (.bl AB) s)(hnl:nLs (l.map (·.2))=AB)
  (ht:yN .ne (.str nm) (.str "times")=AA (.bl AB)) (s:SO):yc T (k+2) zcu [.tp AC (.str nm::l.map (·.2)),.bl AC] s=.ok (.bl AB) s:=by
 have hT:T zcu=AA yaa:=rfl;have hn2:nLs [.tp AC (.str nm::l.map (·.2)),.bl AC]=true:=by simp[nLs,nL,hnl]
 have e0:∀st,yc T (k+1) zcs [.tp AC (.str nm::l.map (·.2))] st=.ok (.bl AB) st:=λst=>zhS k hnl (by simp) hd st;have e1:∀st,yaA .len st [.tp AC (.str nm::l.map (·.2))]=AA (.int ((l.length+1:Nat):Int)):=λst=>by
  show AA (PV.int (((PV.str nm::l.map (·.2)).length:Nat):Int))=_;simp
 have e2:∀st,idxV st (.tp AC (.str nm::l.map (·.2))) (.int 0)=AA (.str nm):=λ_=>ix0;have e3:∀st,yaA .len st [.tp AB (l.map (·.1))]=AA (.int (l.length:Nat)):=λst=>by
  show AA (PV.int (((l.map (·.1)).length:Nat):Int))=_;simp
 have c1:((((l.length+1:Nat):Int)==(l.length:Int)+1):Bool)=true:=by simp
 have o1:ycg (.int 1)=AA (AA 1):=rfl;have e5:yc3 (.tp AC (.str nm::l.map (·.2))) (AA 1) .non=AA (.tp AC (l.map (·.2))):=by
  have hc:ybt (l.length+1) 1=1:=by simp[ybt]
  erw[yc3,ycg,ycF,cut,ycN,ydc,AX,Ap,hc,List.drop_succ_cons,Gx]
  first
  |(rw[DV (by simp)];done)
  |(simp;done)
  |(simp[DV])
 have e6:yd5 (.tp AB (l.map (·.1))) (.tp AC (l.map (·.2)))=AA (l.map λx=>.tp AC [x.1,x.2]):=by
  simp[yd5,zf9]
 let⟨q2,q3,e7⟩:=zhW (k+1) (p0:=.tp AC (.str nm::l.map (·.2))) (p1:=.bl AC) rfl (st:=[]) l AD AD ho
 have hb:yaa.body=(match yaa.body with
  |.cons a (.cons (.for t i _) r)=>.cons a (.cons (.for t i hfB) r)
  |x=>x):=rfl
 rw[zc hT rfl rfl hn2];rw[hb];generalize hv:PV.tp AC (.str nm::l.map (·.2))=v at *;generalize hz:(l.map λx=>PV.tp AC [x.1,x.2])=zs at *;generalize PV.tp AB (l.map (·.1))=ks at *;simp! [yaa,e0,e1,e2,hr,e3,c1,e5,e6,e7,ht,o1,onP];rfl
def yO(x:Cel):Prop:=97<=x.1/\x.1<=122/\0<=x.2/\x.2<=99
def yau:Rw->Prop
 |.mark d=>0<=d/\d<=1
 |.ask x=>yO x
 |.set t d=>yO t/\0<=d/\d<=1
 |.move t x | .bare t x | .twice t x | .half t x=>yO t/\yO x
 |.sum t x y | .less t x y | .both t x y | .any t x y | .odd t x y=>yO t/\yO x/\yO y
theorem zce{r:PV}{nm:AS}(l:List (PV×PV))(hr:r=.tp AC (.str nm::l.map (·.2)))(hd:ycD zat (.str nm)=AA (.bl AB))(hx:ycS zat (.str nm)=AA (.tp AB (l.map (·.1))))(ho:∀x∈l,∀k s,yc T (k+5) zG [x.1,x.2,.bl AC] s=.ok (.bl AB) s)(hnl:nLs (l.map (·.2))=AB)
  (ht:yN .ne (.str nm) (.str "times")=AA (.bl AB)):ybF r:=λk s=>by
 have hT:T zbz=AA zcR:=rfl;have e:∀s,yc T (9+k) zcu [r,.bl AC] s=.ok (.bl AB) s:=λs=>by
  subst hr;rw[show 9+k=7+k+2 by lia];exact zid (7+k) l hd hx (λx hx s=>by rw[show 7+k+1=3+k+5 by lia];exact ho x hx (3+k) s) hnl ht s
 have hn2:nLs [r]=true:=by subst hr;simp[nLs,nL,hnl]
 rw[show 10+k=9+k+1 by lia,zc hT rfl rfl hn2];simp! [zcR,e];rfl
theorem oC{x:Cel}(h:yO x)(k:Nat)(s:SO):yc T (k+5) zG [kC,yH x,.bl AC] s=.ok (.bl AB) s:=zmU k h.1 h.2.1 h.2.2.1 h.2.2.2 s
theorem ygl{nm:AS}{x:Cel}(h:yO x)(hd:ycD zat (.str nm)=AA (.bl AB))(hx:ycS zat (.str nm)=AA (.tp AB [kC]))(ht:yN .ne (.str nm) (.str "times")=AA (.bl AB)):ybF (.tp AC [.str nm,yH x]):=
 zce [(kC,yH x)] rfl hd hx (λa ha=>by erw[AO,A8,or_false]at ha;subst ha;exact oC h) rfl ht
theorem row2{nm:AS}{t x:Cel}(h0:yO t)(h:yO x)(hd:ycD zat (.str nm)=AA (.bl AB))(hx:ycS zat (.str nm)=AA (.tp AB [kC,kC]))(ht:yN .ne (.str nm) (.str "times")=AA (.bl AB)):ybF (.tp AC [.str nm,yH t,yH x]):=
 zce [(kC,yH t),(kC,yH x)] rfl hd hx (λa ha=>by erw[AO,A8,or_false]at ha;rcases ha with rfl|rfl;exact oC h0;exact oC h) rfl ht
theorem ydf{nm:AS}{t x y:Cel}(h0:yO t)(h:yO x)(h2:yO y)(hd:ycD zat (.str nm)=AA (.bl AB))(hx:ycS zat (.str nm)=AA (.tp AB [kC,kC,kC]))(ht:yN .ne (.str nm) (.str "times")=AA (.bl AB)):ybF (.tp AC [.str nm,yH t,yH x,yH y]):=
 zce [(kC,yH t),(kC,yH x),(kC,yH y)] rfl hd hx (λa ha=>by erw[AO,A8,or_false]at ha;rcases ha with rfl|rfl|rfl;exact oC h0;exact oC h;exact oC h2) rfl ht
theorem zgp:∀r,yau r->ybF (yP r)
 |.mark d,h=>zce [(kF,.int d)] rfl (by ac_rfl) (by ac_rfl) (λa ha=>by erw[AO,A8,or_false]at ha;subst ha;exact λk s=>zlg k h.1 h.2 s) rfl (by ac_rfl)
 |.ask x,h=>ygl h (by ac_rfl) (by ac_rfl) (by ac_rfl)
 |.set t d,h=>zce [(kC,yH t),(kF,.int d)] rfl (by ac_rfl) (by ac_rfl) (λa ha=>by erw[AO,A8,or_false]at ha;rcases ha with rfl|rfl;exact oC h.1;exact λk s=>zlg k h.2.1 h.2.2 s) rfl (by ac_rfl)
 |.move t x,h=>row2 h.1 h.2 (by ac_rfl) (by ac_rfl) (by ac_rfl)
 |.bare t x,h=>row2 h.1 h.2 (by ac_rfl) (by ac_rfl) (by ac_rfl)
 |.twice t x,h=>row2 h.1 h.2 (by ac_rfl) (by ac_rfl) (by ac_rfl)
 |.half t x,h=>row2 h.1 h.2 (by ac_rfl) (by ac_rfl) (by ac_rfl)
 |.sum t x y,h=>ydf h.1 h.2.1 h.2.2 (by ac_rfl) (by ac_rfl) (by ac_rfl)
 |.less t x y,h=>ydf h.1 h.2.1 h.2.2 (by ac_rfl) (by ac_rfl) (by ac_rfl)
 |.both t x y,h=>ydf h.1 h.2.1 h.2.2 (by ac_rfl) (by ac_rfl) (by ac_rfl)
 |.any t x y,h=>ydf h.1 h.2.1 h.2.2 (by ac_rfl) (by ac_rfl) (by ac_rfl)
 |.odd t x y,h=>ydf h.1 h.2.1 h.2.2 (by ac_rfl) (by ac_rfl) (by ac_rfl)
theorem zlN{v:PV}(hn:nL v=AB)(h:ybF v)(k:Nat)(s:SO):yc T (11+k) zaf [v] s=.ok .non s:=by
 have hT:T zaf=AA zar:=rfl;have e:=λs=>h k s;rw[show 11+k=10+k+1 by lia,zc hT rfl rfl (by simp[nLs,hn])];simp! [zar,e];rfl
def ybU(W:Int)(M:Mem):Prop:=∀c i,0<=M c i/\M c i<W
noncomputable def rwD:Rw->Prop
 |.mark d | .set _ d=>0<=d/\d<=1
 |_=>True
theorem zbf{W:Int}{M:Mem}(h:ybU W M){t:Cel}{v:Int}(h0:0<=v)(h1:v<W):ybU W (wr M t v):=λc i=>by
 erw[wr,upd];split
 .exact⟨h0,h1⟩
 .exact h c i
theorem zhO{W s:Int}(hW:0<W)(h0:0<=s)(h1:s<2*W):(0<=s%W/\s%W<W)/\0<=s/W/\s/W<=1:=
 ⟨⟨Aq _ (by lia),Ai _ hW⟩,C0 h0 (by lia),by have:=Bi hW (show s<2*W from h1);lia⟩
theorem zgJ{w:Nat}(hw:1<=w){M:Mem}{k:Int}(h:ybU (2^w) M)(k0:0<=k)(k1:k<=1):∀r,rwD r->ybU (2^w) (stepM (2^w) M k r).1/\0<=(stepM (2^w) M k r).2/\(stepM (2^w) M k r).2<=1:=by
 obtain⟨H,hH⟩:∃H:Int,(2:Int)^w=2*H:=⟨2^(w-1),by obtain⟨v,rfl⟩:∃v,w=v+1:=⟨w-1,by lia⟩;rw[Ac,Ae];rfl⟩;have hW:(0:Int)<2^w:=A4 (by lia);have R:∀x:Cel,0<=rd M x/\rd M x<2^w:=λx=>h x.1 x.2;intro r hr
 cases r with
 |mark d=>exact⟨h,hr⟩
 |ask x=>exact⟨h,zab _⟩
 |set t d=>exact⟨zbf h hr.1 (by have:=hr.2;lia),k0,k1⟩
 |move t x=>exact⟨zbf h (R x).1 (R x).2,k0,k1⟩
 |bare t x=>exact⟨zbf h (by have:=(R x).2;lia) (by have:=(R x).1;lia),k0,k1⟩
 |twice t x=>
  let⟨a,b⟩:=zhO hW (s:=2*rd M x+k) (by have:=(R x).1;lia) (by have:=(R x).2;lia);exact⟨zbf h a.1 a.2,b⟩
 |half t x=>
  let⟨a,b⟩:=R x;have e:(2:Int)^w/2=H:=by lia
  refine⟨zbf h ?_ ?_,by show 0<=rd M x%2;lia,by show rd M x%2<=1;lia⟩
  .rw[e];rcases (by lia:k=0 \/ k=1)with rfl|rfl<;>lia
  .rw[e];rcases (by lia:k=0 \/ k=1)with rfl|rfl<;>lia
 |sum t x y=>
  let⟨a,b⟩:=zhO hW (s:=rd M x+rd M y+k) (by have:=(R x).1;have:=(R y).1;lia) (by have:=(R x).2;have:=(R y).2;lia);exact⟨zbf h a.1 a.2,b⟩
 |less t x y=>exact⟨zbf h (Aq _ (by lia)) (Ai _ hW),zab _⟩
 |both t x y=>
  let⟨a,b⟩:=zpj (w:=w) (R x).1 (R y).1 (R y).2;exact⟨zbf h a b,k0,k1⟩
 |any t x y=>
  let⟨a,b⟩:=zom (w:=w) (R x).1 (R x).2 (R y).1 (R y).2;exact⟨zbf h a b,k0,k1⟩
 |odd t x y=>
  let⟨a,b⟩:=zjn (w:=w) (R x).1 (R x).2 (R y).1 (R y).2;exact⟨zbf h a b,k0,k1⟩
theorem zgx{w:Nat}(hw:1<=w):∀(rs:List Rw) (M:Mem) (k:Int),(∀r∈rs,rwD r)->ybU (2^w) M->0<=k->k<=1->ybp (2^w) rs M k
 |[],M,k,_,h,_,_=>trivial
 |r::rs,M,k,hr,h,k0,k1=>by
  let⟨a,b,c⟩:=zgJ hw h k0 k1 r (hr r (by simp));exact⟨λt x _=>⟨(h x.1 x.2).1,(h x.1 x.2).2,k0,by lia⟩,zgx hw rs _ _ (λx hx=>hr x (by simp[hx])) a b c⟩
theorem zeP{W:Int}(c:Nat):∀(ws:List Int) (i:Nat) (M:Mem),(∀v∈ws,0<=v/\v<W)->ybU W M->ybU W (yaK c i ws M)
 |[],i,M,_,h=>h
 |v::ws,i,M,hv,h=>zeP c ws (i+1) _ (λu hu=>hv u (by simp[hu])) (zbf (t:=(c,(i:Int))) h (hv v (by simp)).1 (hv v (by simp)).2)
theorem zhu{w:Nat}(hw:1<=w):∀(rs:List Rw) (M:Mem) (k:Int),(∀r∈rs,rwD r)->ybU (2^w) M->0<=k->k<=1->ybU (2^w) (yh (2^w) rs M k).1
 |[],M,k,_,h,_,_=>h
 |r::rs,M,k,hr,h,k0,k1=>by
  let⟨a,b,c⟩:=zgJ hw h k0 k1 r (hr r (by simp));exact zhu hw rs _ _ (λx hx=>hr x (by simp[hx])) a b c
theorem zjj{W:Int}(hW:0<W)(n:Nat)(x y:Int):ybU W (yS W n x y):=
 zeP 98 _ _ _ (zaC hW n y) (zeP 97 _ _ _ (zaC hW n x) λ_ _=>⟨by simp[M0],by simpa [M0] using hW⟩)
def sgd(T x:Int):Int:=if T<=2*x then x-T else x
def yeC(T s:Int):Bool:=decide (0-T<=2*s)&&decide (2*s<T)
noncomputable def yce(W:Int)(f:Nat->Int):Nat->Int
 |0=>0
 |n+1=>yce W f n+f n*W^n
theorem zeL{W:Int}(M:Mem)(k:Int)(f:Int->Rw)(g:Int->Int)(hf:∀(M1:Mem) (i:Int),(∀d j,d≠99->M1 d j=M d j)->stepM W M1 k (f i)=(wr M1 (99,i) (g i),k)):∀n:Nat,
  (yh W (yC f n) M k).2=k/\(∀d j,d≠99->(yh W (yC f n) M k).1 d j=M d j)/\∀i:Nat,i<n->(yh W (yC f n) M k).1 99 i=g i
 |0=>⟨rfl,λ_ _ _=>rfl,λi hi=>by lia⟩
 |n+1=>by
  let⟨h1,h2,h3⟩:=zeL M k f g hf n;rw[yC,zh];generalize yh W (yC f n) M k=R at *;let⟨M1,k'⟩:=R;simp only at *;subst h1;erw[yh,hf M1 n h2];refine⟨trivial,λd j hd=>?_,λi hi=>?_⟩
  .simp only[wr,upd];rw[if_neg (by lia),h2 d j hd]
  .simp only[wr,upd]
   by_cases hin:i=n
   .subst hin;rw[if_pos ⟨trivial,rfl⟩]
   .rw[if_neg (by lia)];exact h3 i (by lia)
theorem zkC{w:Nat}(hw:1<w){n:Nat}(M:Mem)(f:Int->Rw)(g:Int->Int)(hf:∀(M1:Mem) (i:Int),(∀d j,d≠99->M1 d j=M d j)->stepM (2^w) M1 0 (f i)=(wr M1 (99,i) (g i),0))(hg:∀i:Nat,i<n+1->0<=g i/\g i<2^w)(zo:M 122 0=0)(m0:M 109 0=0)(m1:M 109 1=0):
  yt (2^w) (yh (2^w) (yC f (n+1)++yo (n+1)) M 0).1 99 (n+1)=yce (2^w) (λi=>g i) (n+1)/\(yh (2^w) (yC f (n+1)++yo (n+1)) M 0).1 109 0=0/\(yh (2^w) (yC f (n+1)++yo (n+1)) M 0).1 109 1=0 /\
  (yh (2^w) (yC f (n+1)++yo (n+1)) M 0).1 109 2=bi (yce (2^w) (λi=>g i) (n+1)==0)/\(yh (2^w) (yC f (n+1)++yo (n+1)) M 0).1 109 3=bi (decide ((2^w:Int)^(n+1)<=2*yce (2^w) (λi=>g i) (n+1))):=by
 let⟨h1,h2,h3⟩:=zeL (W:=2^w) M 0 f g hf (n+1);rw[zh];generalize yh (2^w) (yC f (n+1)) M 0=R at *;let⟨M1,k'⟩:=R;simp only at *;have dc:Dg (2^w) M1 99 (n+1):=λi hi=>by rw[h3 i hi];exact hg i hi
 have hv:∀m,m<=n+1->yt (2^w) M1 99 m=yce (2^w) (λi=>g i) m:=by
  intro m
  induction m with
  |zero=>intro _;rfl
  |succ m ih=>intro hm;rw[yt,yce,ih (by lia),h3 m (by lia)]
 let⟨e1,e2,e3,e4,e5⟩:=zcd hw M1 k' dc (by rw[h2 122 0 (by decide),zo]);rw[zd (M':=M1) (c':=99) _ λi hi=>e1 i,e2,e3,e4,e5,hv _ (AT _),h2 109 0 (by decide),h2 109 1 (by decide),m0,m1];exact⟨rfl,rfl,rfl,rfl,rfl⟩
def yV(n:Nat):List Rw:=yC (λi=>.move (99,i) (97,i)) n
noncomputable def yx(body:List Rw):Nat->List Rw
 |0=>[]
 |s+1=>yx body s++body
def twiceRows(n:Nat):List Rw:=yC (λj=>.twice (99,j) (99,j)) n
def yD(n:Nat):List Rw:=yC (λj=>.half (99,(n:Int)-1-j) (99,(n:Int)-1-j)) n
def yaF(n:Nat):Rw:=.twice cT (99,(n:Int)-1)
def yX(s n:Nat):List Rw:=yV n++yx (.mark 0::yD n) s++[.sum (109,0) cZ cZ]++yo n
def yal(s n:Nat):List Rw:=yV n++yx (yaF n::yD n) s++[.sum (109,0) cZ cZ]++yo n
theorem zcI(f:Int->Rw):∀n:Nat,yC f (n+1)=f 0::yC (λj=>f (j+1)) n
 |0=>rfl
 |n+1=>by
  rw[yC,zcI f n,yC,Aw];rfl
theorem zdH{H:Int}(hH:1<=H):∀(n:Nat) (M:Mem) (k:Int),0<=k->k<=1->Dg (2*H) M 99 n ->
  (∀d j,(d≠99 \/ (n:Int)<=j)->(yh (2*H) (yD n) M k).1 d j=M d j)/\Dg (2*H) (yh (2*H) (yD n) M k).1 99 n/\0<=(yh (2*H) (yD n) M k).2/\(yh (2*H) (yD n) M k).2<=1/\2*yt (2*H) (yh (2*H) (yD n) M k).1 99 n+(yh (2*H) (yD n) M k).2=yt (2*H) M 99 n+k*(2*H)^n
 |0,M,k,k0,k1,_=>⟨λ_ _ _=>rfl,λi hi=>by lia,k0,k1,by simp[yt,yD,yC,yh]⟩
 |n+1,M,k,k0,k1,ha=>by
  have e:yD (n+1)=.half (99,n) (99,n)::yD n:=by
   unfold yD;rw[zcI]
   congr 1
   .rw[show ((n+1:Nat):Int)-1-0=n by lia]
   .congr 1
    funext j
    rw[show ((n+1:Nat):Int)-1-(j+1)=(n:Int)-1-j by lia]
  let⟨a0,a1⟩:=ha n (by lia);rw[e,zm];erw[stepM,rd,wr];rw[show 2*H/2=H by lia];generalize hA:M 99 (n:Int)=A at *;have q0:0<=A/2:=by lia
  have hkH:k*H=0 \/ k*H=H:=by
   rcases (by lia:k=0 \/ k=1)with rfl|rfl
   .left;lia
   .right;lia
  have hM:∀i:Nat,i<n->upd M 99 (n:Int) (A/2+k*H) 99 i=M 99 i:=λi hi=>by unfold upd;rw[if_neg (by lia)]
  let⟨h1,h2,h3,h4,h5⟩:=zdH hH n (upd M 99 (n:Int) (A/2+k*H)) (A%2) (by lia) (by lia) (λi hi=>by rw[hM i hi];exact ha i (by lia));generalize yh (2*H) (yD n) (upd M 99 (n:Int) (A/2+k*H)) (A%2)=R at *;let⟨M1,k'⟩:=R;simp only at *;have hn1:M1 99 n=A/2+k*H:=by
   rw[h1 99 n (.inr (by lia))];unfold upd;rw[if_pos ⟨rfl,rfl⟩]
  refine⟨λd j hd=>?_,λi hi=>?_,h3,h4,?_⟩
  .rw[h1 d j (by lia)];unfold upd;rw[if_neg (by lia)]
  .by_cases hin:i=n
   .subst hin;rw[hn1];lia
   .exact h2 i (by lia)
  .rw[zd (M':=M) (c':=99) n hM]at h5;rw[yt,yt,hn1,hA,Ac];generalize (2*H)^n=P at *;have e1:A*P=A%2*P+2*(A/2*P):=by
    have:A=A%2+2*(A/2):=by lia
    conv=>lhs;rw[this]
    rw[BL,Ad]
   have e2:(A/2+k*H)*P=A/2*P+k*(H*P):=by rw[BL,Ad]
   have e3:k*(P*(2*H))=2*(k*(H*P)):=by
    rw[Ae P,Ad 2 H P,<-Ad k 2,Ae k 2,Ad]
   rw[e1,e2,e3];generalize A%2*P=X1 at *;generalize A/2*P=X2 at *;generalize k*(H*P)=X3 at *;lia
structure Shf(W:Int)(n:Nat)(M0 M:Mem)(v:Int):Prop where
 dg:Dg W M 99 n
 val:yt W M 99 n=v
 keep:∀d j,d≠99->d≠116->M d j=M0 d j
theorem zf0{W:Int}(hW:0<W){n:Nat}{x y:Int}(x0:0<=x)(x1:x<W^n):(yh W (yV n) (yS W n x y) 0).2=0/\Shf W n (yS W n x y) (yh W (yV n) (yS W n x y) 0).1 x:=by
 have da:=zgc n x y hW;let⟨h1,h2,h3⟩:=zeL (W:=W) (yS W n x y) 0 (λi=>.move (99,i) (97,i)) (λi=>yS W n x y 97 i) (λM1 i h=>by erw[stepM,rd,h 97 i (by decide)]) n;refine⟨h1,⟨λi hi=>?_,?_,λd j hd _=>h2 d j hd⟩⟩
 .have:=h3 i hi;unfold yV;rw[this];exact da i hi
 .exact(zd (M':=yS W n x y) (c':=97) n λi hi=>h3 i hi).trans (zgD n x y hW x0 x1)
theorem zi8{H:Int}(hH:1<=H){n:Nat}{M0 M:Mem}{k v:Int}(h:Shf (2*H) n M0 M v):∃M' k',yh (2*H) (.mark 0::yD n) M k=(M',k')/\0<=k'/\k'<=1/\Shf (2*H) n M0 M' (v/2)/\k'=v%2:=by
 let⟨h1,h2,h3,h4,h5⟩:=zdH hH n M 0 (by lia) (by lia) h.dg;have hs0:stepM (2*H) M k (.mark 0)=(M,0):=rfl;rw[zm,hs0];rw[h.val,Bm,DA]at h5;simp only;refine⟨_,_,rfl,h3,h4,⟨h2,by lia,λd j hd ht=>by rw[h1 d j (.inl hd),h.keep d j hd ht]⟩,by lia⟩
theorem zeT{w:Nat}(hw:1<w){n:Nat}{M0 M:Mem}{k v:Int}(h:Shf (2^w) (n+1) M0 M v)(k0:0<=k)(k1:k<=1)(zo:M0 122 0=0)(m1:M0 109 1=0):
  yt (2^w) (yh (2^w) (.sum (109,0) cZ cZ::yo (n+1)) M k).1 99 (n+1)=v/\(yh (2^w) (.sum (109,0) cZ cZ::yo (n+1)) M k).1 109 0=k/\(yh (2^w) (.sum (109,0) cZ cZ::yo (n+1)) M k).1 109 1=0 /\
  (yh (2^w) (.sum (109,0) cZ cZ::yo (n+1)) M k).1 109 2=bi (v==0)/\(yh (2^w) (.sum (109,0) cZ cZ::yo (n+1)) M k).1 109 3=bi (decide ((2^w:Int)^(n+1)<=2*v)):=by
 have hW4:(4:Int)<=2^w:=by
  have h:(2:Nat)^2<=2^w:=A9 (by lia) (by lia);have h2:=pw w;lia
 have z1:M 122 0=0:=by rw[h.keep 122 0 (by decide) (by decide),zo]
 have hs:stepM (2^w) M k (.sum (109,0) cZ cZ)=(wr M (109,0) k,0):=by
  erw[stepM,rd,cZ,z1];rw[show (0:Int)+0+k=k by lia,A2 k0 (by lia),BJ k0 (by lia)]
 rw[zm,hs];have g2:∀d j,(d≠109 \/ j≠0)->wr M (109,0) k d j=M d j:=λd j h=>by
  erw[wr,upd];rw[if_neg (by lia)]
 have g3:wr M (109,0) k 109 0=k:=by simp[wr,upd]
 generalize wr M (109,0) k=M2 at *;have dc:Dg (2^w) M2 99 (n+1):=λi hi=>by rw[g2 99 i (.inl (by decide))];exact h.dg i hi
 have hv:yt (2^w) M2 99 (n+1)=v:=by rw[<-h.val];exact zd _ λi hi=>g2 99 i (.inl (by decide))
 let⟨e1,e2,e3,e4,e5⟩:=zcd hw M2 0 dc (by rw[g2 122 0 (.inl (by decide)),z1]);rw[zd (M':=M2) (c':=99) _ λi hi=>e1 i,e2,e3,e4,e5,hv,g3,g2 109 1 (.inr (by decide)),h.keep 109 1 (by decide) (by decide),m1];exact⟨rfl,rfl,rfl,rfl,rfl⟩
theorem zdJ{H:Int}(hH:1<=H){n:Nat}{M0 M:Mem}{x:Int}(h:Shf (2*H) n M0 M x):∀s:Nat,∃M' k',yh (2*H) (yx (.mark 0::yD n) s) M 0=(M',k')/\0<=k'/\k'<=1/\Shf (2*H) n M0 M' (x/2^s)/\k'=if s=0 then 0 else x/2^(s-1)%2
 |0=>⟨M,0,rfl,by lia,by lia,by rw[Ch,EG];exact h,rfl⟩
 |s+1=>by
  let⟨M1,k1,e1,a0,a1,h1,_⟩:=zdJ hH h s;let⟨M2,k2,e2,b0,b1,h2,q⟩:=zi8 hH (k:=k1) h1;refine⟨M2,k2,?_,b0,b1,?_,?_⟩
  .rw[yx,zh,e1];exact e2
  .have:x/2^s/2=x/2^(s+1):=by
    rw[Ac,BX (Bu (A4 (by lia)))]
   rw[<-this];exact h2
  .rw[if_neg (by lia),q];rfl
noncomputable def cx(l:Nat)(c i j m:Int):Op:=.cel ⟨l,c,i,j,m⟩
noncomputable def rS(nm:String)(ops:List Op):Rs:=⟨AF nm,ops⟩
def oZ:Op:=cx 122 0 0 0 0
def oS:Op:=cx 115 0 0 0 0
def oT:Op:=cx 116 0 0 0 0
def oM(i:Int):Op:=cx 109 i 0 0 0
def ya3(c m:Int):List T1:=[.row (rS "set" [oS,.fig 0]),.rounds c m 0 [.row (rS "any" [oS,oS,cx 99 0 1 0 0])],.row (rS "ask" [oS]),.row (rS "set" [oM 2,.fig 1]),.row (rS "less" [oM 2,oM 2,oZ]),.row (rS "twice" [oT,cx 99 (c-1) 0 0 m]),.row (rS "sum" [oM 3,oZ,oZ])]
def ybs:T1:=.rounds 0 1 0 [.row (rS "move" [cx 99 0 1 0 0,cx 97 0 1 0 0])]
def twiceT:T2:=.rounds 0 1 0 [rS "twice" [cx 99 0 0 1 0,cx 99 0 0 1 0]]
def ya8:T2:=.rounds 0 1 0 [rS "half" [cx 99 (-1) 0 (-1) 1,cx 99 (-1) 0 (-1) 1]]
def yaP:T2:=.row (rS "mark" [.fig 0])
def ycz:T2:=.row (rS "twice" [oT,cx 99 (-1) 0 0 1])
def yaW:T1:=.row (rS "sum" [oM 0,oZ,oZ])
def ycc(s:Int):List T1:=[ybs,.rounds s 0 0 [yaP,ya8],yaW]++ya3 0 1
def ycM(s:Int):List T1:=[ybs,.rounds s 0 0 [ycz,ya8],yaW]++ya3 0 1
theorem zbB{g:Nat->List PV}{f:Int->Rw}(h:∀I:Nat,g I=[yP (f I)]):∀n,upTo g n=(yC f n).map yP
 |0=>rfl
 |n+1=>by rw[upTo,yC,zbB h n,h n,B2];rfl
theorem zgI{g:Nat->List PV}{b:List Rw}(h:∀I:Nat,g I=b.map yP):∀s,upTo g s=(yx b s).map yP
 |0=>rfl
 |s+1=>by rw[upTo,yx,zgI h s,h s,B2]
theorem zaJ(w:Int)(n:Nat):cnt 0 1 0 w n=n:=by simp[cnt]
theorem zmv(w:Int)(n s:Nat):cnt s 0 0 w n=s:=by simp[cnt]
theorem zpw(I:Nat)(n:Int):(rS "any" [oS,oS,cx 99 0 1 0 0]).pv I 0 n=yP (.any cS cS (99,I)):=by simp[Rs.pv,rS,Op.pv,oS,cx,Cx.at,yP,yH]
theorem zeb(w:Int)(n:Nat):yI w n (ya3 0 1)=(yo n).map yP:=by
 have h:=zbB (g:=λI=>yam w n I [.row (rS "any" [oS,oS,cx 99 0 1 0 0])]) (f:=λi=>.any cS cS (99,i)) (λI=>by simp[yam,T2.rows,zpw]) n;erw[yI,ya3,BY,Bq,T1.rows,zaJ,h,yo,B2,AL,Ak,BD];simp[Rs.pv,rS,Op.pv,oS,oT,oZ,oM,cx,Cx.at,yP,yH,Int.sub_eq_add_neg,Cy]
theorem zhX(w:Int)(n:Nat):T1.rows w n ybs=(yV n).map yP:=by
 unfold ybs yV;rw[T1.rows,zaJ];exact zbB (λI=>by simp[yam,T2.rows,Rs.pv,rS,Op.pv,cx,Cx.at,yP,yH]) n
theorem zja(w:Int)(n I:Nat):T2.rows w n I ya8=(yD n).map yP:=by
 unfold ya8 yD;rw[T2.rows,zaJ];refine zbB (λJ=>?_) n;have:(-1:Int)+0*(I:Int)+-1*(J:Int)+1*(n:Int)=(n:Int)-1-J:=by lia
 erw[AL,Ak,Rs.pv,rS,Op.pv,cx,Cx.at,yP,yH,this]
theorem zmC(w:Int)(n I:Nat):T2.rows w n I yaP=[yP (.mark 0)]:=by simp[yaP,T2.rows,Rs.pv,rS,Op.pv,yP]
theorem znL(w:Int)(n I:Nat):T2.rows w n I ycz=[yP (yaF n)]:=by
 have:(-1:Int)+0*(I:Int)+0*0+1*(n:Int)=(n:Int)-1:=by lia
 erw[ycz,yaF,T2.rows,Rs.pv,rS,Op.pv,oT,cx,Cx.at,yP,yH,AL,Ak,this];simp
theorem zfV(w:Int)(n:Nat):T1.rows w n yaW=[yP (.sum (109,0) cZ cZ)]:=by simp[yaW,T1.rows,Rs.pv,rS,Op.pv,oM,oZ,cx,Cx.at,yP,yH]
theorem zaH(w n:Int)(a b:List T1):yI w n (a++b)=yI w n a++yI w n b:=by simp[yI]
theorem zki(w n:Int)(a b:List T1):yaS w n (a++b)=yaS w n a+yaS w n b:=by simp[yaS]
theorem zlM(w:Int)(n:Nat):yaS w n (ya3 0 1)=n:=by simp[yaS,ya3,T1.rnd,zaJ,ybn,T2.rnd]
theorem znu{w:Int}{n s:Nat}{p q:T2}{r1:Rw}{r2:List Rw}(h1:∀I:Nat,T2.rows w n I p=[yP r1])(h2:∀I:Nat,T2.rows w n I q=r2.map yP):T1.rows w n (.rounds s 0 0 [p,q])=(yx (r1::r2) s).map yP:=by
 rw[T1.rows,zmv];exact zgI (λI=>by simp[yam,h1,h2]) s
theorem zj3(w:Int)(n s:Nat):yI w n (ycc s)=(yX s n).map yP:=by
 rw[ycc,zaH,zeb];erw[yI,BY,Bq,BD,zhX,zfV,znu (zmC w n) (zja w n),yX,B2,AL,Ak,BB]
theorem zlS(w:Int)(n s:Nat):yI w n (ycM s)=(yal s n).map yP:=by
 rw[ycM,zaH,zeb];erw[yI,BY,Bq,BD,zhX,zfV,znu (znL w n) (zja w n),yal,B2,AL,Ak,BB]
theorem zoK(w:Int)(n s:Nat)(p q:T2)(hp:p=yaP \/ p=ycz)(hq:q=twiceT \/ q=ya8):T1.rnd w n (.rounds s 0 0 [p,q])=s*(1+n):=by
 rcases hp with rfl|rfl<;>rcases hq with rfl|rfl<;>simp[T1.rnd,zmv,ybn,T2.rnd,yaP,ycz,twiceT,ya8,zaJ]
theorem zmV(w:Int)(n s:Nat)(p q:T2)(hp:p=yaP \/ p=ycz)(hq:q=twiceT \/ q=ya8):yaS w n ([ybs,.rounds s 0 0 [p,q],yaW]++ya3 0 1)=n+s*(1+n)+n:=by
 rw[zki,zlM];erw[yaS,AL,Ak,HE,List.sum_nil,zoK w n s p q hp hq];simp[ybs,yaW,T1.rnd,zaJ,ybn,T2.rnd]
theorem zaj(f:Int->Rw)(m:Nat):(yC f m).length=m:=by
 induction m with
 |zero=>rfl
 |succ m ih=>simp[yC,ih]
theorem zca(b:List Rw):∀s,(yx b s).length=s*b.length
 |0=>by simp[yx]
 |s+1=>by rw[yx,Af,zca b s,FM]
theorem zpi{n s:Nat}(hn:n<=4)(hs:s<=100)(r1:Rw)(r2:List Rw)(h2:r2.length=n):(yV n++yx (r1::r2) s++[Rw.sum (109,0) cZ cZ]++yo n).length<=4000/\(yV n++yx (r1::r2) s++yo n).length<=4000:=by
 have:s*(n+1)<=100*5:=Aj hs (by lia);simp[yV,yo,zaj,zca,h2];lia
theorem zoS{W:Int}(M:Mem)(k:Int)(hS:0<=M 115 0):∀n,(∀i:Nat,i<n->0<=M 98 i) ->
  (yh W (upTo (λi=>[Rw.any cS cS (98,i)]) n) M k).2=k/\(∀d j,d≠115->(yh W (upTo (λi=>[Rw.any cS cS (98,i)]) n) M k).1 d j=M d j)/\0<=(yh W (upTo (λi=>[Rw.any cS cS (98,i)]) n) M k).1 115 0/\((yh W (upTo (λi=>[Rw.any cS cS (98,i)]) n) M k).1 115 0=0 ↔ M 115 0=0/\∀i:Nat,i<n->M 98 i=0)
 |0,_=>⟨rfl,λ_ _ _=>rfl,hS,by simp[upTo,yh]⟩
 |n+1,h=>by
  let⟨h1,h2,h3,h4⟩:=zoS (W:=W) M k hS n λi hi=>h i (by lia);rw[upTo,zh];generalize yh W (upTo (λi=>[Rw.any cS cS (98,i)]) n) M k=R at *;let⟨M1,k'⟩:=R;simp only at *;have hb:=h n (by lia);erw[yh,stepM,rd,wr,cS,h2 98 n (by decide)];have hz:=zin h3 hb;refine⟨h1,λd j hd=>?_,?_,?_⟩
  .unfold upd;rw[if_neg (by lia),h2 d j hd]
  .unfold upd;rw[if_pos ⟨rfl,rfl⟩];obtain⟨x,hx⟩:∃x:Nat,M1 115 0=x:=⟨(M1 115 0).toNat,by lia⟩;obtain⟨y,hy⟩:∃y:Nat,M 98 n=y:=⟨(M 98 n).toNat,by lia⟩;rw[hx,hy,zdA];lia
  .unfold upd;rw[if_pos ⟨rfl,rfl⟩,hz,h4];constructor
   .rintro⟨⟨a,b⟩,c⟩
    refine⟨a,λi hi=>?_⟩;rcases C3 i n with z|z
    .exact b i z
    .rw[show i=n by lia];exact c
   .rintro⟨a,b⟩
    exact⟨⟨a,λi hi=>b i (by lia)⟩,b n (by lia)⟩
def nR(n:Nat):List Rw:=[.set cS 0]++upTo (λi=>[Rw.any cS cS (98,i)]) n++[.ask cS,.set (109,0) 1,.less (109,0) (109,0) cZ]
theorem zlc{w:Nat}(hw:1<w)(n:Nat)(M:Mem)(k:Int)(hz:M 122 0=0)(hb:∀i:Nat,i<n->0<=M 98 i):
  ((∀i:Nat,i<n->M 98 i=0)->(yh (2^w) (nR n) M k).1 109 0=1)/\((¬ ∀i:Nat,i<n->M 98 i=0)->(yh (2^w) (nR n) M k).1 109 0=0):=by
 have hW4:(4:Int)<=2^w:=by
  have h:(2:Nat)^2<=2^w:=A9 (by lia) (by lia);have h2:=pw w;lia
 have hst:stepM (2^w) M k (.set cS 0)=(wr M cS 0,k):=rfl;have e:nR n=.set cS 0::(upTo (λi=>[Rw.any cS cS (98,i)]) n++[.ask cS,.set (109,0) 1,.less (109,0) (109,0) cZ]):=by simp[nR]
 have u1:wr M cS 0 115 0=0:=by simp[wr,upd]
 have u2:∀(d:Nat) (j:Int),d≠115->wr M cS 0 d j=M d j:=λd j hd=>by
  erw[wr,upd];rw[if_neg (λz=>hd z.1)]
 let⟨h1,h2,h3,h4⟩:=zoS (W:=2^w) (wr M cS 0) k (by rw[u1];lia) n (λi hi=>by rw[u2 _ _ (by decide)];exact hb i hi);rw[e,zm,hst,zh];simp only at h1 h2 h3 h4 ⊢;generalize yh (2^w) (upTo (λi=>[Rw.any cS cS (98,i)]) n) (wr M cS 0) k=R at *;let⟨M1,k'⟩:=R;simp only at *;have hz1:M1 122 0=0:=by rw[h2 _ _ (by decide),u2 _ _ (by decide),hz]
 have h5:M1 115 0=0 ↔ ∀i:Nat,i<n->M 98 i=0:=by
  rw[h4,u1];constructor
  .rintro⟨_,a⟩ i hi
   rw[<-u2 98 i (by decide)];exact a i hi
  .intro a;exact⟨rfl,λi hi=>by rw[u2 _ _ (by decide)];exact a i hi⟩
 rw[<-h5];erw[yh,stepM,rd,wr,upd,cS,cZ,De,false_and,if_false,and_self,if_true,hz1];constructor
 .intro a;rw[a];show (1-0-0)%(2^w:Int)=1;exact A2 (by lia) (by lia)
 .intro a;have:(M1 115 0==0)=false:=by simpa using a
  rw[this];show (1-0-1)%(2^w:Int)=0;rfl
theorem zbx{W:Int}(hW:0<W){s:Int}(s0:0<=s)(s1:s<2*W):0<=s%W/\s%W<W/\0<=s/W/\s/W<=1/\s%W+s/W*W=s:=by
 have d1:=Aq s (show W≠0 by lia);have d2:=Ai s hW;have d3:=Bw s W;have d4:0<=s/W:=C0 s0 (by lia);have d5:s/W<2:=Bi hW (by lia);rw[Ae]at d3;exact⟨d1,d2,d4,by lia,d3⟩
theorem zcE{W:Int}{M:Mem}{c n:Nat}{v:Int}:yt W (upd M c n v) c (n+1)=yt W M c n+v*W^n:=by
 rw[yt,zd (M':=M) (c':=c) n λi hi=>by unfold upd;rw[if_neg (by lia)]];unfold upd;rw[if_pos ⟨rfl,rfl⟩]
theorem zdV{W:Int}{M:Mem}{c n:Nat}{v:Int}(h:Dg W M c n)(v0:0<=v)(v1:v<W):Dg W (upd M c n v) c (n+1):=λi hi=>by
 unfold upd
 by_cases hin:i=n
 .subst hin;rw[if_pos ⟨rfl,rfl⟩];exact⟨v0,v1⟩
 .rw[if_neg (by lia)];exact h i (by lia)
def twR(c n:Nat):List Rw:=upTo (λJ=>[Rw.twice (c,(J:Int)) (c,(J:Int))]) n
theorem zeI{W:Int}(hW:2<=W)(c:Nat)(M:Mem)(k:Int)(k0:0<=k)(k1:k<=1):∀n,Dg W M c n->∃M' k',yh W (twR c n) M k=(M',k')/\(∀d j,(d≠c \/ (n:Int)<=j)->M' d j=M d j)/\Dg W M' c n/\0<=k'/\k'<=1/\yt W M' c n+k' * W^n=2*yt W M c n+k
 |0,_=>⟨M,k,rfl,λ_ _ _=>rfl,λi hi=>by lia,k0,k1,by simp[yt]⟩
 |n+1,ha=>by
  let⟨M1,k',e1,h1,h2,h3,h4,h5⟩:=zeI hW c M k k0 k1 n ha.mono;let⟨a0,a1⟩:=ha n (by lia);let⟨d1,d2,d3,d4,d5⟩:=zbx (W:=W) (by lia) (s:=2*M c n+k') (by lia) (by lia);refine⟨upd M1 c n ((2*M c n+k')%W),(2*M c n+k')/W,?_,λd j hd=>?_,zdV h2 d1 d2,d3,d4,?_⟩
  .rw[twR,upTo,zh];show yh W [Rw.twice (c,(n:Int)) (c,(n:Int))] (yh W (twR c n) M k).1 (yh W (twR c n) M k).2=_;rw[e1];erw[yh,stepM,rd,wr,h1 c n (.inr (by lia))]
  .unfold upd;rw[if_neg (by lia),h1 d j (by lia)]
  .rw[zcE,yt,Ac];generalize W^n=P at *;generalize (2*M c n+k')%W=u at *;generalize (2*M c n+k')/W=t at *;generalize M c (n:Int)=A at *;have e3:(u+t*W)*P=(2*A+k')*P:=by rw[d5]
   rw[BL,BL,Ad t W P,Ae W P,Ad 2 A P]at e3;generalize u*P=x1 at *;generalize t*(P*W)=x2 at *;generalize A*P=x3 at *;generalize k' * P=x4 at *;lia
def lsR(r y n:Nat):List Rw:=upTo (λJ=>[Rw.less (r,(J:Int)) (r,(J:Int)) (y,(J:Int))]) n
theorem zdh{W:Int}(hW:0<W){s:Int}(s0:-W<=s)(s1:s<W):0<=s%W/\s%W<W/\0<=bi (decide (s<0))/\bi (decide (s<0))<=1/\s%W-bi (decide (s<0))*W=s:=by
 have d1:=Aq s (show W≠0 by lia);have d2:=Ai s hW;refine⟨d1,d2,(zab _).1,(zab _).2,?_⟩
 by_cases hl:s<0
 .rw[decide_eq_true hl,<-Ci];rw[A2 (by lia) (by lia)];show s+W-1*W=s;lia
 .rw[decide_eq_false hl,A2 (by lia) (by lia)];show s-0*W=s;lia
theorem zhY{W:Int}(hW:0<W){r y:Nat}(hry:y≠r)(M:Mem)(k:Int)(k0:0<=k)(k1:k<=1):∀n,Dg W M r n->Dg W M y n->∃M' k',yh W (lsR r y n) M k=(M',k')/\(∀d j,(d≠r \/ (n:Int)<=j)->M' d j=M d j)/\Dg W M' r n/\0<=k'/\k'<=1/\yt W M' r n-k' * W^n=yt W M r n-yt W M y n-k
 |0,_,_=>⟨M,k,rfl,λ_ _ _=>rfl,λi hi=>by lia,k0,k1,by simp[yt]⟩
 |n+1,ha,hb=>by
  let⟨M1,k',e1,h1,h2,h3,h4,h5⟩:=zhY hW hry M k k0 k1 n ha.mono hb.mono;let⟨a0,a1⟩:=ha n (by lia);let⟨b0,b1⟩:=hb n (by lia);let⟨d1,d2,d3,d4,d5⟩:=zdh (W:=W) hW (s:=M r n-M y n-k') (by lia) (by lia);refine⟨upd M1 r n ((M r n-M y n-k')%W),bi (decide (M r n-M y n-k' < 0)),?_,λd j hd=>?_,zdV h2 d1 d2,d3,d4,?_⟩
  .rw[lsR,upTo,zh];show yh W [Rw.less (r,(n:Int)) (r,(n:Int)) (y,(n:Int))] (yh W (lsR r y n) M k).1 (yh W (lsR r y n) M k).2=_;rw[e1];erw[yh,stepM,rd,wr,h1 r n (.inr (by lia)),h1 y n (.inl hry)]
  .unfold upd;rw[if_neg (by lia),h1 d j (by lia)]
  .rw[zcE,yt,yt,Ac];generalize W^n=P at *;generalize (M r n-M y n-k')%W=u at *;generalize bi (decide (M r n-M y n-k' < 0))=t at *;generalize M r (n:Int)=A at *;generalize M y (n:Int)=B at *;have e3:(u-t*W)*P=(A-B-k')*P:=by rw[d5]
   rw[B4,B4,B4,Ad t W P,Ae W P]at e3;generalize u*P=x1 at *;generalize t*(P*W)=x2 at *;generalize A*P=x3 at *;generalize B*P=x5 at *;generalize k' * P=x4 at *;lia
noncomputable abbrev cF:Cel:=(102,0)
def adR(r y n:Nat):List Rw:=upTo (λJ=>[Rw.both cT (y,(J:Int)) cF,Rw.sum (r,(J:Int)) (r,(J:Int)) cT]) n
theorem zhe{w:Nat}{A b:Int}(a0:0<=A)(a1:A<2^w)(hb:b=0 \/ b=1):BH A (b*(2^w-1))=b*A:=by
 obtain⟨x,rfl⟩:∃n:Nat,A=n:=⟨A.toNat,by lia⟩;rcases hb with rfl|rfl
 .rw[Bm,Bm];have:=zdM x 0;simpa using this
 .rw[Bg,Bg];have hp:=pw w;have h1:(0:Nat)<2^w:=F3 (by lia);have h2:((2:Int)^w-1)=((2^w-1:Nat):Int):=by lia
  rw[h2,zdM,Cb,Gc (by lia)]
theorem zht{w:Nat}(hw:1<=w){r y:Nat}(hry:y≠r)(hr:r≠116/\r≠102)(hy:y≠116)(M:Mem)(k b:Int)(k0:0<=k)(k1:k<=1)(hb:b=0 \/ b=1)(hf:M 102 0=b*(2^w-1)):∀n,Dg (2^w) M r n->Dg (2^w) M y n->∃M' k',yh (2^w) (adR r y n) M k=(M',k')/\(∀d j,d≠116->(d≠r \/ (n:Int)<=j)->M' d j=M d j)/\Dg (2^w) M' r n/\0<=k'/\k'<=1/\yt (2^w) M' r n+k' * (2^w)^n=yt (2^w) M r n+b*yt (2^w) M y n+k
 |0,_,_=>⟨M,k,rfl,λ_ _ _ _=>rfl,λi hi=>by lia,k0,k1,by simp[yt]⟩
 |n+1,ha,hd=>by
  have hW:(0:Int)<2^w:=A4 (by lia);let⟨M1,k',e1,h1,h2,h3,h4,h5⟩:=zht hw hry hr hy M k b k0 k1 hb hf n ha.mono hd.mono;let⟨a0,a1⟩:=ha n (by lia);let⟨b0,b1⟩:=hd n (by lia);have bB:0<=b*M y n/\b*M y n<2^w:=by rcases hb with rfl|rfl<;>lia
  let⟨d1,d2,d3,d4,d5⟩:=zbx (W:=2^w) hW (s:=M r n+b*M y n+k') (by lia) (by lia);have hT:∀d j,d≠116->upd M1 116 0 (b*M y n) d j=M1 d j:=λd j h=>by unfold upd;rw[if_neg (by lia)]
  have hv:∀i:Nat,i<n->upd M1 116 0 (b*M y n) r i=M1 r i:=λi _=>hT r i hr.1;refine⟨upd (upd M1 116 0 (b*M y n)) r n ((M r n+b*M y n+k')%2^w),(M r n+b*M y n+k')/2^w,?_,λd j h6 h7=>?_,zdV (λi hi=>by rw[hv i hi];exact h2 i hi) d1 d2,d3,d4,?_⟩
  .rw[adR,upTo,zh];show yh (2^w) [Rw.both cT (y,(n:Int)) cF,Rw.sum (r,(n:Int)) (r,(n:Int)) cT] (yh (2^w) (adR r y n) M k).1 (yh (2^w) (adR r y n) M k).2=_;rw[e1];have hff:M1 102 0=b*(2^w-1):=by rw[h1 102 0 (by decide) (.inl (λz=>hr.2 z.symm)),hf]
   have hyy:M1 y n=M y n:=h1 y n hy (.inl hry);have hrr:upd M1 116 0 (b*M y n) r n=M r n:=by rw[hT r n hr.1,h1 r n hr.1 (.inr (by lia))]
   have htt:upd M1 116 0 (b*M y n) 116 0=b*M y n:=by unfold upd;rw[if_pos ⟨rfl,rfl⟩]
   erw[yh,stepM,rd,wr,cT,cF,hff,hyy,zhe b0 b1 hb,hrr,htt]
  .unfold upd;rw[if_neg (by lia),if_neg (by lia),h1 d j h6 (by lia)]
  .rw[zcE,zd (M':=M1) (c':=r) n hv,yt,yt,Ac];generalize ((2:Int)^w)^n=P at *;generalize (M r n+b*M y n+k')%2^w=u at *;generalize (M r n+b*M y n+k')/2^w=t at *;generalize M r (n:Int)=A at *;generalize M y (n:Int)=B at *;generalize (2:Int)^w=W at *;have e3:(u+t*W)*P=(A+b*B+k')*P:=by rw[d5]
   rw[BL,BL,BL,Ad t W P,Ae W P,Ad b B P]at e3;rw[F6];generalize u*P=x1 at *;generalize t*(P*W)=x2 at *;generalize A*P=x3 at *;generalize b*(B*P)=x5 at *;generalize k' * P=x4 at *;generalize b*yt W M y n=x6 at *;lia
def yaE(y q r n:Nat):List Rw:=.mark 0::(twR 101 n++(twR r (n+1)++(lsR r y n++(.less (r,(n:Int)) (r,(n:Int)) cZ :: .less cF cZ cZ :: .mark 0::(adR r y n++(.sum (r,(n:Int)) (r,(n:Int)) cZ :: .bare cF cF :: .ask cF::twR q n))))))
structure Dv(w n y q r:Nat)(M0 M:Mem)(x Y:Int)(I:Nat):Prop where
 de:Dg (2^w) M 101 n
 dr:Dg (2^w) M r (n+1)
 dq:Dg (2^w) M q n
 keep:∀d j,d≠101->d≠r->d≠q->d≠116->d≠102->M d j=M0 d j
 rest:yt (2^w) M r (n+1)<Y
 sent:yt (2^w) M q n*Y*(2^w)^n+yt (2^w) M r (n+1)*(2^w)^n+yt (2^w) M 101 n=x*2^I
theorem znw{w n:Nat}:((2:Int)^w)^n=2^(w*n):=by rw[CB]
structure Lt(y q r:Nat):Prop where
 yr:y≠r
 yq:y≠q
 qr:q≠r
 hy:y≠101/\y≠116/\y≠102/\y≠122
 hq:q≠101/\q≠116/\q≠102/\q≠122
 hr:r≠101/\r≠116/\r≠102/\r≠122
theorem zgM{W R Y P:Int}(hW:2<=W)(hP:0<P)(hR:R<Y)(hY:Y<=P):2*R+1<P*W:=by
 have:=CC hW (show 0<=P by lia);lia
theorem ycU{A:Mem}{c d:Nat}{i v j:Int}(h:d≠c):upd A c i v d j=A d j:=if_neg λe=>h e.1
theorem ycG{A:Mem}{c:Nat}{i v:Int}:upd A c i v c i=v:=if_pos ⟨rfl,rfl⟩
theorem z01{b:Int}(h:0<=b)(g:b<=1):b=0 \/ b=1:=by lia
theorem z02{b:Int}(h:b=0 \/ b=1):0<=1-b/\1-b<=1:=by lia
theorem z03{W t k:Int}(t0:0<=t)(t1:t<W)(k0:0<=k)(k1:k<=1)(h:4<=W):-W<=t-0-k/\t-0-k<W/\0<=t+0+k/\t+0+k<2*W:=by lia
theorem zoa{W P u b m k A B Y:Int}(d5:u-b*W=m-0-k)(v3:A-k*P=B-Y-0):A+u*P-b*(P*W)=B+m*P-Y:=by
 have e9:(u-b*W)*P=(m-0-k)*P:=by rw[d5]
 rw[B4,B4,B4,Bm,Ad b W P,Ae W P]at e9;lia
theorem zoL{W P u c m k A B Y b:Int}(c5:u+c*W=m+0+k)(v6:A+k*P=B+b*Y+0):A+u*P+c*(P*W)=B+m*P+b*Y:=by
 have e9:(u+c*W)*P=(m+0+k)*P:=by rw[c5]
 rw[BL,BL,BL,Bm,Ad c W P,Ae W P]at e9;lia
theorem zns{b c Q Y P V7 V4 V2 V k1:Int}(hb:b=0 \/ b=1)(c0:0<=c)(c1:c<=1)(v2:V2=2*V+k1)(v4:V4-b*Q=V2-Y)(v7:V7+c*Q=V4+b*Y)(r0:0<=V)(k0:0<=k1)(k1':k1<=1)(r40:0<=V4)(r41:V4<Q)(r70:0<=V7)(r71:V7<Q)(hr:V<Y)(hY:Y<P)(hP:P<=Q):
  V7=2*V+k1-(1-b)*Y/\V7<Y:=by
 rcases hb with rfl|rfl<;>rcases (by lia:c=0 \/ c=1)with rfl|rfl<;>lia
theorem zpq{A B Y P E E1 k1 b Z:Int}(hs:A*Y*P+B*P+E=Z)(v1:E1+k1*P=2*E):(2*A+(1-b))*Y*P+(2*B+k1-(1-b)*Y)*P+E1=Z*2:=by
 have f1:(2*A+(1-b))*Y*P=2*(A*Y*P)+(1-b)*Y*P:=by
  rw[BL,BL,Ad 2 A Y,Ad 2 (A*Y) P]
 have f2:(2*B+k1-(1-b)*Y)*P=2*(B*P)+k1*P-(1-b)*Y*P:=by
  rw[B4,BL,Ad 2 B P]
 rw[f1,f2];lia
theorem zpm{A Y P V E x T:Int}(hYp:1<=Y)(hP:0<P)(A0:0<=A)(V0:0<=V)(E0:0<=E)(x1:x<P)(T0:0<T)(hle:T<=P)(key:(A+1*P)*Y*P+V*P+E=x*T):False:=by
 have a1:P*P<=(A+1*P)*Y*P:=by
  have b1:P<=(A+1*P)*Y:=by
   have:=CC hYp (show 0<=A+1*P by lia);lia
  exact BC b1 (by lia)
 have a2:0<=V*P:=Cu V0 (by lia);have a3:x*T<=(P-1)*T:=BC (by lia) (by lia);have a4:(P-1)*T<=(P-1)*P:=CC hle (by lia);have a5:(P-1)*P=P*P-P:=by rw[B4,Bg]
 lia
theorem zkY{W b:Int}(hW:1<W)(hb:b=0 \/ b=1):((0-0-b)%W,bi (decide ((0:Int)-0-b<0)))=(b*(W-1),b):=by
 rcases hb with rfl|rfl
 .simp[bi]
 .have:((0:Int)-0-1)%W=1*(W-1):=by
   rw[<-Ci,A2 (by lia) (by lia)];lia
  rw[this];rfl
theorem zni{W b:Int}(hW:1<W)(hb:b=0 \/ b=1):bi (!((1-b)*(W-1)==0))=1-b:=by
 rcases hb with rfl|rfl
 .have:¬((1-0)*(W-1)=0):=by lia
  rw[beq_eq_false_iff_ne.2 this];rfl
 .simp[bi]
theorem znl{W b:Int}(hb:b=0 \/ b=1):W-1-b*(W-1)=(1-b)*(W-1):=by
 rcases hb with rfl|rfl<;>lia
theorem znW{W P R R2 k1 k2 Y:Int}(hW:2<=W)(hP:0<P)(r0:0<=R)(hR:R<Y)(hY:Y<P)(k10:0<=k1)(k11:k1<=1)(p:0<=k2)(p':k2<=1)(v2:R2+k2*(P*W)=2*R+k1)(r2:0<=R2):k2=0:=by
 have hlt:=zgM hW hP hR (Bu hY);rcases (by lia:k2=0 \/ k2=1)with z|z
 .exact z
 .subst z;lia
theorem zi0{w n y q r:Nat}(hw:1<w)(L:Lt y q r){M0 M:Mem}{x Y k:Int}{I:Nat}(hz:M0 122 0=0)(hD:Dg (2^w) M0 y n)(hY:yt (2^w) M0 y n=Y)(x1:x<(2^w:Int)^n)(hI:I<w*n)(h:Dv w n y q r M0 M x Y I):
  ∃M' k',yh (2^w) (yaE y q r n) M k=(M',k')/\Dv w n y q r M0 M' x Y (I+1):=by
 have hW4:(4:Int)<=2^w:=by
  have h:(2:Nat)^2<=2^w:=A9 (by lia) (by lia);have h2:=pw w;lia
 have hW:(0:Int)<2^w:=GG (by decide) hW4;have hW2:(2:Int)<=2^w:=Int.le_trans (by decide) hW4;have hW1:(1:Int)<2^w:=GG (by decide) hW4;have hP:(0:Int)<(2^w)^n:=A4 hW;let⟨y0,y1⟩:=zA hW n hD;rw[hY]at y0 y1;let⟨r0,r1⟩:=zA hW (n+1) h.dr;have hzM:M 122 0=0:=by rw[h.keep 122 0 (by decide) (λe=>L.hr.2.2.2 e.symm) (λe=>L.hq.2.2.2 e.symm) (by decide) (by decide),hz]
 have hyM:∀j,M y j=M0 y j:=λj=>h.keep y j L.hy.1 L.yr L.yq L.hy.2.1 L.hy.2.2.1;let⟨M1,k1,e1,o1,g1,p1,p1',v1⟩:=zeI (W:=2^w) hW2 101 M 0 (by decide) (by decide) n h.de;have q1:∀j,M1 r j=M r j:=λj=>o1 r j (.inl L.hr.1);let⟨M2,k2,e2,o2,g2,p2,p2',v2⟩:=zeI (W:=2^w) hW2 r M1 k1 p1 p1' (n+1) (λi hi=>by rw[q1];exact h.dr i hi);rw[zd (M:=M1) (M':=M) (c:=r) (c':=r) (n+1) λi _=>q1 i]at v2;let⟨r20,r21⟩:=zA hW (n+1) g2;have hk2:k2=0:=znW hW2 hP r0 h.rest y1 p1 p1' p2 p2' (by rw[<-Ac];exact v2) r20;subst hk2;rw[Bm,DA]at v2;have q2:∀j,M2 y j=M0 y j:=λj=>by rw[o2 y j (.inl L.yr),o1 y j (.inl L.hy.1),hyM]
 have z2:M2 122 0=0:=by rw[o2 122 0 (.inl (λe=>L.hr.2.2.2 e.symm)),o1 122 0 (.inl (by decide)),hzM]
 let⟨M3,k3,e3,o3,g3,p3,p3',v3⟩:=zhY (W:=2^w) hW L.yr M2 0 (by decide) (by decide) n g2.mono (λi hi=>by rw[q2];exact hD i hi);rw[zd (M:=M2) (M':=M0) (c:=y) (c':=y) n λi _=>q2 i,hY]at v3;have t3:M3 r n=M2 r n:=o3 r n (.inr (DN _));let⟨t0,t1⟩:=g2 n (Da n);let⟨d1,d2,d3,d4,d5⟩:=zdh (W:=2^w) hW (s:=M2 r n-0-k3) (z03 t0 t1 p3 p3' hW4).1 (z03 t0 t1 p3 p3' hW4).2.1;have z3:M3 122 0=0:=by rw[o3 122 0 (.inl (λe=>L.hr.2.2.2 e.symm)),z2]
 have e4:stepM (2^w) M3 k3 (.less (r,(n:Int)) (r,(n:Int)) cZ)=(upd M3 r n ((M2 r n-0-k3)%2^w),bi (decide (M2 r n-0-k3<0))):=by
  erw[stepM,rd,wr,cZ,t3,z3]
 generalize hb:bi (decide (M2 r n-0-k3<0))=b at d3 d4 d5 e4;generalize hu:(M2 r n-0-k3)%2^w=u at d1 d2 d5 e4;have g4:Dg (2^w) (upd M3 r n u) r (n+1):=zdV g3 d1 d2;have v4:yt (2^w) (upd M3 r n u) r (n+1)-b*(2^w)^(n+1)=yt (2^w) M2 r (n+1)-Y:=by
  rw[zcE,yt,Ac];exact zoa d5 v3
 have o4:∀d j,d≠r->upd M3 r n u d j=M2 d j:=λd j hd=>by rw[ycU hd,o3 d j (.inl hd)]
 generalize upd M3 r n u=M4 at e4 g4 v4 o4;let⟨r40,r41⟩:=zA hW (n+1) g4;have hb01:b=0 \/ b=1:=z01 d3 d4;have z4:M4 122 0=0:=by rw[o4 122 0 (λe=>L.hr.2.2.2 e.symm),z2]
 have e5:stepM (2^w) M4 b (.less cF cZ cZ)=(upd M4 102 0 (b*(2^w-1)),b):=by
  erw[stepM,rd,wr,cF,cZ,z4];rw[(Hb (zkY hW1 hb01)).1,(Hb (zkY hW1 hb01)).2]
 have o5:∀d j,d≠102->upd M4 102 0 (b*(2^w-1)) d j=M4 d j:=λd j hd=>ycU hd;have f5:upd M4 102 0 (b*(2^w-1)) 102 0=b*(2^w-1):=ycG;generalize upd M4 102 0 (b*(2^w-1))=M5 at e5 o5 f5;have q5:∀j,M5 r j=M4 r j:=λj=>o5 r j L.hr.2.2.1;have y5:∀j,M5 y j=M0 y j:=λj=>by rw[o5 y j L.hy.2.2.1,o4 y j L.yr,q2]
 let⟨M6,k6,e6,o6,g6,p6,p6',v6⟩:=zht (w:=w) (FB hw) L.yr ⟨L.hr.2.1,L.hr.2.2.1⟩ L.hy.2.1 M5 0 b (by decide) (by decide) hb01 f5 n (λi hi=>by rw[q5];exact g4 i (Nat.lt_succ_of_lt hi)) (λi hi=>by rw[y5];exact hD i hi);rw[zd (M:=M5) (M':=M4) (c:=r) (c':=r) n λi _=>q5 i,zd (M:=M5) (M':=M0) (c:=y) (c':=y) n λi _=>y5 i,hY]at v6;have t6:M6 r n=M4 r n:=by rw[o6 r n L.hr.2.1 (.inr (DN _)),q5]
 let⟨s0,s1⟩:=g4 n (Da n);let⟨c1,c2,c3,c4,c5⟩:=zbx (W:=2^w) hW (s:=M4 r n+0+k6) (z03 s0 s1 p6 p6' hW4).2.2.1 (z03 s0 s1 p6 p6' hW4).2.2.2;have z6:M6 122 0=0:=by rw[o6 122 0 (by decide) (.inl (λe=>L.hr.2.2.2 e.symm)),o5 122 0 (by decide),z4]
 have e7:stepM (2^w) M6 k6 (.sum (r,(n:Int)) (r,(n:Int)) cZ)=(upd M6 r n ((M4 r n+0+k6)%2^w),(M4 r n+0+k6)/2^w):=by
  erw[stepM,rd,wr,cZ,t6,z6]
 generalize (M4 r n+0+k6)/2^w=c at c3 c4 c5 e7;generalize (M4 r n+0+k6)%2^w=u7 at c1 c2 c5 e7;have g7:Dg (2^w) (upd M6 r n u7) r (n+1):=zdV g6 c1 c2;have v7:yt (2^w) (upd M6 r n u7) r (n+1)+c*(2^w)^(n+1)=yt (2^w) M4 r (n+1)+b*Y:=by
  rw[zcE,yt,Ac];exact zoL c5 v6
 have o7:∀d j,d≠r->d≠116->d≠102->upd M6 r n u7 d j=M2 d j:=λd j hd h1 h2=>by
  rw[ycU hd,o6 d j h1 (.inl hd),o5 d j h2,o4 d j hd]
 have f7:upd M6 r n u7 102 0=b*(2^w-1):=by
  rw[ycU (λz=>L.hr.2.2.1 z.symm),o6 102 0 (by decide) (.inl (λe=>L.hr.2.2.1 e.symm)),f5]
 generalize upd M6 r n u7=M7 at e7 g7 v7 o7 f7;let⟨r70,r71⟩:=zA hW (n+1) g7;have hv2:yt (2^w) M2 r (n+1)=2*yt (2^w) M r (n+1)+k1:=v2;have hPW:(2^w:Int)^n<=(2^w)^(n+1):=by
  rw[Ac];have:=CC (Bu hW1) (Bu hP)
  rwa [C2]at this
 have hrest:yt (2^w) M7 r (n+1)=2*yt (2^w) M r (n+1)+k1-(1-b)*Y/\yt (2^w) M7 r (n+1)<Y:=zns hb01 c3 c4 hv2 v4 v7 r0 p1 p1' r40 r41 r70 r71 h.rest y1 hPW;have e8:stepM (2^w) M7 c (.bare cF cF)=(upd M7 102 0 ((1-b)*(2^w-1)),c):=by
  erw[stepM,rd,wr,cF,f7];rw[znl hb01]
 have o8:∀d j,d≠102->upd M7 102 0 ((1-b)*(2^w-1)) d j=M7 d j:=λd j hd=>ycU hd;have f8:upd M7 102 0 ((1-b)*(2^w-1)) 102 0=(1-b)*(2^w-1):=ycG;generalize upd M7 102 0 ((1-b)*(2^w-1))=M8 at e8 o8 f8;have e9:stepM (2^w) M8 c (.ask cF)=(M8,1-b):=by
  erw[stepM,rd,cF,f8];rw[zni hW1 hb01]
 have q8:∀j,M8 q j=M q j:=λj=>by
  rw[o8 q j L.hq.2.2.1,o7 q j L.qr L.hq.2.1 L.hq.2.2.1,o2 q j (.inl L.qr),o1 q j (.inl L.hq.1)]
 let⟨M9,k9,ea,o9,g9,p9,p9',v9⟩:=zeI (W:=2^w) hW2 q M8 (1-b) (z02 hb01).1 (z02 hb01).2 n (λi hi=>by rw[q8];exact h.dq i hi);rw[zd (M:=M8) (M':=M) (c:=q) (c':=q) n λi _=>q8 i]at v9;let⟨u0,u1⟩:=zA hW n g9;let⟨w0,w1⟩:=zA hW n h.dq;let⟨ee0,ee1⟩:=zA hW n g1;have hs:=h.sent;have ve:yt (2^w) M9 101 n=yt (2^w) M1 101 n:=zd n λi _=>by
  rw[o9 101 i (.inl (λe=>L.hq.1 e.symm)),o8 101 i (by decide),o7 101 i (λe=>L.hr.1 e.symm) (by decide) (by decide),o2 101 i (.inl (λe=>L.hr.1 e.symm))]
 have vr:yt (2^w) M9 r (n+1)=yt (2^w) M7 r (n+1):=zd (n+1) λi _=>by
  rw[o9 r i (.inl (λe=>L.qr e.symm)),o8 r i L.hr.2.2.1]
 have v1':yt (2^w) M1 101 n+k1*(2^w)^n=2*yt (2^w) M 101 n:=by rw[v1,DA]
 have key:(2*yt (2^w) M q n+(1-b))*Y*(2^w)^n+yt (2^w) M7 r (n+1)*(2^w)^n+yt (2^w) M1 101 n=x*2^(I+1):=by
  rw[hrest.1,Ac,<-Ad];exact zpq hs v1'
 have hk9:k9=0:=by
  rcases z01 p9 p9' with z|z
  .exact z
  .exfalso;subst z;have hle:(2:Int)^(I+1)<=(2^w)^n:=by
    rw[znw]
    exact_mod_cast A9 (n:=2) (by decide) hI
   rw[<-v9]at key;exact zpm (GH r0 h.rest) hP u0 r70 ee0 x1 (A4 (by decide)) hle key
 subst hk9;rw[Bm,DA]at v9;rw[<-v9]at key;refine⟨M9,0,?_,⟨λi hi=>?_,λi hi=>?_,g9,λd j h1 h2 h3 h4 h5=>?_,?_,?_⟩⟩
 .have em:stepM (2^w) M k (.mark 0)=(M,0):=rfl;have em2:stepM (2^w) M5 b (.mark 0)=(M5,0):=rfl;rw[yaE,zm,em];simp only;rw[zh,e1,zh];simp only;rw[e2,zh];simp only;rw[e3,zm,e4,zm];simp only;rw[e5,zm,em2,zh];simp only;rw[e6,zm,e7,zm];simp only;rw[e8,zm,e9];simp only;rw[ea]
 .rw[o9 101 i (.inl (λe=>L.hq.1 e.symm)),o8 101 i (by decide),o7 101 i (λe=>L.hr.1 e.symm) (by decide) (by decide),o2 101 i (.inl (λe=>L.hr.1 e.symm))];exact g1 i hi
 .rw[o9 r i (.inl (λe=>L.qr e.symm)),o8 r i L.hr.2.2.1];exact g7 i hi
 .rw[o9 d j (.inl h3),o8 d j h5,o7 d j h2 h4 h5,o2 d j (.inl h2),o1 d j (.inl h1)];exact h.keep d j h1 h2 h3 h4 h5
 .rw[vr];exact hrest.2
 .rw[ve,vr];exact key
theorem zcz{w n y q r:Nat}(hw:1<w)(L:Lt y q r){M0 M:Mem}{x Y k:Int}(hz:M0 122 0=0)(hD:Dg (2^w) M0 y n)(hY:yt (2^w) M0 y n=Y)(x1:x<(2^w:Int)^n)(h:Dv w n y q r M0 M x Y 0):
  ∀I:Nat,I<=w*n->∃M' k',yh (2^w) (upTo (λ_=>yaE y q r n) I) M k=(M',k')/\Dv w n y q r M0 M' x Y I
 |0,_=>⟨M,k,rfl,h⟩
 |I+1,hI=>by
  let⟨M1,k1,e1,h1⟩:=zcz hw L hz hD hY x1 h I (by lia);let⟨M2,k2,e2,h2⟩:=zi0 hw L (k:=k1) hz hD hY x1 (by lia) h1;refine⟨M2,k2,?_,h2⟩;rw[upTo,zh,e1];exact e2
theorem zgi{w n y q r:Nat}(hw:1<w){M0 M:Mem}{x Y:Int}(x0:0<=x)(h:Dv w n y q r M0 M x Y (w*n))(hYP:Y<=(2^w:Int)^n):yt (2^w) M q n=x/Y/\yt (2^w) M r n=x%Y/\M r n=0:=by
 have hW:(0:Int)<2^w:=A4 (by lia);have hP:(0:Int)<(2^w)^n:=A4 hW;let⟨r0,r1⟩:=zA hW (n+1) h.dr;let⟨a0,a1⟩:=zA hW n h.de;let⟨b0,b1⟩:=zA hW n h.dr.mono;let⟨t0,t1⟩:=h.dr n (by lia);have hs:=h.sent;have hr:=h.rest;rw[<-znw]at hs;have htop:M r n=0:=by
  rw[yt]at hr;rcases (by lia:M r n=0 \/ 1<=M r n)with z|z
  .exact z
  .have:=BC z (show (0:Int)<=(2^w)^n by lia);lia
 have hv:yt (2^w) M r (n+1)=yt (2^w) M r n:=by rw[yt,htop];lia
 rw[hv]at hs hr;generalize ((2:Int)^w)^n=P at *;generalize yt (2^w) M q n=A at *;generalize yt (2^w) M r n=B at *;generalize yt (2^w) M 101 n=E at *;have e0:E=0:=by
  have h1:E=(x-A*Y-B)*P:=by
   rw[B4,B4];lia
  have h2:E%P=E:=A2 a0 a1;rw[<-h2,h1,Int.mul_emod_left]
 subst e0;have hx:A*Y+B=x:=by
  have h1:(A*Y+B)*P=x*P:=by rw[BL];lia
  exact Int.eq_of_mul_eq_mul_right (by lia) h1
 have hYp:0<Y:=by lia
 refine⟨?_,?_,htop⟩
 .rw[<-hx,Cy,FN _ _ (by lia),BJ b0 hr,D4]
 .rw[<-hx,Cy,B5,A2 b0 hr]
theorem zaK{g:Nat->List PV}{f:Nat->List Rw}(h:∀I:Nat,g I=(f I).map yP):∀n,upTo g n=(upTo f n).map yP
 |0=>rfl
 |n+1=>by rw[upTo,upTo,zaK h n,h n,B2]
theorem zaz{f:Nat->List Rw}{c:Nat}(h:∀i,(f i).length=c):∀k,(upTo f k).length=k*c
 |0=>by simp[upTo]
 |k+1=>by rw[upTo,Af,zaz h k,h,FM]
theorem zad{f:Int->Rw}{r:Rw}:∀{n:Nat},r∈yC f n->∃i:Nat,i<n/\r=f i
 |0,h=>by simp[yC]at h
 |n+1,h=>by
  rw[yC,Ax]at h;rcases h with h|h
  .let⟨i,hi,e⟩:=zad h;exact⟨i,by lia,e⟩
  .simp at h;exact⟨n,by lia,h⟩
theorem zao{f:Nat->List Rw}{r:Rw}:∀{n:Nat},r∈upTo f n->∃i:Nat,i<n/\r∈f i
 |0,h=>by simp[upTo]at h
 |n+1,h=>by
  rw[upTo,Ax]at h;rcases h with h|h
  .let⟨i,hi,e⟩:=zao h;exact⟨i,by lia,e⟩
  .exact⟨n,by lia,h⟩
def mvR(x n:Nat):List Rw:=yC (λi=>.move (101,i) (x,i)) n
def ycR(y q r w n:Nat):List Rw:=upTo (λ_=>yaE y q r n) (w*n)
def yad(w n:Nat):List Rw:=mvR 97 n++ycR 98 99 100 w n++nR n++yo n
def dvT(y q r:Nat):List T2:=[.row (rS "mark" [.fig 0]),.rounds 0 1 0 [rS "twice" [cx 101 0 0 1 0,cx 101 0 0 1 0]],.rounds 1 1 0 [rS "twice" [cx r 0 0 1 0,cx r 0 0 1 0]],.rounds 0 1 0 [rS "less" [cx r 0 0 1 0,cx r 0 0 1 0,cx y 0 0 1 0]],.row (rS "less" [cx r 0 0 0 1,cx r 0 0 0 1,oZ]),.row (rS "less" [cx 102 0 0 0 0,oZ,oZ]),.row (rS "mark" [.fig 0]),
 .rounds 0 1 0 [rS "both" [oT,cx y 0 0 1 0,cx 102 0 0 0 0],rS "sum" [cx r 0 0 1 0,cx r 0 0 1 0,oT]],.row (rS "sum" [cx r 0 0 0 1,cx r 0 0 0 1,oZ]),.row (rS "bare" [cx 102 0 0 0 0,cx 102 0 0 0 0]),.row (rS "ask" [cx 102 0 0 0 0]),.rounds 0 1 0 [rS "twice" [cx q 0 0 1 0,cx q 0 0 1 0]]]
def nT:List T1:=[.row (rS "set" [oS,.fig 0]),.rounds 0 1 0 [.row (rS "any" [oS,oS,cx 98 0 1 0 0])],.row (rS "ask" [oS]),.row (rS "set" [oM 0,.fig 1]),.row (rS "less" [oM 0,oM 0,oZ])]
def mvT(x:Nat):T1:=.rounds 0 1 0 [.row (rS "move" [cx 101 0 1 0 0,cx x 0 1 0 0])]
def ydl:List T1:=[mvT 97,.rounds 0 0 1 (dvT 98 99 100)]++(nT++ya3 0 1)
theorem zhB(w n:Nat):cnt 0 0 1 w n=w*n:=by
 unfold cnt;rw[show (0:Int)+0*n+1*w*n=((w*n:Nat):Int)by simp];rfl
theorem ze1(w:Int)(n:Nat):cnt 1 1 0 w n=n+1:=by simp[cnt];lia
theorem zqm(y q r:Nat)(w:Int)(n I:Nat):yam w n I (dvT y q r)=(yaE y q r n).map yP:=by
 have tw:∀c:Nat,T2.rows w n I (.rounds 0 1 0 [rS "twice" [cx c 0 0 1 0,cx c 0 0 1 0]])=(twR c n).map yP:=λc=>by
  rw[T2.rows,zaJ];exact zaK (λJ=>by simp[Rs.pv,rS,Op.pv,cx,Cx.at,yP,yH]) n
 have t1:T2.rows w n I (.rounds 1 1 0 [rS "twice" [cx r 0 0 1 0,cx r 0 0 1 0]])=(twR r (n+1)).map yP:=by
  rw[T2.rows,ze1];exact zaK (λJ=>by simp[Rs.pv,rS,Op.pv,cx,Cx.at,yP,yH]) (n+1)
 have ls:T2.rows w n I (.rounds 0 1 0 [rS "less" [cx r 0 0 1 0,cx r 0 0 1 0,cx y 0 0 1 0]])=(lsR r y n).map yP:=by
  rw[T2.rows,zaJ];exact zaK (λJ=>by simp[Rs.pv,rS,Op.pv,cx,Cx.at,yP,yH]) n
 have ad:T2.rows w n I (.rounds 0 1 0 [rS "both" [oT,cx y 0 0 1 0,cx 102 0 0 0 0],rS "sum" [cx r 0 0 1 0,cx r 0 0 1 0,oT]])=(adR r y n).map yP:=by
  rw[T2.rows,zaJ];exact zaK (λJ=>by simp[Rs.pv,rS,Op.pv,oT,cx,Cx.at,yP,yH]) n
 erw[yam,dvT,BY,Bq,tw,t1,ls,ad,yaE,AL,B2,BD];simp[T2.rows,Rs.pv,rS,Op.pv,oZ,cx,Cx.at,yP,yH]
theorem yfn(w:Int)(n:Nat):yI w n nT=(nR n).map yP:=by
 have h:=zaK (g:=λI=>yam w n I [.row (rS "any" [oS,oS,cx 98 0 1 0 0])]) (f:=λi=>[Rw.any cS cS (98,i)]) (λI=>by simp[yam,T2.rows,Rs.pv,rS,Op.pv,oS,cx,Cx.at,yP,yH]) n;erw[yI,nT,BY,Bq,T1.rows,zaJ,h,nR,B2,AL,Ak];simp[Rs.pv,rS,Op.pv,oZ,oS,oM,cx,Cx.at,yP,yH]
theorem zol(x:Nat)(w:Int)(n:Nat):T1.rows w n (mvT x)=(mvR x n).map yP:=by
 rw[mvT,T1.rows,zaJ];exact zbB (λI=>by simp[yam,T2.rows,Rs.pv,rS,Op.pv,cx,Cx.at,yP,yH]) n
theorem zk2(y q r w n:Nat):T1.rows w n (.rounds 0 0 1 (dvT y q r))=(ycR y q r w n).map yP:=by
 rw[T1.rows,zhB];exact zaK (λI=>zqm y q r w n I) (w*n)
theorem zoX(w n:Nat):yI w n ydl=(yad w n).map yP:=by
 rw[ydl,zaH,zaH,yfn,zeb];erw[yI,BY,Bq,zol,zk2,BD,yad,B2,BB]
def tgN(d:Nat)(j:Int):Rw->Prop
 |.mark _ | .ask _=>True
 |.set t _ | .move t _ | .bare t _ | .twice t _ | .half t _ | .sum t _ _ | .less t _ _ | .both t _ _ | .any t _ _ | .odd t _ _=>t≠(d,j)
theorem znJ{M:Mem}{t:Cel}{v:Int}{d:Nat}{j:Int}(h:t≠(d,j)):wr M t v d j=M d j:=by
 let⟨a,b⟩:=t;erw[wr,upd];rw[if_neg]
 rintro⟨rfl,rfl⟩
 exact h rfl
theorem zcy(W:Int){d:Nat}{j:Int}:∀(rs:List Rw) (M:Mem) (k:Int),(∀r∈rs,tgN d j r)->(yh W rs M k).1 d j=M d j
 |[],_,_,_=>rfl
 |r::rs,M,k,h=>by
  rw[zm,zcy W rs _ _ λq hq=>h q (AV _ hq)];have hr:=h r As
  cases r<;>first|rfl|exact znJ hr
theorem zfE{W:Int}{x:Nat}(hx:x≠101)(M:Mem)(k:Int):∀n:Nat,∃M',yh W (mvR x n) M k=(M',k)/\(∀d j,d≠101->M' d j=M d j)/\∀i:Nat,i<n->M' 101 i=M x i
 |0=>⟨M,rfl,λ_ _ _=>rfl,λi hi=>by lia⟩
 |n+1=>by
  let⟨M1,e1,h1,h2⟩:=zfE (W:=W) hx M k n;refine⟨upd M1 101 n (M x n),?_,λd j hd=>?_,λi hi=>?_⟩
  .rw[mvR,yC,zh];show yh W _ (yh W (mvR x n) M k).1 (yh W (mvR x n) M k).2=_;rw[e1];erw[yh,stepM,rd,wr,h1 x n hx]
  .unfold upd;rw[if_neg (by lia),h1 d j (by lia)]
  .unfold upd
   by_cases hin:i=n
   .subst hin;rw[if_pos ⟨rfl,rfl⟩]
   .rw[if_neg (by lia)];exact h2 i (by lia)
theorem zm0{n:Nat}{d:Nat}{j:Int}(h1:d≠115)(h2:d≠109 \/ j≠0):∀r∈nR n,tgN d j r:=by
 intro r hr;erw[nR,Ax,AO,A8,or_false]at hr;rcases hr with (rfl|hr)|rfl|rfl|rfl
 case inl.inr=>
  let⟨i,hi,hr⟩:=zao hr;erw[AO,A8,or_false]at hr;subst hr;erw[tgN,cS,ne_eq,Dn];lia
 all_goals erw[tgN,cS,ne_eq,Dn];try lia
theorem zlj{n:Nat}{d:Nat}{j:Int}(h1:d≠115)(h2:d≠109)(h3:d≠116):∀r∈yo n,tgN d j r:=by
 intro r hr;erw[yo,Ax,AO,A8,or_false]at hr;rcases hr with (rfl|hr)|rfl|rfl|rfl|rfl|rfl
 case inl.inr=>let⟨i,hi,rfl⟩:=zad hr;erw[tgN,cS,ne_eq,Dn];lia
 all_goals erw[tgN,cS,cT,ne_eq,Dn];try lia
theorem yfU:Lt 98 99 100:=⟨by decide,by decide,by decide,by decide,by decide,by decide⟩
theorem zif{w:Nat}(hw:1<w){n:Nat}{x y:Int}(x0:0<=x)(x1:x<(2^w:Int)^(n+1))(y0:0<y)(y1:y<(2^w:Int)^(n+1)):
  yt (2^w) (yh (2^w) (yad w (n+1)) (yS (2^w) (n+1) x y) 0).1 99 (n+1)=x/y/\yt (2^w) (yh (2^w) (yad w (n+1)) (yS (2^w) (n+1) x y) 0).1 100 (n+1)=x%y /\
  (yh (2^w) (yad w (n+1)) (yS (2^w) (n+1) x y) 0).1 109 0=0/\(yh (2^w) (yad w (n+1)) (yS (2^w) (n+1) x y) 0).1 109 1=0 /\
  (yh (2^w) (yad w (n+1)) (yS (2^w) (n+1) x y) 0).1 109 2=bi (x/y==0)/\(yh (2^w) (yad w (n+1)) (yS (2^w) (n+1) x y) 0).1 109 3=bi (decide ((2^w:Int)^(n+1)<=2*(x/y))):=by
 have hW:(0:Int)<2^w:=A4 (by lia);have hb0:∀d j,d≠97->d≠98->yS (2^w) (n+1) x y d j=0:=λd j h1 h2=>zdN _ _ _ h1 h2 _;have da:=zgc (n+1) x y hW;have db:=zhh (n+1) x y hW;have va:=zgD (n+1) x y hW x0 x1;have vb:=ziz (n+1) x y hW (by lia) y1;rw[yad];generalize yS (2^w) (n+1) x y=A at *;let⟨M1,e1,o1,v1⟩:=zfE (W:=2^w) (x:=97) (by decide) A 0 (n+1);have z0:∀(d m:Nat),d≠97->d≠98->d≠101->yt (2^w) M1 d m=0/\Dg (2^w) M1 d m:=λd m h1 h2 h3=>by
  have hz:∀i:Nat,M1 d i=0:=λi=>by rw[o1 d i h3,hb0 d i h1 h2]
  have hd:Dg (2^w) M1 d m:=λi _=>by rw[hz];lia
  exact⟨(zaR hW m hd).2 λi _=>hz i,hd⟩
 have D0:Dv w (n+1) 98 99 100 A M1 x y 0:={
  de:=λi hi=>by rw[v1 i hi];exact da i hi
  dr:=(z0 100 _ (by decide) (by decide) (by decide)).2
  dq:=(z0 99 _ (by decide) (by decide) (by decide)).2
  keep:=λd j h1 _ _ _ _=>o1 d j h1
  rest:=by rw[(z0 100 _ (by decide) (by decide) (by decide)).1];exact y0
  sent:=by
   rw[(z0 100 _ (by decide) (by decide) (by decide)).1,(z0 99 _ (by decide) (by decide) (by decide)).1,zd (M':=A) (c':=97) (n+1) v1,va];simp}
 let⟨M2,k2,e2,D2⟩:=zcz hw yfU (k:=0) (hb0 122 0 (by decide) (by decide)) db vb x1 D0 (w*(n+1)) (AT _);let⟨q1,q2,q3⟩:=zgi hw x0 D2 (by lia);rw[zh,zh,zh,e1];simp only;rw[ycR,e2];simp only;have kz:M2 122 0=0:=by rw[D2.keep 122 0 (by decide) (by decide) (by decide) (by decide) (by decide),hb0 122 0 (by decide) (by decide)]
 have kb:∀j,M2 98 j=A 98 j:=λj=>D2.keep 98 j (by decide) (by decide) (by decide) (by decide) (by decide);have nn:=zlc hw (n+1) M2 k2 kz (λi hi=>by rw[kb];exact(db i hi).1);have hnz:¬ ∀i:Nat,i<n+1->M2 98 i=0:=λz=>by
  have:yt (2^w) A 98 (n+1)=0:=(zaR hW (n+1) db).2 λi hi=>by rw[<-kb];exact z i hi
  lia
 have n0:=nn.2 hnz;have no:∀d j,d≠115->(d≠109 \/ j≠0)->(yh (2^w) (nR (n+1)) M2 k2).1 d j=M2 d j:=λd j h1 h2=>zcy _ _ _ _ (zm0 h1 h2);generalize yh (2^w) (nR (n+1)) M2 k2=R at *;let⟨M3,k3⟩:=R;simp only at *;have dc:Dg (2^w) M3 99 (n+1):=λi hi=>by rw[no 99 i (by decide) (.inl (by decide))];exact D2.dq i hi
 have vc:yt (2^w) M3 99 (n+1)=x/y:=by rw[<-q1];exact zd _ λi _=>no 99 i (by decide) (.inl (by decide))
 let⟨f1,f2,f3,f4,f5⟩:=zcd hw M3 k3 dc (by rw[no 122 0 (by decide) (.inl (by decide)),kz]);have f6:∀j,(yh (2^w) (yo (n+1)) M3 k3).1 100 j=M3 100 j:=λj=>zcy _ _ _ _ (zlj (by decide) (by decide) (by decide));rw[vc]at f4 f5;refine⟨?_,?_,?_,?_,f4,f5⟩
 .rw[<-vc];exact zd _ λi _=>f1 i
 .rw[<-q2];exact zd _ λi _=>by rw[f6,no 100 i (by decide) (.inl (by decide))]
 .rw[f2,n0]
 .rw[f3,no 109 1 (by decide) (.inr (by decide)),D2.keep 109 1 (by decide) (by decide) (by decide) (by decide) (by decide),hb0 109 1 (by decide) (by decide)]
theorem zfv{n:Nat}(hn:1<=n)(hn2:n<=8):∀r∈yo n,yau r:=by
 intro r hr;erw[yo,Ax,AO,A8,or_false]at hr;rcases hr with (rfl|hr)|rfl|rfl|rfl|rfl|rfl
 case inl.inr=>let⟨i,hi,rfl⟩:=zad hr;erw[yau,yO];lia
 all_goals erw[yau,yO];lia
theorem zoD:∀r,yau r->rwD r
 |.mark _,h=>h
 |.set _ _,h=>h.2
 |.ask _,_ | .move _ _,_ | .bare _ _,_ | .twice _ _,_ | .half _ _,_ | .sum _ _ _,_ | .less _ _ _,_ | .both _ _ _,_ | .any _ _ _,_ | .odd _ _ _,_=>trivial
theorem ycA{pr:Prop}{nm:AS}{xs:List PV}{b:Bool}{vs:List PV}{ps:List T1}{rs:List Rw}{w n na:Nat}(hw:w<=16)(hn2:n<=4)(nl:nLs xs=AB)(i0:∀st,idxV st (.tp AC (.str nm::xs)) (.int 0)=AA (.str nm))
  (e0:yc T 18 zaS [.tp AC (.str nm::xs)] []=.ok (.tp b vs) []) (c1:yaL vs=AA ps) (c2:nLs vs=AB) (c3:isOk (yc T 16 zF [.tp b vs] []) (.bl AB)=AB) (c4:isOk (yc T 20 zb2 [.tp AC (.str nm::xs)] []) (.bl AB)=AB)
  (hp:pr->yc T 20 zK [.tp AC (.str nm::xs)] []=.ok (.bl AB) []) (pv:yI w n ps=rs.map yP) (ok:∀r∈rs,yau r) (hl:rs.length<=4000) (hr:yaS w n ps<=4000) (ha:ak1 w n ps<=500000)
  {qb:Bool} (q3:yN .isin (.str nm) zac=AA (.bl qb)) (hA:yc T 20 zw [.tp AC (.str nm::xs),.int n] []=.ok (.int na) []):yb0 pr qb (.tp AC (.str nm::xs)) w n na rs:=by
 have nl:nL (.tp AC (.str nm::xs))=true:=by simp[nL,nLs,nl]
 generalize PV.tp AC (.str nm::xs)=d at *;have nl1:nLs [d]=true:=by simp[nLs,nl]
 have rw':∀x∈yI w n ps,ybF x:=λx hx=>by
  rw[pv,DZ]at hx;let⟨r,hr,rfl⟩:=hx;exact zgp r (ok r hr)
 have ht:∀st,yc T (1+18) zaS [d] st=.ok (.tp b vs) st:=λst=>by
  have:=zaw e0 1;rw[show 18+1=18+0+1 by lia]at this;exact zcB (f:=zaS) (fn:=zdB) rfl rfl rfl nl1 this st
 have hit:∀st,yc T (1+16) zF [.tp b vs] st=.ok (.bl AB) st:=λst=>by
  have:=zaw (zdt c3) 1;exact zcB (f:=zF) (fn:=zbj) rfl rfl rfl (by simp[nLs,nL,c2]) this st
 have rows:=zio 1 (w:=w) (n:=n) nl ht c2 c1 (by lia) (by lia) (by lia) (by lia) (by rw[pv,Ap];exact hl) hr ha rw' hit [];rw[pv]at rows;have hT2:T zbd=AA zap:=rfl;have nl2:nLs [d,.int n]=true:=by simp[nLs,nl,nL]
 refine⟨nl,zdt c4,hp,λst=>by rw[i0,B3,q3],rows,λr hr=>?_,hA,?_⟩
 .have hv:nL (yP r)=true:=by cases r<;>rfl
  exact zlN hv (zgp r (ok r hr)) 9 []
 .rw[show (20:Nat)=19+1 from rfl,zc hT2 rfl rfl nl2]
  cases qb<;>simp! [zap,i0,q3,IC.ve9]<;>rfl
theorem aw{pb:Bool}{nm:AS}{xs:List PV}{n:Nat}(nl:nLs xs=AB)(i0:∀st,idxV st (.tp AC (.str nm::xs)) (.int 0)=AA (.str nm))(q1:yN .eq (.str nm) (.str "compare")=AA (.bl AC))(q2:yN .eq (.str nm) (.str "led")=AA (.bl AC))(q4:yN .isin (.str nm) zbu=AA (.bl pb)):yc T 20 zw [.tp AC (.str nm::xs),.int n] []=.ok (.int (if pb=AB then 2*n else n:Nat)) []:=by
 have nl:nL (.tp AC (.str nm::xs))=true:=by simp[nL,nLs,nl]
 generalize PV.tp AC (.str nm::xs)=d at *;have hT1:T zw=AA z8:=rfl;have nl2:nLs [d,.int n]=true:=by simp[nLs,nl,nL]
 rw[show (20:Nat)=19+1 from rfl,zc hT1 rfl rfl nl2]
 cases pb<;>simp! [z8,i0,q1,q2,q4]<;>rfl
def yfk(nm:String)(ps:List T1):Bool:=match yc T 18 zaS [.tp AC [.str (AF nm)]] []with
 |.ok (.tp b vs) []=>decide (yaL vs=AA ps)&&nLs vs&&isOk (yc T 16 zF [.tp b vs] []) (.bl AB)&&isOk (yc T 20 zb2 [.tp AC [.str (AF nm)]] []) (.bl AB)
 |_=>AC
theorem ybJ{nm:String}{qb:Bool}{ps:List T1}{rs:List Rw}{w n na:Nat}(hc:yfk nm ps=AB)(hw:w<=16)(hn2:n<=4)(pv:yI w n ps=rs.map yP)(ok:∀r∈rs,yau r)(hl:rs.length<=4000)(hr:yaS w n ps<=4000)(ha:ak1 w n ps<=500000)(q3:yN .isin (.str (AF nm)) zac=AA (.bl qb))
  (hA:yc T 20 zw [.tp AC [.str (AF nm)],.int n] []=.ok (.int na) []):yb0 (yc T 20 zK [.tp AC [.str (AF nm)]] []=.ok (.bl AB) []) qb (.tp AC [.str (AF nm)]) w n na rs:=by
 unfold yfk at hc;split at hc
 .rename_i b vs e0;erw[AK,decide_eq_true_eq]at hc;let⟨⟨⟨c1,c2⟩,c3⟩,c4⟩:=hc;exact ycA hw hn2 rfl (λ_=>rfl) e0 c1 c2 c3 c4 id pv ok hl hr ha q3 hA
 .cases hc
theorem zjE{T x y z k:Int}(x0:0<=x)(x1:x<T)(y0:0<=y)(y1:y<T)(r0:0<=z)(r1:z<T)(hk:k=0 \/ k=1)(s:z+k*T=x+y):k=bi (decide (T<=x+y))/\((if T<=2*z then 1 else 0)+if T<=2*x then(1:Int)else 0)%2*(((if T<=2*z then 1 else 0)+if T<=2*y then 1 else 0)%2)=bi (!yeC T (sgd T x+sgd T y)):=by
 constructor
 .rcases hk with rfl|rfl
  .rw[decide_eq_false (by lia)];rfl
  .rw[decide_eq_true (by lia)];rfl
 .unfold sgd yeC
  by_cases q1:T<=2*x<;>by_cases q2:T<=2*y<;>by_cases q3:T<=2*z<;>erw[q1,q2,q3,if_true,if_false]
  all_goals (rcases hk with rfl|rfl)
  all_goals first
   |(exfalso;lia)
   |(rw[decide_eq_true (by lia),decide_eq_true (by lia)];rfl)
   |(rw[decide_eq_false (by lia)];rfl)
   |(rw[decide_eq_true (by lia),decide_eq_false (by lia)];rfl)
theorem zkD{w:Nat}(hw:1<w){n:Nat}{x y:Int}(x0:0<=x)(x1:x<(2^w:Int)^(n+1))(y0:0<=y)(y1:y<(2^w:Int)^(n+1)):
  yt (2^w) (yh (2^w) (yaf (n+1)) (yS (2^w) (n+1) x y) 0).1 99 (n+1)=(x+y)%(2^w:Int)^(n+1) /\
  (yh (2^w) (yaf (n+1)) (yS (2^w) (n+1) x y) 0).1 109 0=bi (decide ((2^w:Int)^(n+1)<=x+y)) /\
  (yh (2^w) (yaf (n+1)) (yS (2^w) (n+1) x y) 0).1 109 1=bi (!yeC ((2^w:Int)^(n+1)) (sgd ((2^w:Int)^(n+1)) x+sgd ((2^w:Int)^(n+1)) y)) /\
  (yh (2^w) (yaf (n+1)) (yS (2^w) (n+1) x y) 0).1 109 2=bi ((x+y)%(2^w:Int)^(n+1)==0) /\
  (yh (2^w) (yaf (n+1)) (yS (2^w) (n+1) x y) 0).1 109 3=bi (decide ((2^w:Int)^(n+1)<=2*((x+y)%(2^w:Int)^(n+1)))):=by
 have hW:(0:Int)<2^w:=A4 (by lia);have hW4:(4:Int)<=2^w:=by
  have h:(2:Nat)^2<=2^w:=A9 (by lia) (by lia);have h2:=pw w;lia
 have e:yaf (n+1)=.mark 0::(yK (n+1) .sum++(.sum (109,0) cZ cZ::(yak (99,((n+1:Nat):Int)-1) (97,((n+1:Nat):Int)-1) (98,((n+1:Nat):Int)-1)++yo (n+1)))):=by
  simp[yaf,BB]
 have hn:((n+1:Nat):Int)-1=n:=by lia
 have da:=zgc (n+1) x y hW;have db:=zhh (n+1) x y hW;have va:=zgD (n+1) x y hW x0 x1;have vb:=ziz (n+1) x y hW y0 y1;have zo:yS (2^w) (n+1) x y 122 0=0:=zdN _ _ _ (by decide) (by decide) _;generalize yS (2^w) (n+1) x y=M at *;let⟨s1,s2,s3,s4,s5⟩:=zfY hW (by lia) M 0 (by lia) (by lia) (n+1) da db;have hs0:stepM (2^w) M 0 (.mark 0)=(M,0):=rfl;rw[e,zm,hs0,zh,zm,hn];generalize yh (2^w) (yK (n+1) .sum) M 0=R at *;let⟨M1,k1⟩:=R;simp only at *;have z1:M1 122 0=0:=by rw[s1 122 0 (.inl (by decide)),zo]
 have hs:stepM (2^w) M1 k1 (.sum (109,0) cZ cZ)=(wr M1 (109,0) k1,0):=by
  erw[stepM,rd,cZ,z1];rw[show (0:Int)+0+k1=k1 by lia,A2 s3 (by lia),BJ s3 (by lia)]
 rw[hs,zh];simp only;have g2:∀d j,(d≠109 \/ j≠0)->wr M1 (109,0) k1 d j=M1 d j:=λd j h=>by
  erw[wr,upd];rw[if_neg (by lia)]
 have g3:wr M1 (109,0) k1 109 0=k1:=by simp[wr,upd]
 generalize wr M1 (109,0) k1=M2 at *;have ga:∀j,M2 97 j=M 97 j:=λj=>by rw[g2 97 j (.inl (by decide)),s1 97 j (.inl (by decide))]
 have gb:∀j,M2 98 j=M 98 j:=λj=>by rw[g2 98 j (.inl (by decide)),s1 98 j (.inl (by decide))]
 have gc:∀j,M2 99 j=M1 99 j:=λj=>g2 99 j (.inl (by decide));have da2:Dg (2^w) M2 97 (n+1):=λi hi=>by rw[ga];exact da i hi
 have db2:Dg (2^w) M2 98 (n+1):=λi hi=>by rw[gb];exact db i hi
 have dc2:Dg (2^w) M2 99 (n+1):=λi hi=>by rw[gc];exact s2 i hi
 have ta:=zcC (by lia) da2;have tb':=zcC (by lia) db2;have tc:=zcC (by lia) dc2;rw[zd (M':=M) (c':=97) _ λi hi=>ga i,va]at ta;rw[zd (M':=M) (c':=98) _ λi hi=>gb i,vb]at tb';let⟨r0,r1⟩:=zA hW (n+1) dc2;have vc:yt (2^w) M2 99 (n+1)=yt (2^w) M1 99 (n+1):=zd _ λi hi=>gc i;rw[<-vc,va,vb]at s5;let⟨l1,l2,l3⟩:=zis hw M2 (99,n) (97,n) (98,n) ⟨by simp,by simp⟩ ⟨by simp,by simp⟩ ⟨by simp,by simp⟩ (by rw[g2 122 0 (.inl (by decide)),z1]) (dc2 n (by lia)) (da2 n (by lia)) (db2 n (by lia));generalize yh (2^w) (yak (99,(n:Int)) (97,(n:Int)) (98,(n:Int))) M2 0=R at *;let⟨M3,k3⟩:=R;simp only at *;have gc3:∀j,M3 99 j=M2 99 j:=λj=>l1 99 j (by decide) (by decide) (.inl (by decide));have dc3:Dg (2^w) M3 99 (n+1):=λi hi=>by rw[gc3];exact dc2 i hi
 have vc3:yt (2^w) M3 99 (n+1)=yt (2^w) M2 99 (n+1):=zd _ λi hi=>gc3 i;let⟨e1,e2,e3,e4,e5⟩:=zcd hw M3 k3 dc3 (by rw[l1 122 0 (by decide) (by decide) (.inl (by decide)),g2 122 0 (.inl (by decide)),z1]);rw[zd (M':=M3) (c':=99) _ λi hi=>e1 i,e2,e3,e4,e5,vc3,l1 109 0 (by decide) (by decide) (.inr (by decide)),g3,l3];erw[rd];rw[tc,ta,tb'];generalize yt (2^w) M2 99 (n+1)=z at *;generalize (2^w:Int)^(n+1)=T at *;have hz:(x+y)%T=z:=by
  rw[show x+y=z+k1*T by lia,B5,A2 r0 r1]
 have hk:k1=0 \/ k1=1:=by lia
 rw[hz];let⟨o1,o2⟩:=zjE x0 x1 y0 y1 r0 r1 hk (by lia);exact⟨rfl,o1,o2,rfl,rfl⟩
theorem zgr{W:Int}(hW:0<W){f:Nat->Int}{x:Int}:∀n,(∀i:Nat,i<n->f i=x/W^i%W)->yce W f n=x%W^n
 |0,_=>by simp[yce,HV]
 |n+1,h=>by rw[yce,zgr hW n λi hi=>h i (by lia),h n (by lia),zcq hW]
structure Two(op:Nat->Nat->Nat)(oi:Int->Int->Int):Prop where
 cast:∀a b:Nat,oi a b=(op a b:Nat)
 mod:∀a b k:Nat,op a b%2^k=op (a%2^k) (b%2^k)
 div:∀a b k:Nat,op a b/2^k=op (a/2^k) (b/2^k)
 lt:∀a b k:Nat,a<2^k->b<2^k->op a b<2^k
theorem zlr:Two (· &&& ·) BH:=⟨zdM,λa b k=>Fg,λa b k=>Fh,λa b k h1 h2=>E6 a h2⟩
theorem zfH(w i X:Nat):((X:Int)/(2^w:Int)^i%2^w)=((X/2^(w*i)%2^w:Nat):Int):=by
 rw[Nat.pow_mul];simp
theorem zjc{op:Nat->Nat->Nat}{oi:Int->Int->Int}(O:Two op oi)(f:Cel->Cel->Cel->Rw)(hf:∀W M k t x y,stepM W M k (f t x y)=(wr M t (oi (rd M x) (rd M y)),k)){w:Nat}(hw:1<w){n:Nat}{X Y:Nat}(x1:X<2^(w*(n+1)))(y1:Y<2^(w*(n+1))):
  yt (2^w) (yh (2^w) (yZ f (n+1)) (yS (2^w) (n+1) X Y) 0).1 99 (n+1)=(op X Y:Nat) /\
  (yh (2^w) (yZ f (n+1)) (yS (2^w) (n+1) X Y) 0).1 109 0=0 /\
  (yh (2^w) (yZ f (n+1)) (yS (2^w) (n+1) X Y) 0).1 109 1=0 /\
  (yh (2^w) (yZ f (n+1)) (yS (2^w) (n+1) X Y) 0).1 109 2=bi (((op X Y:Nat):Int)==0) /\
  (yh (2^w) (yZ f (n+1)) (yS (2^w) (n+1) X Y) 0).1 109 3=bi (decide ((2^w:Int)^(n+1)<=2*((op X Y:Nat):Int))):=by
 have hW:(0:Int)<2^w:=A4 (by lia);have hg:∀i:Nat,i<n+1->oi (yS (2^w) (n+1) X Y 97 i) (yS (2^w) (n+1) X Y 98 i)=((op X Y/2^(w*i)%2^w:Nat):Int):=λi hi=>by
  rw[zl8 _ _ _ hW hi,zl6 _ _ _ hW hi,zfH,zfH,O.cast,O.div,O.mod]
 let⟨a1,a2,a3,a4,a5⟩:=zkC hw (n:=n) (yS (2^w) (n+1) X Y) (λi=>f (99,i) (97,i) (98,i)) (λi=>oi (yS (2^w) (n+1) X Y 97 i) (yS (2^w) (n+1) X Y 98 i)) (λM1 i h=>by
  rw[hf];erw[rd,h 97 i (by decide),h 98 i (by decide)]) (λi hi=>by
   rw[hg i hi,<-pw];have:=Nat.mod_lt (op X Y/2^(w*i)) (F3 (n:=w) (show 0<2 by lia));lia) (zdN _ _ _ (by decide) (by decide) _) (zdN _ _ _ (by decide) (by decide) _) (zdN _ _ _ (by decide) (by decide) _)
 have hv:yce (2^w) (λi=>oi (yS (2^w) (n+1) X Y 97 (i:Nat)) (yS (2^w) (n+1) X Y 98 (i:Nat))) (n+1)=(op X Y:Nat):=by
  rw[zgr (x:=((op X Y:Nat):Int)) hW (n+1) λi hi=>by rw[hg i hi,zfH]];have h1:=O.lt X Y _ x1 y1;rw[<-CB,<-pw];exact A2 (by lia) (by lia)
 rw[hv]at a1 a4 a5;exact⟨a1,a2,a3,a4,a5⟩
theorem zgk{w:Nat}(hw:0<w):(2:Int)^w=2*2^(w-1):=by
 obtain⟨v,rfl⟩:∃v,w=v+1:=⟨w-1,by lia⟩;rw[show v+1-1=v by lia,Ac,Ae]
theorem zg4{w:Nat}(hw:1<w){n s:Nat}{x:Int}(x0:0<=x)(x1:x<(2^w:Int)^(n+1)):
  yt (2^w) (yh (2^w) (yX s (n+1)) (yS (2^w) (n+1) x 0) 0).1 99 (n+1)=x/2^s /\
  (yh (2^w) (yX s (n+1)) (yS (2^w) (n+1) x 0) 0).1 109 0=(if s=0 then 0 else x/2^(s-1)%2) /\
  (yh (2^w) (yX s (n+1)) (yS (2^w) (n+1) x 0) 0).1 109 1=0 /\
  (yh (2^w) (yX s (n+1)) (yS (2^w) (n+1) x 0) 0).1 109 2=bi (x/2^s==0) /\
  (yh (2^w) (yX s (n+1)) (yS (2^w) (n+1) x 0) 0).1 109 3=bi (decide ((2^w:Int)^(n+1)<=2*(x/2^s))):=by
 have hH:=zgk (w:=w) (by lia);have hH0:(0:Int)<2^(w-1):=A4 (by lia);have hH1:(1:Int)<=2^(w-1):=by lia
 have hW:(0:Int)<2^w:=A4 (by lia);let⟨a1,a2⟩:=zf0 (W:=2^w) hW (n:=n+1) (x:=x) (y:=0) x0 x1;have e:yX s (n+1)=yV (n+1)++(yx (.mark 0::yD (n+1)) s++(.sum (109,0) cZ cZ::yo (n+1))):=by
  erw[yX,BB,Aw,BW]
 have hr:=zdJ (H:=2^(w-1)) hH1 (n:=n+1) (M0:=yS (2^w) (n+1) x 0) (M:=(yh (2^w) (yV (n+1)) (yS (2^w) (n+1) x 0) 0).1) (x:=x);rw[<-hH]at hr;let⟨M',k',e1,k0,k1,h1,q⟩:=hr a2 s;rw[e,zh,a1,zh,e1];have hse:=zeT hw h1 k0 k1 (zdN _ _ _ (by decide) (by decide) _) (zdN _ _ _ (by decide) (by decide) _);rw[<-q];exact hse
theorem zkE{w:Nat}(hw:1<w){n:Nat}{M0 M:Mem}{k v:Int}(k0:0<=k)(k1:k<=1)(h:Shf (2^w) (n+1) M0 M v):
  ∃M' k' v',yh (2^w) (yaF (n+1)::yD (n+1)) M k=(M',k')/\0<=k'/\k'<=1/\Shf (2^w) (n+1) M0 M' v'/\2*v'+k'=v+(if (2^w:Int)^(n+1)<=2*v then 1 else 0)*(2^w:Int)^(n+1):=by
 have hH:=zgk (w:=w) (by lia);have hH0:(0:Int)<2^(w-1):=A4 (by lia);have hH1:(1:Int)<=2^(w-1):=by lia
 have hc:=h.dg n (by lia);have ht:=zcC (by lia:0<w) h.dg;rw[h.val]at ht;have hm:(2*M 99 n+k)/2^w=tb w (M 99 n):=by
  unfold tb;rw[hH,<-BX (by lia),<-BX (by lia),show (2*M 99 n+k)/2=M 99 n by lia,show 2*M 99 n/2=M 99 n by lia]
 have hst:stepM (2^w) M k (yaF (n+1))=(wr M cT ((2*M 99 n+k)%2^w),if (2^w:Int)^(n+1)<=2*v then 1 else 0):=by
  erw[yaF,stepM,rd];rw[show ((n+1:Nat):Int)-1=n by lia,hm,ht]
 rw[zm,hst];simp only;have g:∀d j,d≠116->wr M cT ((2*M 99 n+k)%2^w) d j=M d j:=λd j hd=>by
  erw[wr,upd];rw[if_neg (by lia)]
 generalize wr M cT ((2*M 99 n+k)%2^w)=M1 at *;have d1:Dg (2^w) M1 99 (n+1):=λi hi=>by rw[g 99 i (by decide)];exact h.dg i hi
 have v1:yt (2^w) M1 99 (n+1)=v:=by rw[<-h.val];exact zd _ λi hi=>g 99 i (by decide)
 have hl:=zdH (H:=2^(w-1)) hH1 (n+1) M1 (if (2^w:Int)^(n+1)<=2*v then 1 else 0) (by split<;>lia) (by split<;>lia);rw[<-hH]at hl;let⟨h1,h2,h3,h4,h5⟩:=hl d1;rw[v1]at h5;exact⟨_,_,_,rfl,h3,h4,⟨h2,rfl,λd j hd ht=>by rw[h1 d j (.inl hd),g d j ht,h.keep d j hd ht]⟩,h5⟩
theorem zd9{w:Nat}(hw:1<w){n:Nat}{M0 M:Mem}{x:Int}(h:Shf (2^w) (n+1) M0 M x)(x0:0<=x)(x1:x<(2^w:Int)^(n+1)):∀s:Nat,∃M' k' v,yh (2^w) (yx (yaF (n+1)::yD (n+1)) s) M 0=(M',k')/\0<=k'/\k'<=1/\Shf (2^w) (n+1) M0 M' v/\0<=v/\v<(2^w:Int)^(n+1)/\sgd ((2^w:Int)^(n+1)) v=sgd ((2^w:Int)^(n+1)) x/2^s/\k'=if s=0 then 0 else sgd ((2^w:Int)^(n+1)) x/2^(s-1)%2
 |0=>⟨M,0,x,rfl,by lia,by lia,h,x0,x1,by rw[Ch,EG],rfl⟩
 |s+1=>by
  let⟨M1,k1,v1,e1,a0,a1,h1,b0,b1,q1,_⟩:=zd9 hw h x0 x1 s;let⟨M2,k2,v2,e2,c0,c1,h2,q2⟩:=zkE hw a0 a1 h1;have hT:(2:Int)<=(2^w:Int)^(n+1):=by
   have hp:(2:Int)^(w*(n+1))=(2^w:Int)^(n+1):=CB;rw[<-hp,<-pw];have:(2:Nat)^1<=2^(w*(n+1)):=A9 (by lia) (B1 (by lia) (Aj (by lia:1<=w) (by lia:1<=n+1)));lia
  have hS:2*sgd ((2^w:Int)^(n+1)) v2+k2=sgd ((2^w:Int)^(n+1)) v1/\0<=v2/\v2<(2^w:Int)^(n+1):=by
   generalize (2^w:Int)^(n+1)=T at *;unfold sgd
   by_cases z:T<=2*v1
   .rw[if_pos z,Bg]at q2;rw[if_pos z,if_pos (by lia)];lia
   .rw[if_neg z,Bm]at q2;rw[if_neg z,if_neg (by lia)];lia
  have hd:sgd ((2^w:Int)^(n+1)) x/2^s/2=sgd ((2^w:Int)^(n+1)) x/2^(s+1):=by
   rw[show (2:Int)^(s+1)=2^s*2 from Ac ..,BX (Bu (A4 (by lia)))]
  refine⟨M2,k2,v2,?_,c0,c1,h2,hS.2.1,hS.2.2,?_,?_⟩
  .rw[yx,zh,e1];exact e2
  .rw[<-hd,<-q1];lia
  .rw[if_neg (by lia),show s+1-1=s by lia,<-q1];lia
theorem zhE{w:Nat}(hw:1<w){n s:Nat}{x:Int}(x0:0<=x)(x1:x<(2^w:Int)^(n+1)):
  yt (2^w) (yh (2^w) (yal s (n+1)) (yS (2^w) (n+1) x 0) 0).1 99 (n+1)=sgd ((2^w:Int)^(n+1)) x/2^s%(2^w:Int)^(n+1) /\
  (yh (2^w) (yal s (n+1)) (yS (2^w) (n+1) x 0) 0).1 109 0=(if s=0 then 0 else sgd ((2^w:Int)^(n+1)) x/2^(s-1)%2) /\
  (yh (2^w) (yal s (n+1)) (yS (2^w) (n+1) x 0) 0).1 109 1=0 /\
  (yh (2^w) (yal s (n+1)) (yS (2^w) (n+1) x 0) 0).1 109 2=bi (sgd ((2^w:Int)^(n+1)) x/2^s%(2^w:Int)^(n+1)==0) /\
  (yh (2^w) (yal s (n+1)) (yS (2^w) (n+1) x 0) 0).1 109 3=bi (decide ((2^w:Int)^(n+1)<=2*(sgd ((2^w:Int)^(n+1)) x/2^s%(2^w:Int)^(n+1)))):=by
 have hW:(0:Int)<2^w:=A4 (by lia);let⟨a1,a2⟩:=zf0 (W:=2^w) hW (n:=n+1) (x:=x) (y:=0) x0 x1;have e:yal s (n+1)=yV (n+1)++(yx (yaF (n+1)::yD (n+1)) s++(.sum (109,0) cZ cZ::yo (n+1))):=by
  erw[yal,BB,Aw,BW]
 let⟨M',k',v,e1,k0,k1,h1,v0,v1,q1,q2⟩:=zd9 hw a2 x0 x1 s;rw[e,zh,a1,zh,e1];have hse:=zeT hw h1 k0 k1 (zdN _ _ _ (by decide) (by decide) _) (zdN _ _ _ (by decide) (by decide) _);have hv:sgd ((2^w:Int)^(n+1)) x/2^s%(2^w:Int)^(n+1)=v:=by
  rw[<-q1];unfold sgd;split
  .rw[Int.sub_emod_right];exact A2 v0 v1
  .exact A2 v0 v1
 rw[<-q2,hv];exact hse
noncomputable abbrev cG:Cel:=(103,0)
theorem zkI{w:Nat}{A b:Int}(a0:0<=A)(a1:A<2^w)(hb:b=0 \/ b=1):BR A (b*(2^w-1))=A+b*(2^w-1-2*A):=by
 obtain⟨x,rfl⟩:∃n:Nat,A=n:=⟨A.toNat,by lia⟩;rcases hb with rfl|rfl
 .rw[Bm,Bm];have:=zhU x 0;simpa using this
 .rw[Bg,Bg];have hp:=pw w;have h1:(0:Nat)<2^w:=F3 (by lia);have h2:((2:Int)^w-1)=((2^w-1:Nat):Int):=by lia
  have h3:=zdM x (2^w-1);have h4:=zdA x (2^w-1);have h6:x ||| (2^w-1)=2^w-1:=by
   apply Nat.eq_of_testBit_eq;intro i;rw[Nat.testBit_or,Nat.testBit_two_pow_sub_one]
   by_cases hi:i<w
   .simp[hi]
   .have:x<2^i:=A7 (by lia) (A9 (by lia) (show w<=i by lia));rw[Nat.testBit_lt_two_pow this];simp[hi]
  rw[BR,h2,h3,h4,h6,Cb,Gc (by lia)];lia
def trL(src to n:Nat):List Rw:=upTo (λi=>[Rw.odd cT (src,(i:Int)) cG,Rw.sum (to,(i:Int)) cT cZ]) n
theorem zhV{w:Nat}(hw:1<=w){src to:Nat}(h1:src≠to)(h2:src≠116)(h3:to≠116/\to≠103/\to≠122)(M:Mem)(b:Int)(hb:b=0 \/ b=1)(hg:M 103 0=b*(2^w-1))(hz:M 122 0=0):∀n,Dg (2^w) M src n->∃M' k',yh (2^w) (trL src to n) M b=(M',k')/\(∀d j,d≠116->(d≠to \/ (n:Int)<=j)->M' d j=M d j)/\Dg (2^w) M' to n/\0<=k'/\k'<=1/\yt (2^w) M' to n+k' * (2^w)^n=yt (2^w) M src n+b*((2^w)^n-2*yt (2^w) M src n)
 |0,_=>⟨M,b,rfl,λ_ _ _ _=>rfl,λi hi=>by lia,by lia,by lia,by simp[yt]⟩
 |n+1,hd=>by
  have hW:(0:Int)<2^w:=A4 (by lia);let⟨M1,k',e1,o1,g1,p1,p2,v1⟩:=zhV hw h1 h2 h3 M b hb hg hz n hd.mono;let⟨a0,a1⟩:=hd n (by lia);have hX:0<=M src n+b*(2^w-1-2*M src n)/\M src n+b*(2^w-1-2*M src n)<2^w:=by rcases hb with rfl|rfl<;>lia
  generalize hXX:M src n+b*(2^w-1-2*M src n)=X at *;let⟨d1,d2,d3,d4,d5⟩:=zbx (W:=2^w) hW (s:=X+0+k') (by lia) (by lia);have hT:∀d j,d≠116->upd M1 116 0 X d j=M1 d j:=λd j h=>by unfold upd;rw[if_neg (by lia)]
  have hv:∀i:Nat,i<n->upd M1 116 0 X to i=M1 to i:=λi _=>hT to i h3.1;refine⟨upd (upd M1 116 0 X) to n ((X+0+k')%2^w),(X+0+k')/2^w,?_,λd j h6 h7=>?_,zdV (λi hi=>by rw[hv i hi];exact g1 i hi) d1 d2,d3,d4,?_⟩
  .rw[trL,upTo,zh];show yh (2^w) [Rw.odd cT (src,(n:Int)) cG,Rw.sum (to,(n:Int)) cT cZ] (yh (2^w) (trL src to n) M b).1 (yh (2^w) (trL src to n) M b).2=_;rw[e1];have hgg:M1 103 0=b*(2^w-1):=by rw[o1 103 0 (by decide) (.inl (λz=>h3.2.1 z.symm)),hg]
   have hss:M1 src n=M src n:=o1 src n h2 (.inl h1);have htt:upd M1 116 0 X 116 0=X:=by unfold upd;rw[if_pos ⟨rfl,rfl⟩]
   have hzz:upd M1 116 0 X 122 0=0:=by rw[hT 122 0 (by decide),o1 122 0 (by decide) (.inl (λz=>h3.2.2 z.symm)),hz]
   erw[yh,stepM,rd,wr,cT,cG,cZ,hgg,hss,zkI a0 a1 hb,hXX,htt,hzz]
  .unfold upd;rw[if_neg (by lia),if_neg (by lia),o1 d j h6 (by lia)]
  .rw[zcE,zd (M':=M1) (c':=to) n hv,yt,Ac];generalize ((2:Int)^w)^n=P at *;generalize (X+0+k')%2^w=u at *;generalize (X+0+k')/2^w=t at *;generalize M src (n:Int)=A at *;generalize (2:Int)^w=W at *;generalize yt W M src n=V at *;generalize yt W M1 to n=Z at *;have e3:(u+t*W)*P=(X+0+k')*P:=by rw[d5]
   rw[BL,BL,BL,Bm,Ad t W P,Ae W P,<-hXX,BL,Ad b,B4,B4,Bg,Ad 2 A P,Ae W P]at e3;generalize u*P=x1 at *;generalize t*(P*W)=x2 at *;generalize A*P=x3 at *;generalize k' * P=x4 at *;generalize P*W=x7 at *;rcases hb with rfl|rfl<;>lia
def trn(s src to n:Nat):List Rw:=.ask (s,0) :: .less cG cZ cZ::trL src to n
theorem zeR{w:Nat}(hw:1<w){s src to:Nat}(h1:src≠to)(h2:src≠116/\src≠103)(h3:to≠116/\to≠103/\to≠122){M:Mem}{k:Int}{b:Int}(hb:b=0 \/ b=1)(hs:M s 0=b)(hz:M 122 0=0){n:Nat}(hd:Dg (2^w) M src n):
  ∃M' k',yh (2^w) (trn s src to n) M k=(M',k')/\(∀d j,d≠116->d≠103->d≠to->M' d j=M d j)/\Dg (2^w) M' to n/\yt (2^w) M' to n=(if b=1 then 0-yt (2^w) M src n else yt (2^w) M src n)%(2^w)^n:=by
 have hW:(0:Int)<2^w:=A4 (by lia);have hW4:(4:Int)<=2^w:=by
  have h:(2:Nat)^2<=2^w:=A9 (by lia) (by lia);have h2:=pw w;lia
 have e1:stepM (2^w) M k (.ask (s,0))=(M,b):=by
  erw[stepM,rd,hs];rcases hb with rfl|rfl<;>rfl
 have e2:stepM (2^w) M b (.less cG cZ cZ)=(upd M 103 0 (b*(2^w-1)),b):=by
  erw[stepM,rd,wr,cG,cZ,hz];rcases hb with rfl|rfl
  .simp[bi]
  .have:((0:Int)-0-1)%2^w=1*(2^w-1):=by
    rw[<-Ci,A2 (by lia) (by lia)];lia
   rw[this];rfl
 have o2:∀d j,d≠103->upd M 103 0 (b*(2^w-1)) d j=M d j:=λd j hd=>by unfold upd;rw[if_neg (by lia)]
 have f2:upd M 103 0 (b*(2^w-1)) 103 0=b*(2^w-1):=by unfold upd;rw[if_pos ⟨rfl,rfl⟩]
 generalize upd M 103 0 (b*(2^w-1))=M1 at *;let⟨M2,k2,e3,o3,g3,p3,p4,v3⟩:=zhV (w:=w) (by lia) h1 h2.1 h3 M1 b hb f2 (by rw[o2 122 0 (by decide),hz]) n (λi hi=>by rw[o2 src i h2.2];exact hd i hi);rw[zd (M:=M1) (M':=M) (c:=src) (c':=src) n λi _=>o2 src i h2.2]at v3;let⟨r0,r1⟩:=zA hW n g3;refine⟨M2,k2,?_,λd j h4 h5 h6=>by rw[o3 d j h4 (.inl h6),o2 d j h5],g3,?_⟩
 .rw[trn,zm,e1,zm,e2];exact e3
 .generalize ((2:Int)^w)^n=P at *;generalize yt (2^w) M src n=V at *;generalize yt (2^w) M2 to n=Z at *;rcases hb with rfl|rfl
  .rw[if_neg (by lia),show V=Z+k2*P by lia,B5,A2 r0 r1]
  .have e:Z+k2*P=0-V+1*P:=by lia
   rw[if_pos rfl,<-B5 (0-V) 1 P,<-e,B5,A2 r0 r1]
theorem zes{w:Nat}(hw:1<w){s c:Nat}(hs:s≠116)(hc:c≠116){M:Mem}{k:Int}(k0:k=0)(hz:M 122 0=0){n:Nat}(hd:Dg (2^w) M c (n+1))(j:Int):
  yh (2^w) [.twice cT (c,((n+1:Nat):Int)-1),.sum (s,j) cZ cZ] M k=(upd (upd M 116 0 (2*M c n%2^w)) s j (if (2^w:Int)^(n+1)<=2*yt (2^w) M c (n+1)then 1 else 0),0):=by
 have hW4:(4:Int)<=2^w:=by
  have h:(2:Nat)^2<=2^w:=A9 (by lia) (by lia);have h2:=pw w;lia
 subst k0;have ht:=zcC (by lia) hd;have hn:((n+1:Nat):Int)-1=n:=by lia
 have hz2:upd M 116 0 (2*M c n%2^w) 122 0=0:=by unfold upd;rw[if_neg (by lia),hz]
 have hT:2*M c n/2^w=if (2^w:Int)^(n+1)<=2*yt (2^w) M c (n+1)then 1 else 0:=ht;rw[hn];erw[yh,stepM,rd,wr,cT,cZ,DA,hT,hz2];generalize hb:(if (2^w:Int)^(n+1)<=2*yt (2^w) M c (n+1)then(1:Int)else 0)=b;have hb2:0<=b/\b<=1:=by split at hb<;>lia
 rw[D4,A2 hb2.1 (by lia),BJ hb2.1 (by lia)]
def sqA(w n:Nat):List Rw:=[.twice cT (97,(n:Int)-1),.sum (105,0) cZ cZ]++([.twice cT (98,(n:Int)-1),.sum (106,0) cZ cZ]++(.odd (107,0) (105,0) (106,0)::(trn 105 97 117 n++(trn 106 98 118 n++(mvR 117 n++(ycR 118 113 114 w n++(trn 107 113 99 n++trn 105 114 100 n)))))))
def sqB(n:Nat):List Rw:=[.twice cT (113,(n:Int)-1),.sum (109,1) cZ cZ]++(.any (109,1) (109,1) (107,0) :: .odd (109,1) (109,1) (107,0)::yo n)
def yas(w n:Nat):List Rw:=sqA w n++nR n++sqB n
def o0(c:Nat):Op:=cx c 0 0 0 0
def lO(c:Nat):Op:=cx c (-1) 0 0 1
def trT(s src to:Nat):List T1:=[.row (rS "ask" [o0 s]),.row (rS "less" [o0 103,oZ,oZ]),.rounds 0 1 0 [.row (rS "odd" [oT,cx src 0 1 0 0,o0 103]),.row (rS "sum" [cx to 0 1 0 0,oT,oZ])]]
def sgT(s c:Nat):List T1:=[.row (rS "twice" [oT,lO c]),.row (rS "sum" [o0 s,oZ,oZ])]
def sqT:List T1:=sgT 105 97++(sgT 106 98++(.row (rS "odd" [o0 107,o0 105,o0 106])::(trT 105 97 117++(trT 106 98 118++(mvT 117 :: .rounds 0 0 1 (dvT 118 113 114)::(trT 107 113 99++(trT 105 114 100++(nT++(.row (rS "twice" [oT,lO 113]) :: .row (rS "sum" [oM 1,oZ,oZ]) :: .row (rS "any" [oM 1,oM 1,o0 107]) :: .row (rS "odd" [oM 1,oM 1,o0 107])::ya3 0 1)))))))))
theorem zqq(s src to:Nat)(w:Int)(n:Nat):yI w n (trT s src to)=(trn s src to n).map yP:=by
 have h:=zaK (g:=λI=>yam w n I [.row (rS "odd" [oT,cx src 0 1 0 0,o0 103]),.row (rS "sum" [cx to 0 1 0 0,oT,oZ])]) (f:=λi=>[Rw.odd cT (src,(i:Int)) cG,Rw.sum (to,(i:Int)) cT cZ]) (λI=>by simp[yam,T2.rows,Rs.pv,rS,Op.pv,oT,oZ,o0,cx,Cx.at,yP,yH]) n;erw[yI,trT,BY,Bq,T1.rows,zaJ,h,trn,trL,AL,BD];simp[Rs.pv,rS,Op.pv,oZ,o0,cx,Cx.at,yP,yH]
theorem zp1(c n:Nat):(lO c).pv 0 0 n=yH (c,(n:Int)-1):=by
 have:(-1:Int)+0*0+0*0+1*(n:Int)=(n:Int)-1:=by lia
 erw[lO,Op.pv,cx,Cx.at,this,yH]
theorem zjl(w n:Int)(p:T1)(ps:List T1):yI w n (p::ps)=T1.rows w n p++yI w n ps:=by simp[yI]
theorem zpZ(w n:Nat):yI w n sqT=(yas w n).map yP:=by
 have m0:(oM 1).pv 0 0 n=yH (109,1):=by simp[oM,Op.pv,cx,Cx.at,yH]
 have z0:oZ.pv 0 0 n=yH cZ:=by simp[oZ,Op.pv,cx,Cx.at,yH]
 have t0:oT.pv 0 0 n=yH cT:=by simp[oT,Op.pv,cx,Cx.at,yH]
 have c0:∀c:Nat,(o0 c).pv 0 0 n=yH (c,0):=λc=>by simp[o0,Op.pv,cx,Cx.at,yH]
 erw[sqT,sgT,zaH,zjl,zqq,zol,zk2,yfn,zeb,yas,sqA,sqB,B2,AL,Ak,Aw,BW,BB];erw[T1.rows,Rs.pv,rS,AL,Ak,Aw,BW,zp1,m0,z0,t0,c0];rfl
theorem yg6:Lt 118 113 114:=⟨by decide,by decide,by decide,by decide,by decide,by decide⟩
theorem zlX{W:Int}(n:Nat)(M:Mem)(k:Int)(hz:M 122 0=0):(yh W (nR n) M k).2=0:=by
 have e:nR n=([.set cS 0]++upTo (λi=>[Rw.any cS cS (98,i)]) n)++[.ask cS,.set (109,0) 1,.less (109,0) (109,0) cZ]:=rfl;have hm:∀r∈[.set cS 0]++upTo (λi=>[Rw.any cS cS (98,i)]) n,tgN 122 0 r:=λr hr=>zm0 (n:=n) (by decide) (.inl (by decide)) r (by rw[e];exact Do _ hr);rw[e,zh];have hz1:=zcy W (d:=122) (j:=0) _ M k hm;generalize yh W ([.set cS 0]++upTo (λi=>[Rw.any cS cS (98,i)]) n) M k=R at *;let⟨M1,k1⟩:=R;simp only at *;rw[hz]at hz1;erw[yh,stepM,rd,wr,upd,cS,cZ,De,false_and,if_false,and_self,if_true,hz1]
 cases (M1 115 0==0)<;>rfl
noncomputable def yay(x:Int):Int:=if x<0 then -x else x
def ybB(X Y:Int):Int:=if (decide (X<0) != decide (Y<0))=AB then 0-yay X/yay Y else yay X/yay Y
theorem ydd{a b:Int}(ha:a=0 \/ a=1)(hb:b=0 \/ b=1):BR a b=(if a=b then 0 else 1)/\BR (Az a b) b=(if a=1/\b=0 then 1 else 0):=by
 rcases ha with rfl|rfl<;>rcases hb with rfl|rfl<;>decide
theorem zhn{P x:Int}(x0:0<=x)(x1:x<P):(if (if P<=2*x then(1:Int)else 0)=1 then 0-x else x)%P=yay (sgd P x)/\(sgd P x<0 ↔ P<=2*x)/\yay (sgd P x)<P/\0<=yay (sgd P x)/\(0<x->0<yay (sgd P x)):=by
 unfold yay sgd
 by_cases h:P<=2*x
 .simp only[h,if_true];have e:(0-x)%P=P-x:=by
   rw[<-Ci];rw[A2 (by lia) (by lia)];lia
  rw[if_pos (by lia),e];exact⟨by lia,⟨λ_=>trivial,λ_=>by lia⟩,by lia,by lia,λ_=>by lia⟩
 .have h0:¬x<0:=by lia
  erw[h,if_false,h0];rw[if_neg (by lia),A2 x0 x1];exact⟨rfl,trivial,x1,x0,λz=>z⟩
theorem zdS(x:Int):x<0/\yay x=-x \/ ¬x<0/\yay x=x:=by
 unfold yay
 by_cases h:x<0
 .rw[if_pos h];exact .inl ⟨h,rfl⟩
 .rw[if_neg h];exact .inr ⟨h,rfl⟩
theorem zmZ(X Y:Int):X-Y*ybB X Y=if X<0 then 0-yay X%yay Y else yay X%yay Y:=by
 have hd:=Int.emod_def (yay X) (yay Y);unfold ybB;rcases zdS X with⟨a,ea⟩|⟨a,ea⟩<;>rcases zdS Y with⟨b,eb⟩|⟨b,eb⟩<;>erw[a,b,decide_true,decide_false,bne_self_eq_false,Bo,if_false,if_true,Bool.true_bne,Bool.false_bne,Bool.not_false,HF]<;>rw[hd]<;>generalize yay X/yay Y=q at *<;>rw[ea,eb]<;>(have e1:Y*(0-q)=-(Y*q):=by rw[Ds,Int.mul_zero,Int.zero_sub])<;>(have e2:-Y*q=-(Y*q):=Int.neg_mul ..)<;>(try rw[e1])<;>(try rw[e2])<;>generalize Y*q=z at *<;>lia
theorem zpo{p:Prop}[Decidable p]:(if p then(1:Int)else 0)=bi (decide p):=by
 by_cases h:p
 .rw[if_pos h,decide_eq_true h];rfl
 .rw[if_neg h,decide_eq_false h];rfl
theorem yef{A:Mem}{c d e:Nat}{i v j k u:Int}(h:d≠c)(g:d≠e \/ j≠k):upd (upd A c i v) e k u d j=A d j:=by
 unfold upd;rw[if_neg λz=>g.elim (λa=>a z.1) λa=>a z.2,if_neg λe=>h e.1]
theorem yfN{A:Mem}{c d:Nat}{j k u v:Int}(g:d≠c \/ j≠k):upd (upd A c k v) c k u d j=A d j:=by
 have h:¬(d=c/\j=k):=λz=>g.elim (λa=>a z.1) λa=>a z.2;unfold upd;rw[if_neg h,if_neg h]
theorem yeh{p:Prop}[Decidable p]{s:Int}(h:(if p then(1:Int)else 0)=s):s=0 \/ s=1:=by subst h;split<;>decide
theorem yeE{p:Prop}[Decidable p]{s:Int}(h:(if p then(0:Int)else 1)=s):s=0 \/ s=1:=by subst h;split<;>decide
theorem if1{p:Prop}[Decidable p]{s:Int}(h:(if p then(1:Int)else 0)=s):s=1 ↔ p:=by
 subst h;by_cases g:p
 .rw[if_pos g];exact⟨λ_=>g,λ_=>rfl⟩
 .rw[if_neg g];exact⟨λz=>absurd z (by decide),λz=>absurd z g⟩
theorem zqf{sx sy sk X Y:Int}(hx:sx=0 \/ sx=1)(hy:sy=0 \/ sy=1)(h1:sx=1 ↔ X<0)(h2:sy=1 ↔ Y<0)(hsk:(if sx=sy then(0:Int)else 1)=sk):sk=1 ↔ (decide (X<0) != decide (Y<0))=true:=by
 by_cases a:X<0<;>by_cases b:Y<0<;>rcases hx with rfl|rfl<;>rcases hy with rfl|rfl<;>simp[a,b]at h1 h2 hsk ⊢<;>lia
theorem znP{P D t sk:Int}(hP:0<P)(hD:0<=D)(ht:(if P<=2*D then(1:Int)else 0)=t)(h:sk=0 \/ sk=1):(t=1/\sk=0) ↔ P<=2*(if sk=1 then 0-D else D):=by
 rw[if1 ht];rcases h with rfl|rfl
 .rw[if_neg (by decide)];exact⟨λz=>z.1,λz=>⟨z,rfl⟩⟩
 .rw[if_pos rfl];lia
theorem zg6{w:Nat}(hw:1<w){n:Nat}{x y:Int}(x0:0<=x)(x1:x<(2^w:Int)^(n+1))(y0:0<y)(y1:y<(2^w:Int)^(n+1)){P X Y Q:Int}(hP:P=(2^w:Int)^(n+1))(hX:X=sgd P x)(hY:Y=sgd P y)(hQ:Q=ybB X Y):
  yt (2^w) (yh (2^w) (yas w (n+1)) (yS (2^w) (n+1) x y) 0).1 99 (n+1)=Q%P/\yt (2^w) (yh (2^w) (yas w (n+1)) (yS (2^w) (n+1) x y) 0).1 100 (n+1)=(X-Y*Q)%P /\
  (yh (2^w) (yas w (n+1)) (yS (2^w) (n+1) x y) 0).1 109 0=0/\(yh (2^w) (yas w (n+1)) (yS (2^w) (n+1) x y) 0).1 109 1=bi (decide (P<=2*Q)) /\
  (yh (2^w) (yas w (n+1)) (yS (2^w) (n+1) x y) 0).1 109 2=bi (Q%P==0)/\(yh (2^w) (yas w (n+1)) (yS (2^w) (n+1) x y) 0).1 109 3=bi (decide (P<=2*(Q%P))):=by
 have hW:(0:Int)<2^w:=A4 (by decide);have hb0:∀d j,d≠97->d≠98->yS (2^w) (n+1) x y d j=0:=λd j h1 h2=>zdN _ _ _ h1 h2 _;have da:=zgc (n+1) x y hW;have db:=zhh (n+1) x y hW;have va:=zgD (n+1) x y hW x0 x1;have vb:=ziz (n+1) x y hW (Bu y0) y1;rw[yas,sqB];generalize yS (2^w) (n+1) x y=A at hb0 da db va vb ⊢;have e1:=zes hw (s:=105) (c:=97) (M:=A) (k:=0) (by decide) (by decide) rfl (hb0 122 0 (by decide) (by decide)) da 0;rw[va,<-hP]at e1;generalize hsx:(if P<=2*x then(1:Int)else 0)=sx at e1;have o1:∀d j,d≠116->d≠105->upd (upd A 116 0 (2*A 97 n%2^w)) 105 0 sx d j=A d j:=λd j h1 h2=>yef h1 (.inl h2);have f1:upd (upd A 116 0 (2*A 97 n%2^w)) 105 0 sx 105 0=sx:=ycG;generalize upd (upd A 116 0 (2*A 97 n%2^w)) 105 0 sx=M1 at e1 o1 f1;have e2:=zes hw (s:=106) (c:=98) (M:=M1) (k:=0) (by decide) (by decide) rfl (by rw[o1 122 0 (by decide) (by decide)];exact hb0 122 0 (by decide) (by decide)) (n:=n) (λi hi=>by rw[o1 98 i (by decide) (by decide)];exact db i hi) 0;rw[zd (M:=M1) (M':=A) (c:=98) (c':=98) (n+1) λi _=>o1 98 i (by decide) (by decide),vb,<-hP]at e2;generalize hsy:(if P<=2*y then(1:Int)else 0)=sy at e2;have o2:∀d j,d≠116->d≠106->upd (upd M1 116 0 (2*M1 98 n%2^w)) 106 0 sy d j=M1 d j:=λd j h1 h2=>yef h1 (.inl h2);have f2:upd (upd M1 116 0 (2*M1 98 n%2^w)) 106 0 sy 106 0=sy:=ycG;generalize upd (upd M1 116 0 (2*M1 98 n%2^w)) 106 0 sy=M2 at e2 o2 f2;have hsx01:sx=0 \/ sx=1:=yeh hsx;have hsy01:sy=0 \/ sy=1:=yeh hsy;have f2x:M2 105 0=sx:=by rw[o2 105 0 (by decide) (by decide),f1]
 have e3:stepM (2^w) M2 0 (.odd (107,0) (105,0) (106,0))=(upd M2 107 0 (if sx=sy then 0 else 1),0):=by
  erw[stepM,rd,wr,f2x,f2,(ydd hsx01 hsy01).1]
 generalize hsk:(if sx=sy then(0:Int)else 1)=sk at e3;have hsk01:sk=0 \/ sk=1:=yeE hsk;have o3:∀d j,d≠107->upd M2 107 0 sk d j=M2 d j:=λd j h1=>ycU h1;have f3:upd M2 107 0 sk 107 0=sk:=ycG;generalize upd M2 107 0 sk=M3 at e3 o3 f3;have oA:∀d j,d≠116->d≠105->d≠106->d≠107->M3 d j=A d j:=λd j h1 h2 h3 h4=>by rw[o3 d j h4,o2 d j h1 h3,o1 d j h1 h2]
 let⟨M4,k4,e4,o4,g4,v4⟩:=zeR hw (s:=105) (src:=97) (to:=117) (by decide) (by decide) (by decide) (M:=M3) (k:=0) hsx01 (by rw[o3 105 0 (by decide),f2x]) (by rw[oA 122 0 (by decide) (by decide) (by decide) (by decide)];exact hb0 122 0 (by decide) (by decide)) (n:=n+1) (λi hi=>by rw[oA 97 i (by decide) (by decide) (by decide) (by decide)];exact da i hi);rw[zd (M:=M3) (M':=A) (c:=97) (c':=97) (n+1) λi _=>oA 97 i (by decide) (by decide) (by decide) (by decide),va]at v4;have p4:∀d j,d≠116->d≠103->d≠117->d≠105->d≠106->d≠107->M4 d j=A d j:=λd j h1 h2 h3 h4 h5 h6=>by rw[o4 d j h1 h2 h3,oA d j h1 h4 h5 h6]
 let⟨M5,k5,e5,o5,g5,v5⟩:=zeR hw (s:=106) (src:=98) (to:=118) (by decide) (by decide) (by decide) (M:=M4) (k:=k4) hsy01 (by rw[o4 106 0 (by decide) (by decide) (by decide),o3 106 0 (by decide),f2]) (by rw[p4 122 0 (by decide) (by decide) (by decide) (by decide) (by decide) (by decide)];exact hb0 122 0 (by decide) (by decide)) (n:=n+1) (λi hi=>by rw[p4 98 i (by decide) (by decide) (by decide) (by decide) (by decide) (by decide)];exact db i hi);rw[zd (M:=M4) (M':=A) (c:=98) (c':=98) (n+1) λi _=>p4 98 i (by decide) (by decide) (by decide) (by decide) (by decide) (by decide),vb]at v5;let⟨ax,bx,cx,dx,_⟩:=zhn x0 x1;let⟨ay,by',cy,dy,fy⟩:=zhn (x:=y) (Bu y0) y1;rw[<-hP]at ax bx cx dx ay by' cy dy fy v4 v5
 rw[hsx,<-hX]at ax;rw[hsy,<-hY]at ay;rw[<-hX]at bx cx dx;rw[<-hY]at by' cy dy fy
 rw[ax]at v4;rw[ay]at v5;have fy:=fy y0;let⟨M6,e6,o6,v6⟩:=zfE (W:=2^w) (x:=117) (by decide) M5 k5 (n+1);have z5:∀d j,d≠116->d≠103->d≠117->d≠118->d≠105->d≠106->d≠107->M5 d j=A d j:=λd j h1 h2 h3 h4 h5 h6 h7=>by rw[o5 d j h1 h2 h4,p4 d j h1 h2 h3 h5 h6 h7]
 have z0:∀(d m:Nat),(d=113 \/ d=114)->yt (2^w) M6 d m=0/\Dg (2^w) M6 d m:=λd m h=>by
  have hz:∀i:Nat,M6 d i=0:=λi=>by
   rcases h with rfl|rfl
   .rw[o6 _ i (by decide),z5 _ i (by decide) (by decide) (by decide) (by decide) (by decide) (by decide) (by decide),hb0 _ i (by decide) (by decide)]
   .rw[o6 _ i (by decide),z5 _ i (by decide) (by decide) (by decide) (by decide) (by decide) (by decide) (by decide),hb0 _ i (by decide) (by decide)]
  have hd:Dg (2^w) M6 d m:=λi _=>by rw[hz];exact⟨DN 0,hW⟩
  exact⟨(zaR hW m hd).2 λi _=>hz i,hd⟩
 have u5:∀j,M5 117 j=M4 117 j:=λj=>o5 117 j (by decide) (by decide) (by decide);have D0:Dv w (n+1) 118 113 114 M5 M6 (yay X) (yay Y) 0:={
  de:=λi hi=>by rw[v6 i hi,u5];exact g4 i hi
  dr:=(z0 114 _ (.inr rfl)).2
  dq:=(z0 113 _ (.inl rfl)).2
  keep:=λd j h1 _ _ _ _=>o6 d j h1
  rest:=by rw[(z0 114 _ (.inr rfl)).1];exact fy
  sent:=by
   rw[(z0 114 _ (.inr rfl)).1,(z0 113 _ (.inl rfl)).1,zd (M':=M4) (c':=117) (n+1) λi hi=>by rw[v6 i hi,u5],v4];rw[Bm,Bm,D4,D4,Ch,C2]}
 have z122:M5 122 0=0:=by rw[z5 122 0 (by decide) (by decide) (by decide) (by decide) (by decide) (by decide) (by decide)];exact hb0 122 0 (by decide) (by decide)
 let⟨M7,k7,e7,D7⟩:=zcz hw yg6 (k:=k5) z122 g5 v5 (by rw[<-hP];exact cx) D0 (w*(n+1)) (AT _);let⟨q1,q2,q3⟩:=zgi hw dx D7 (by rw[<-hP];exact Bu cy);have k7':∀d j,d≠101->d≠114->d≠113->d≠116->d≠102->M7 d j=M5 d j:=D7.keep;have s7:M7 107 0=sk:=by rw[k7' 107 0 (by decide) (by decide) (by decide) (by decide) (by decide),o5 107 0 (by decide) (by decide) (by decide),o4 107 0 (by decide) (by decide) (by decide),f3]
 have x7:M7 105 0=sx:=by rw[k7' 105 0 (by decide) (by decide) (by decide) (by decide) (by decide),o5 105 0 (by decide) (by decide) (by decide),o4 105 0 (by decide) (by decide) (by decide),o3 105 0 (by decide),f2x]
 have z7:M7 122 0=0:=by rw[k7' 122 0 (by decide) (by decide) (by decide) (by decide) (by decide),z122]
 let⟨M8,k8,e8,o8,g8,v8⟩:=zeR hw (s:=107) (src:=113) (to:=99) (by decide) (by decide) (by decide) (M:=M7) (k:=k7) hsk01 s7 z7 D7.dq;let⟨M9,k9,e9,o9,g9,v9⟩:=zeR hw (s:=105) (src:=114) (to:=100) (by decide) (by decide) (by decide) (M:=M8) (k:=k8) hsx01 (by rw[o8 105 0 (by decide) (by decide) (by decide),x7]) (by rw[o8 122 0 (by decide) (by decide) (by decide),z7]) (n:=n+1) (λi hi=>by rw[o8 114 i (by decide) (by decide) (by decide)];exact D7.dr.mono i hi);rw[zd (M:=M8) (M':=M7) (c:=114) (c':=114) (n+1) λi _=>o8 114 i (by decide) (by decide) (by decide),q2]at v9;rw[q1]at v8;have p9:∀d j,d≠116->d≠103->d≠99->d≠100->M9 d j=M7 d j:=λd j h1 h2 h3 h4=>by rw[o9 d j h1 h2 h4,o8 d j h1 h2 h3]
 have kb:∀j,M9 98 j=A 98 j:=λj=>by rw[p9 98 j (by decide) (by decide) (by decide) (by decide),k7' 98 j (by decide) (by decide) (by decide) (by decide) (by decide),z5 98 j (by decide) (by decide) (by decide) (by decide) (by decide) (by decide) (by decide)]
 have z9:M9 122 0=0:=by rw[p9 122 0 (by decide) (by decide) (by decide) (by decide),z7]
 have n0:=(zlc hw (n+1) M9 k9 z9 (λi hi=>by rw[kb];exact(db i hi).1)).2 (λz=>by
  have:yt (2^w) A 98 (n+1)=0:=(zaR hW (n+1) db).2 λi hi=>by rw[<-kb];exact z i hi
  rw[vb]at this;exact absurd this (Int.ne_of_gt y0))
 have no:∀d j,d≠115->(d≠109 \/ j≠0)->(yh (2^w) (nR (n+1)) M9 k9).1 d j=M9 d j:=λd j h1 h2=>zcy _ _ _ _ (zm0 h1 h2);have nm:=zlX (W:=2^w) (n+1) M9 k9 z9;have eA:yh (2^w) (sqA w (n+1)) A 0=(M9,k9):=by
  rw[sqA,zh,e1,zh];simp only;rw[e2,zm,e3,zh];simp only;rw[e4,zh];simp only;rw[e5,zh];simp only;rw[e6,zh];simp only;rw[ycR,e7,zh];simp only;rw[e8];exact e9
 rw[zh,zh,zh,eA];simp only;generalize yh (2^w) (nR (n+1)) M9 k9=R at n0 no nm ⊢;let⟨M10,k10⟩:=R;simp only at n0 no nm ⊢;have q10:∀j,M10 113 j=M7 113 j:=λj=>by rw[no 113 j (by decide) (.inl (by decide)),p9 113 j (by decide) (by decide) (by decide) (by decide)]
 have z10:M10 122 0=0:=by rw[no 122 0 (by decide) (.inl (by decide)),z9]
 have ea:=zes hw (s:=109) (c:=113) (M:=M10) (k:=k10) (by decide) (by decide) nm z10 (n:=n) (λi hi=>by rw[q10];exact D7.dq i hi) 1;rw[zd (M:=M10) (M':=M7) (c:=113) (c':=113) (n+1) λi _=>q10 i,q1,<-hP]at ea;rw[ea];generalize ht:(if P<=2*(yay X/yay Y)then(1:Int)else 0)=t at ea ⊢;have ht01:t=0 \/ t=1:=yeh ht;have ob:∀d j,d≠116->(d≠109 \/ j≠1)->upd (upd M10 116 0 (2*M10 113 n%2^w)) 109 1 t d j=M10 d j:=λd j h1 h2=>yef h1 h2;have fb:upd (upd M10 116 0 (2*M10 113 n%2^w)) 109 1 t 109 1=t:=ycG;generalize upd (upd M10 116 0 (2*M10 113 n%2^w)) 109 1 t=Mb at ob fb ⊢;have sb:Mb 107 0=sk:=by rw[ob 107 0 (by decide) (.inl (by decide)),no 107 0 (by decide) (.inl (by decide)),p9 107 0 (by decide) (by decide) (by decide) (by decide),s7]
 have ec:∀rs:List Rw,yh (2^w) (.any (109,1) (109,1) (107,0) :: .odd (109,1) (109,1) (107,0)::rs) Mb 0=yh (2^w) rs (upd (upd Mb 109 1 (Az t sk)) 109 1 (if t=1/\sk=0 then 1 else 0)) 0:=λrs=>by
  have h1:stepM (2^w) Mb 0 (.any (109,1) (109,1) (107,0))=(upd Mb 109 1 (Az t sk),0):=by erw[stepM,rd,wr,fb,sb]
  have g1:upd Mb 109 1 (Az t sk) 109 1=Az t sk:=ycG;have g2:upd Mb 109 1 (Az t sk) 107 0=sk:=by rw[ycU (by decide),sb]
  rw[zm,h1,zm];erw[stepM,rd,wr,g1,g2,(ydd ht01 hsk01).2]
 simp only;rw[ec];have od:∀d j,(d≠109 \/ j≠1)->upd (upd Mb 109 1 (Az t sk)) 109 1 (if t=1/\sk=0 then 1 else 0) d j=Mb d j:=λd j h2=>yfN h2;have fd:upd (upd Mb 109 1 (Az t sk)) 109 1 (if t=1/\sk=0 then 1 else 0) 109 1=(if t=1/\sk=0 then 1 else 0):=ycG;generalize upd (upd Mb 109 1 (Az t sk)) 109 1 (if t=1/\sk=0 then 1 else 0)=Md at od fd ⊢;have cc:∀j,Md 99 j=M8 99 j:=λj=>by rw[od 99 j (.inl (by decide)),ob 99 j (by decide) (.inl (by decide)),no 99 j (by decide) (.inl (by decide)),o9 99 j (by decide) (by decide) (by decide)]
 have cd:∀j,Md 100 j=M9 100 j:=λj=>by rw[od 100 j (.inl (by decide)),ob 100 j (by decide) (.inl (by decide)),no 100 j (by decide) (.inl (by decide))]
 have hqq:(if sk=1 then 0-yay X/yay Y else yay X/yay Y)=Q:=by
  rw[hQ];unfold ybB
  congr 1
  rw[eq_iff_iff];exact zqf hsx01 hsy01 ((if1 hsx).trans bx.symm) ((if1 hsy).trans by'.symm) hsk
 have hrr:(if sx=1 then 0-yay X%yay Y else yay X%yay Y)=X-Y*Q:=by
  rw[hQ,zmZ]
  congr 1
  rw[eq_iff_iff];exact(if1 hsx).trans bx.symm
 rw[hqq,<-hP]at v8;rw[hrr,<-hP]at v9;have dc:Dg (2^w) Md 99 (n+1):=λi hi=>by rw[cc];exact g8 i hi
 have vc:yt (2^w) Md 99 (n+1)=Q%P:=by rw[<-v8];exact zd _ λi _=>cc i
 let⟨f1',f2',f3',f4',f5'⟩:=zcd hw Md 0 dc (by rw[od 122 0 (.inl (by decide)),ob 122 0 (by decide) (.inl (by decide)),z10]);have f6:∀j,(yh (2^w) (yo (n+1)) Md 0).1 100 j=Md 100 j:=λj=>zcy _ _ _ _ (zlj (by decide) (by decide) (by decide));rw[vc,<-hP]at f5';rw[vc]at f4';refine⟨?_,?_,?_,?_,f4',f5'⟩
 .rw[<-vc];exact zd _ λi _=>f1' i
 .rw[<-v9];exact zd _ λi _=>by rw[f6,cd]
 .rw[f2',od 109 0 (.inr (by decide)),ob 109 0 (by decide) (.inr (by decide)),n0]
 .rw[f3',fd,zpo]
  congr 1
  rw[decide_eq_decide];rw[<-hqq];exact znP (by rw[hP];exact A4 hW) (C0 dx (Bu fy)) ht hsk01
def ybi(nm:String):T1:=.rounds 0 1 0 [.row (rS nm [cx 99 0 1 0 0,cx 97 0 1 0 0,cx 98 0 1 0 0])]
def lC(c:Nat):Op:=cx c (-1) 0 0 1
def ydG:List T1:=[.row (rS "mark" [.fig 0]),ybi "sum",yaW,.row (rS "odd" [oT,lC 99,lC 97]),.row (rS "odd" [oS,lC 99,lC 98]),.row (rS "both" [oT,oT,oS]),.row (rS "twice" [oT,oT]),.row (rS "sum" [oM 1,oZ,oZ])]++ya3 0 1
theorem ziI(w:Int)(n:Nat){nm:String}{f:Cel->Cel->Cel->Rw}(h:∀a b c,yP (f a b c)=.tp AC [.str (AF nm),yH a,yH b,yH c]):T1.rows w n (ybi nm)=(yK n f).map yP:=by
 unfold ybi yK;rw[T1.rows,zaJ];exact zbB (λI=>by simp[yam,T2.rows,Rs.pv,rS,Op.pv,cx,Cx.at,h,yH]) n
theorem zoJ(w:Int)(n:Nat):yI w n ydG=(yaf n).map yP:=by
 have hl:∀c:Nat,(lC c).pv 0 0 n=yH (c,(n:Int)-1):=λc=>by
  have:(-1:Int)+0*0+0*0+1*(n:Int)=(n:Int)-1:=by lia
  erw[lC,Op.pv,cx,Cx.at,this,yH]
 rw[ydG,zaH,zeb];erw[yI,BY,Bq,BD,ziI w n (nm:="sum") (f:=.sum) (λ_ _ _=>rfl),zfV,yaf,yak,B2,AL,Ak,BB];erw[T1.rows,Rs.pv,rS,AL,Ak,hl];simp[Op.pv,oM,oZ,oT,oS,cx,Cx.at,yP,yH]
theorem zho{n:Nat}(hn:n<=8){f:Cel->Cel->Cel->Rw}(hf:∀a b c,yO a->yO b->yO c->yau (f a b c)):∀r∈yK n f,yau r:=by
 intro r hr;let⟨i,hi,rfl⟩:=zad hr;refine hf _ _ _ ?_ ?_ ?_<;>erw[yO]<;>lia
theorem zkJ{n:Nat}(hn:1<=n)(hn2:n<=4):∀r∈yaf n,yau r:=by
 intro r hr;erw[yaf,yak,Ax,AO,A8,or_false]at hr;rcases hr with (((h|h)|h)|(h|h|h|h|h))|h
 any_goals (subst h;erw[yau,yO];lia)
 .exact zho (f:=.sum) (by lia) (λ_ _ _ a b c=>⟨a,b,c⟩) r h
 .exact zfv hn (by lia) r h
theorem zje{n:Nat}(hn2:n<=4):(yaf n).length<=4000:=by simp[yaf,yK,yak,yo,zaj];lia
theorem ycP{w n:Nat}(hw:w<=16)(hn:1<=n)(hn2:n<=4):yb0 (yc T 20 zK [.tp AC [.str "sum"]] []=.ok (.bl AB) []) AC (.tp AC [.str "sum"]) w n n (yaf n):=by
 refine ybJ (ps:=ydG) (by decide +kernel) hw hn2 (zoJ w n) (zkJ hn hn2) (zje hn2) ?_ ?_ (by ac_rfl) (aw (pb:=AC) rfl (λ_=>rfl) (by ac_rfl) (by ac_rfl) (by ac_rfl))
 .simp[ydG,yaS,ybi,yaW,ya3,T1.rnd,zaJ,ybn,T2.rnd];lia
 .simp[ydG,ak1,ybi,yaW,ya3,T1.ak,zaJ,ak2,T2.ak];lia
theorem znc(w:Int)(n:Nat){nm:String}{f:Cel->Cel->Cel->Rw}(h:∀a b c,yP (f a b c)=.tp AC [.str (AF nm),yH a,yH b,yH c]):yI w n ([ybi nm]++ya3 0 1)=(yZ f n).map yP:=by
 rw[zaH,zeb];erw[yI,BY,Bq,BD,ziI w n h,yZ,B2]
theorem zml{n:Nat}(hn:1<=n)(hn2:n<=4){f:Cel->Cel->Cel->Rw}(hf:∀a b c,yO a->yO b->yO c->yau (f a b c)):∀r∈yZ f n,yau r:=by
 intro r hr;rcases Ax.1 hr with hr|hr
 .exact zho (by lia) hf r hr
 .exact zfv hn (by lia) r hr
theorem zgB{n:Nat}(hn2:n<=4):(yZ .both n).length<=4000:=by simp[yZ,yK,yo,zaj];lia
theorem zji{n:Nat}(hn:1<=n)(hn2:n<=4):∀r∈yZ .both n,yau r:=zml hn hn2 (λ_ _ _ a b c=>⟨a,b,c⟩)
theorem ych{w n:Nat}(hw:w<=16)(hn:1<=n)(hn2:n<=4):yb0 (yc T 20 zK [.tp AC [.str "both"]] []=.ok (.bl AB) []) AC (.tp AC [.str "both"]) w n n (yZ .both n):=by
 refine ybJ (ps:=[ybi "both"]++ya3 0 1) (by decide +kernel) hw hn2 (znc w n (λ_ _ _=>rfl)) (zji hn hn2) (zgB hn2) ?_ ?_ (by ac_rfl) (aw (pb:=AC) rfl (λ_=>rfl) (by ac_rfl) (by ac_rfl) (by ac_rfl))
 .simp[yaS,ybi,ya3,T1.rnd,zaJ,ybn,T2.rnd];lia
 .simp[ak1,ybi,ya3,T1.ak,zaJ,ak2,T2.ak];lia
theorem zhF(y q r n:Nat):(yaE y q r n).length=6*n+8:=by
 have t:∀c m,(twR c m).length=m:=λc m=>(zaz (f:=λJ=>[Rw.twice (c,(J:Int)) (c,(J:Int))]) (c:=1) (λ_=>rfl) m).trans (Hc m);have l:(lsR r y n).length=n:=(zaz (f:=λJ=>[Rw.less (r,(J:Int)) (r,(J:Int)) (y,(J:Int))]) (c:=1) (λ_=>rfl) n).trans (Hc n);have a:(adR r y n).length=n*2:=zaz (f:=λJ=>[Rw.both cT (y,(J:Int)) cF,Rw.sum (r,(J:Int)) (r,(J:Int)) cT]) (c:=2) (λ_=>rfl) n;simp[yaE,t,l,a];lia
theorem zjd{w n:Nat}(hw:w<=16)(hn2:n<=4):(yad w n).length<=4000:=by
 have h:w*n*(6*n+8)<=64*32:=Aj (Aj hw hn2) (by lia);simp[yad,mvR,ycR,nR,yo,zaj,zaz (λ_=>zhF 98 99 100 n),zaz (f:=λi=>[Rw.any cS cS (98,(i:Int))]) (c:=1) (λ_=>rfl)];lia
theorem zm5{c n:Nat}(hc:97<=c/\c<=122)(hn:n<=8):∀r∈twR c n,yau r:=by
 intro r hr;let⟨i,hi,hr⟩:=zao hr;erw[AO,A8,or_false]at hr;subst hr;erw[yau,yO];omega
theorem zkW{y q z:Nat}(hy:97<=y/\y<=122)(hq:97<=q/\q<=122)(hz:97<=z/\z<=122){n:Nat}(hn2:n<=4):∀r∈yaE y q z n,yau r:=by
 intro r hr;erw[yaE,Ax,AO]at hr;rcases hr with h|hr|hr|hr|h|h|h|hr|h|h|h|hr
 any_goals (subst h;erw[yau,yO];lia)
 .exact zm5 (by lia) (by lia) r hr
 .exact zm5 (by lia) (by lia) r hr
 .let⟨i,hi,hr⟩:=zao hr;erw[AO,A8,or_false]at hr;subst hr;erw[yau,yO];omega
 .let⟨i,hi,hr⟩:=zao hr;erw[AO,A8,or_false]at hr;rcases hr with rfl|rfl<;>erw[yau,yO]<;>lia
 .exact zm5 (by lia) (by lia) r hr
theorem zkX{w n:Nat}(hn:1<=n)(hn2:n<=4):∀r∈yad w n,yau r:=by
 intro r hr;erw[yad,nR,Ax,AO,A8,or_false]at hr;rcases hr with ((hr|hr)|((h|hr)|h|h|h))|hr
 any_goals (subst h;erw[yau,yO];lia)
 .let⟨i,hi,rfl⟩:=zad hr;erw[yau,yO];lia
 .let⟨i,hi,hr⟩:=zao hr;exact zkW (by lia) (by lia) (by lia) hn2 r hr
 .let⟨i,hi,hr⟩:=zao hr;erw[AO,A8,or_false]at hr;subst hr;erw[yau,yO];omega
 .exact zfv hn (by lia) r hr
theorem ycL{w n:Nat}(hw:w<=16)(hn:1<=n)(hn2:n<=4):yb0 (yc T 20 zK [.tp AC [.str "quotient"]] []=.ok (.bl AB) []) AB (.tp AC [.str "quotient"]) w n n (yad w n):=by
 have h0:w*n<=64:=Aj hw hn2;have h1:w*n*n<=64*4:=Aj h0 hn2;refine ybJ (ps:=ydl) (by decide +kernel) hw hn2 (zoX w n) (zkX hn hn2) (zjd hw hn2) ?_ ?_ (by ac_rfl) (aw (pb:=AC) rfl (λ_=>rfl) (by ac_rfl) (by ac_rfl) (by ac_rfl))
 .simp[ydl,mvT,dvT,nT,yaS,ya3,T1.rnd,zaJ,zhB,ze1,ybn,T2.rnd,Ek];lia
 .simp[ydl,mvT,dvT,nT,ak1,ya3,T1.ak,zaJ,zhB,ze1,ak2,T2.ak,Ek];lia
theorem zm3(s a b n:Nat):(trn s a b n).length=n*2+2:=by
 simp[trn,trL,zaz (f:=λi=>[Rw.odd cT (a,(i:Int)) cG,Rw.sum (b,(i:Int)) cT cZ]) (c:=2) (λ_=>rfl)]
theorem zlb{w n:Nat}(hw:w<=16)(hn2:n<=4):(yas w n).length<=4000:=by
 have h:w*n*(6*n+8)<=64*32:=Aj (Aj hw hn2) (by lia);simp[yas,sqA,sqB,mvR,ycR,nR,yo,zm3,zaj,zaz (λ_=>zhF 118 113 114 n),zaz (f:=λi=>[Rw.any cS cS (98,(i:Int))]) (c:=1) (λ_=>rfl)];lia
theorem zga{s a b n:Nat}(hs:97<=s/\s<=122)(ha:97<=a/\a<=122)(hb:97<=b/\b<=122)(hn:n<=8):∀r∈trn s a b n,yau r:=by
 intro r hr;erw[trn,AO]at hr;rcases hr with rfl|rfl|hr
 .simp only[yau,yO];lia
 .simp only[yau,yO];lia
 .let⟨i,hi,hr⟩:=zao hr;erw[AO,A8,or_false]at hr;rcases hr with rfl|rfl<;>erw[yau,yO]<;>lia
theorem zpc{w n:Nat}(hn:1<=n)(hn2:n<=4):∀r∈yas w n,yau r:=by
 intro r hr;erw[yas,sqA,sqB,nR,Ax,AO,A8,or_false]at hr;rcases hr with (((h|h)|(h|h)|h|hr|hr|hr|hr|hr|hr)|((h|hr)|h|h|h))|(h|h)|h|h|hr
 any_goals (subst h;erw[yau,yO];lia)
 .exact zga (by lia) (by lia) (by lia) (by lia) r hr
 .exact zga (by lia) (by lia) (by lia) (by lia) r hr
 .let⟨i,hi,rfl⟩:=zad hr;erw[yau,yO];lia
 .let⟨i,hi,hr⟩:=zao hr;exact zkW (by lia) (by lia) (by lia) hn2 r hr
 .exact zga (by lia) (by lia) (by lia) (by lia) r hr
 .exact zga (by lia) (by lia) (by lia) (by lia) r hr
 .let⟨i,hi,hr⟩:=zao hr;erw[AO,A8,or_false]at hr;subst hr;erw[yau,yO];omega
 .exact zfv hn (by lia) r hr
theorem ydy{w n:Nat}(hw:w<=16)(hn:1<=n)(hn2:n<=4):yb0 (yc T 20 zK [.tp AC [.str "signed quotient"]] []=.ok (.bl AB) []) AB (.tp AC [.str "signed quotient"]) w n n (yas w n):=by
 have h0:w*n<=64:=Aj hw hn2;have h1:w*n*n<=64*4:=Aj h0 hn2;refine ybJ (ps:=sqT) (by decide +kernel) hw hn2 (zpZ w n) (zpc hn hn2) (zlb hw hn2) ?_ ?_ (by ac_rfl) (aw (pb:=AC) rfl (λ_=>rfl) (by ac_rfl) (by ac_rfl) (by ac_rfl))
 .simp[sqT,sgT,trT,mvT,dvT,nT,yaS,ya3,T1.rnd,zaJ,zhB,ze1,ybn,T2.rnd,Ek];lia
 .simp[sqT,sgT,trT,mvT,dvT,nT,ak1,ya3,T1.ak,zaJ,zhB,ze1,ak2,T2.ak,Ek];lia
theorem zfi{b:List Rw}{r:Rw}:∀{s:Nat},r∈yx b s->r∈b
 |0,h=>by simp[yx]at h
 |s+1,h=>by
  rw[yx,Ax]at h;rcases h with h|h
  .exact zfi h
  .exact h
def yd6(nm:String)(tel:Int->List T1)(s:Nat):Bool:=match yc T 18 zaS [.tp AC [.str (AF nm),.int s]] []with
 |.ok (.tp b vs) []=>decide (yaL vs=AA (tel s))&&nLs vs&&isOk (yc T 16 zF [.tp b vs] []) (.bl AB)&&isOk (yc T 20 zb2 [.tp AC [.str (AF nm),.int s]] []) (.bl AB)
 |_=>AC
theorem zhC:((CS 64).all (yd6 "right" ycc))=true:=by decide +kernel
theorem zkw:((CS 64).all (yd6 "down" ycM))=true:=by decide +kernel
def ybo(r1:Rw)(s n:Nat):List Rw:=yV n++yx (r1::yD n) s++[.sum (109,0) cZ cZ]++yo n
theorem zhZ{n s:Nat}{r1:Rw}(h1:yau r1)(hn:1<=n)(hn2:n<=4):∀r∈ybo r1 s n,yau r:=by
 intro r hr;erw[ybo,Ax,AO,A8,or_false]at hr;rcases hr with ((hr|hr)|h)|hr
 .let⟨i,hi,rfl⟩:=zad hr;erw[yau,yO];lia
 .rcases AO.1 (zfi hr)with rfl|hr
  .exact h1
  .let⟨i,hi,rfl⟩:=zad hr;erw[yau,yO];lia
 .subst h;erw[yau,yO];lia
 .exact zfv hn (by lia) r hr
theorem zfN{n s:Nat}(r1:Rw)(hn:n<=4)(hs:s<=63):(ybo r1 s n).length<=4000:=(zpi hn (by lia:s<=100) r1 (yD n) (by simp[yD,zaj])).1
theorem ycB{nm:String}{tel:Int->List T1}{r1:Rw}{p:T2}{s w n:Nat}(hc:((CS 64).all (yd6 nm tel))=AB)(ht:tel s=[ybs,.rounds s 0 0 [p,ya8],yaW]++ya3 0 1)(hp:p=yaP \/ p=ycz)(hs:s<=63)(hw:w<=16)(hn:1<=n)(hn2:n<=4)(pv:yI w n (tel s)=(ybo r1 s n).map yP)(h1:yau r1)
  (q3:yN .isin (.str (AF nm)) zac=AA (.bl AC)) (hA:yc T 20 zw [.tp AC [.str (AF nm),.int s],.int n] []=.ok (.int n) []):yb0 False AC (.tp AC [.str (AF nm),.int s]) w n n (ybo r1 s n):=by
 have hc:=Bc.1 hc s (by simp;lia);have hm:s*(1+n)<=63*5:=Aj hs (by lia);have hm2:s*n<=63*4:=Aj hs hn2;unfold yd6 at hc;split at hc
 .rename_i b vs e0;erw[AK,decide_eq_true_eq]at hc;let⟨⟨⟨c1,c2⟩,c3⟩,c4⟩:=hc;refine ycA hw hn2 rfl (λ_=>rfl) e0 c1 c2 c3 c4 Bn pv (zhZ h1 hn hn2) (zfN r1 hn2 hs) ?_ ?_ q3 hA
  .rw[ht,zmV w n s p ya8 hp (.inr rfl)];lia
  .rw[ht];rcases hp with rfl|rfl<;>simp[ak1,ybs,yaW,ya3,T1.ak,T2.ak,ak2,zaJ,zmv,yaP,ycz,ya8,Ek]<;>lia
 .cases hc
theorem aw2{nm:String}{s n:Nat}(q1:yN .eq (.str (AF nm)) (.str "compare")=AA (.bl AC))(q2:yN .eq (.str (AF nm)) (.str "led")=AA (.bl AC))(q4:yN .isin (.str (AF nm)) zbu=AA (.bl AC)):yc T 20 zw [.tp AC [.str (AF nm),.int s],.int n] []=.ok (.int n) []:=aw (pb:=AC) rfl (λ_=>rfl) q1 q2 q4
theorem yb3{s w n:Nat}(hs:s<=63)(hw:w<=16)(hn:1<=n)(hn2:n<=4):yb0 False AC (.tp AC [.str "right",.int s]) w n n (yX s n):=ycB zhC rfl (.inl rfl) hs hw hn hn2 (zj3 w n s) (by simp[yau]) (by ac_rfl) (aw2 (by ac_rfl) (by ac_rfl) (by ac_rfl))
theorem yct{s w n:Nat}(hs:s<=63)(hw:w<=16)(hn:1<=n)(hn2:n<=4):yb0 False AC (.tp AC [.str "down",.int s]) w n n (yal s n):=ycB zkw rfl (.inr rfl) hs hw hn hn2 (zlS w n s) (by erw[yaF,yau,yO];lia) (by ac_rfl) (aw2 (by ac_rfl) (by ac_rfl) (by ac_rfl))
noncomputable def dv(W:Int):List Int->Int
 |[]=>0
 |d::ds=>d+W*dv W ds
def inW(W:Int)(ds:List Int):Prop:=∀d∈ds,0<=d/\d<W
theorem zj9{c:Cl}{N acc lo:Int}{st:SO}:exs c [AA (.int N),AA (.int acc),AA (.int lo)] st (.cons (.asg (.n 1) (.bin .mul (.cst (.int 2)) (.var 1))) .nil)=.nx [AA (.int N),AA (.int (2*acc)),AA (.int lo)] st:=by
 erw[xs_nil,xs_cons,x_asg,yaJ,nxO,IC.ve1,IC.ve2,IC.ve3,R.bind,R.fl,yR,yG,binI,yaI,toR,Ag,Ah,AU,AQ];simp
theorem zgF(k n:Nat)(hn:n<1000)(st:SO):yc T (k+1) zbh [.int n] st=.ok (.int (2^n)) st:=by
 let⟨ρ',st',h,u,e1,e2⟩:=zeQ (call:=yc T k) (t:=.n 2) (b:=.cons (.asg (.n 1) (.bin .mul (.cst (.int 2)) (.var 1))) .nil) (λi ρ st=>∃u,ρ=[AA (.int n),AA (.int (2^i)),u]/\st=[]) (yu n 0 1) 0 [AA (.int n),AA (.int 1),AD] [] ⟨_,rfl,rfl⟩ (by
  rintro j x ρ st hx ⟨u,rfl,rfl⟩
  have hx:∃i,x=.int i:=by
   have:∀(n:Nat) (a d:Int) (j:Nat) x,(yu n a d)[j]?=AA x->∃i,x=.int i:=by
    intro n
    induction n with
    |zero=>intro a d j x h;simp[yu]at h
    |succ n ih=>
     intro a d j x h
     cases j with
     |zero=>simp[yu]at h;exact⟨a,h.symm⟩
     |succ j=>simp[yu]at h;exact ih _ _ _ _ h
   exact this _ _ _ _ _ hx
  let⟨i,rfl⟩:=hx;exact⟨_,_,_,rfl,zj9,_,by rw[Ac,Ae],rfl⟩)
 have hl:(yu n 0 1).length=n:=by
  have:∀(n:Nat) (a d:Int),(yu n a d).length=n:=by
   intro n
   induction n with
   |zero=>intro a d;rfl
   |succ n ih=>intro a d;simp[yu,ih]
  exact this _ _ _
 rw[hl,Bl]at e1;subst e1 e2;rw[yc,show T zbh=AA zcp from rfl];erw[zcp,AX,BV,if_true,nLs,nL,Dm,AL,Ak,C7,Au,Aw,BW,xs_cons,xs_nil,x_asg,x_for,x_ret,yaJ,nxO,IC.ve1,IC.ve2,R.fl,yR,Ag,Ah,evi,R.bind,AU,ybY,toL];erw[show (n:Int).natAbs<1000000000 by lia,if_true,CG,h];simp[nL]
noncomputable def yb2(W:Int)(M:Mem)(c:Nat):Nat->Nat->Int
 |_,0=>0
 |a,n+1=>yb2 W M c (a+1) n*W+M c a
theorem zgG(W:Int)(M:Mem)(c:Nat):∀(n a:Nat),yb2 W M c a (n+1)=yb2 W M c a n+M c ((a+n:Nat):Int)*W^n
 |0,a=>by simp[yb2]
 |n+1,a=>by
  have h:=zgG W M c n (a+1);rw[yb2,h,yb2,show a+1+n=a+(n+1)by lia,Ac,BL,Ad];lia
theorem zk6(W:Int)(M:Mem)(c:Nat):∀n,yb2 W M c 0 n=yt W M c n
 |0=>rfl
 |n+1=>by rw[zgG,zk6 W M c n,yt,Bl]
theorem zhH{W:Int}(hW:0<W){M:Mem}(h:ybU W M)(c:Nat):∀n a,ye W n (yb2 W M c a n)=getM M c a n
 |0,a=>rfl
 |n+1,a=>by
  let⟨h0,h1⟩:=h c a;have e1:(yb2 W M c (a+1) n*W+M c a)%W=M c a:=by
   rw[Cy,B5];exact A2 h0 h1
  have e2:(yb2 W M c (a+1) n*W+M c a)/W=yb2 W M c (a+1) n:=by
   rw[Cy,FN _ _ (by lia),BJ h0 h1,D4]
  rw[yb2,ye,e1,e2,zhH hW h c n (a+1),getM]
theorem ziQ{W:Int}(hW:0<W){M:Mem}(h:ybU W M)(c n:Nat){v:Int}(hv:yt W M c n=v):getM M c 0 n=ye W n v:=by
 rw[<-zhH hW h c n 0,zk6,hv]
theorem zqv{i:Int}{j:Nat}(h:i.natAbs<18446744073709551616)(hj:j<=1000000):yG .shl (.int i) (.int j)=AA (.int (i*2^j)):=by
 simp[yG,binI,h];lia
theorem zqd{w:Nat}(hw:w<=16):(2:Int)^w<=65536:=by
 have h:(2:Nat)^w<=2^16:=A9 (by lia) hw;have h2:((2^w:Nat):Int)=2^w:=by simp
 lia
theorem zfy{w:Nat}:∀(ds:List Int) (k:Nat),ycE (((yL k (ds.map .int))).map λp=>match p with
  |.tp _ [.int i,.int d]=>.int (d*2^(w*i.toNat))
  |_=>.non)=AA ((2^w)^k*dv (2^w) ds)
 |[],k=>by simp[yL,ycE,dv]
 |d::ds,k=>by
  have ih:=zfy (w:=w) ds (k+1);erw[AL,yL,ycE];erw[CG];rw[ih];erw[dv]
  congr 1
  rw[Ac,CB,F6,Ae d,Ad]
theorem zj2(k:Nat)(ds:List Int)(w:Nat)(hw:w<=16)(h:inW (2^w) ds)(hl:ds.length<=8)(st:SO):yc T (k+1) zev [.tup (ds.map .int),.int w] st=.ok (.int (dv (2^w) ds)) st:=by
 have hT:T zev=AA zeJ:=rfl;have hW:=zqd hw
 have hc:yaq (yc T k) [AD,AD,AA (.int w)] (.t [0,1]) (.cst (.bl AB)) (.bin .shl (.var 1) (.bin .mul (.var 2) (.var 0))) (yL 0 (ds.map .int)) []=.ok (((yL 0 (ds.map .int))).map λp=>match p with
  |.tp _ [.int i,.int d]=>.int (d*2^(w*i.toNat))
  |_=>.non) []:=by
  refine zaT _ λp hp=>?_;have hx:∀(ds:List Int) (j:Nat),inW (2^w) ds->j+ds.length<=8->∀p∈yL j (ds.map .int),∃(i:Nat) (d:Int),p=.tup [.int i,.int d]/\0<=d/\d<2^w/\i<=8:=by
   intro ds
   induction ds with
   |nil=>intro j _ _ p hp;simp[yL]at hp
   |cons d ds ih=>
    intro j hd hj p hp;erw[AL,yL,AO]at hp;rcases hp with rfl|hp
    .have:=hd d As;erw[AX]at hj;exact⟨j,d,rfl,this.1,this.2,by lia⟩
    .exact ih (j+1) (λx hx=>hd x (AV _ hx)) (by erw[AX]at hj;lia) p hp
  let⟨i,d,rfl,d0,d1,hi⟩:=hx ds 0 h (by lia) p hp;have hwa:(w:Int).natAbs<18446744073709551616:=by lia
  have hm:(w:Int)*(i:Int)=((w*i:Nat):Int):=by simp
  have hwi:w*i<=16*8:=Aj hw hi;have hbt:yR (.t [0,1]) (.tup [.int i,.int d]) [AD,AD,AA (.int w)]=AA [AA (.int i),AA (.int d),AA (.int w)]:=rfl;simp only[ybd,hbt,IC.ve1,IC.ve2,IC.ve3,AU,AQ,bd_ok,t_bl,ono,cond_true,za9 hwa,hm,toR_some,zqv (show d.natAbs<18446744073709551616 by lia) (show w*i<=1000000 by lia)];rfl
 have hs:=zfy (w:=w) ds 0;have hlr:∀ys:List PV,ys.length<=1000000->∀st,ycd (.ok ys st)=.ok (.lst ys) st:=λys h st=>by simp[ycd,h]
 have hpl:(yL 0 (ds.map .int)).length=ds.length:=by
  have:∀(xs:List PV) (j:Nat),(yL j xs).length=xs.length:=by
   intro xs
   induction xs with
   |nil=>intro j;rfl
   |cons x xs ih=>intro j;simp[yL,ih]
  rw[this,Ap]
 rw[yc,hT];erw[zeJ,AX,BV,Bl,C6,if_true,nLs,nL,noLocs_ints,Dm,AL,Ak,C7,Au,BD,xs_cons,xs_nil,x_ret,IC.ve19,evs,v_comp,evi,IC.ve2,AU,AQ,bd_ok,fl_ok,PV.tup,Option.bind_none,B3,G7,hc];rw[hlr _ (by rw[Ap,hpl];lia)];erw[bd_ok,yaA,yah,B3,hs,DI,toR_some,fl_ok,th_rt,nL,if_true,Ch,Bg]
theorem zgz{W:Int}(hW:0<W):∀(n:Nat) (x:Int),0<=x->x<W^n->dv W (ye W n x)=x
 |0,x,h0,h1=>by rw[Ch]at h1;erw[ye,dv];lia
 |n+1,x,h0,h1=>by
  have q0:0<=x/W:=C0 h0 (by lia);have q1:x/W<W^n:=Bi hW (by rw[Ac]at h1;exact h1);rw[ye,dv,zgz hW n _ q0 q1];have:=Bw x W;lia
theorem zdr:∀ds:List Int,ybu (ds.map .int) (ds.map .int)=AB
 |[]=>rfl
 |d::ds=>by simp[ybu,peq,zdr ds]
theorem zdK(n:Nat):∀ds:List Int,ybK n (ds.map .int)=AB
 |[]=>rfl
 |d::ds=>by simp[ybK,shd,zdK n ds]
theorem zlU(ds:List Int):yN .ne (.tp AC (ds.map .int)) (.tp AC (ds.map .int))=AA (.bl AC):=by
 simp[yN,shd,zdK,peq,zdr]
theorem zej(ds:List Int):yN .eq (.tp AC (ds.map .int)) (.tp AC (ds.map .int))=AA (.bl AB):=by
 simp[yN,shd,zdK,peq,zdr]
theorem zne(st:SO)(xs:List PV):yaA .all st [.lst (xs.map λ_=>.bl AB)]=AA (.bl AB):=by
 have h:∀xs:List PV,allB (xs.map λ_=>PV.bl AB)=AA true:=λxs=>by
  induction xs with
  |nil=>rfl
  |cons x xs ih=>simp[allB,ih]
 simp[yaA,yah,h]
theorem number(k:Nat)(ws:List Int){w N:Nat}(hw:w<=16)(h:inW (2^w) ws)(hN:ws.length=N)(hN2:N<=8)(st:SO):yc T (k+3) zaQ [.tp AC (ws.map .int),.int w,.int N] st=.ok (.bl AB) st:=by
 have hT:T zaQ=AA zbZ:=rfl;have hnl:nLs [.tp AC (ws.map .int),.int w,.int N]=true:=by simp[nLs,nL,noLocs_ints]
 have ln:∀st,yaA .len st [.tp AC (ws.map .int)]=AA (.int N):=λst=>by
  show AA (PV.int (((ws.map PV.int).length:Nat):Int))=_;rw[Ap,hN]
 have hi:ya2 (.tp AC (ws.map .int)) [.tuple]=AA (.bl AB):=rfl;have wh:∀(v:Int) st,yc T (k+2) zbr [.int v] st=.ok (.bl AB) st:=λv st=>by
  have hT:T zbr=AA zcY:=rfl;rw[zc hT rfl rfl rfl];ac_rfl
 have c1:yaq (yc T (k+2)) [AD] (.n 0) (.cst (.bl AB)) (.call zbr (.cons (.var 0) .nil)) (ws.map .int) []=.ok ((ws.map PV.int).map λ_=>.bl AB) []:=by
  refine zaT _ λp hp=>?_;let⟨v,_,rfl⟩:=DZ.1 hp;simp! [ybd,wh]
 have ht:=zgF (k+1) w (by lia) [];have c2:yaq (yc T (k+2)) [AD,AA (.int w)] (.n 0) (.cst (.bl AB)) (.chain .le .lt (.cst (.int 0)) (.var 0) (.call zbh (.cons (.var 1) .nil))) (ws.map .int) []=.ok ((ws.map PV.int).map λ_=>.bl AB) []:=by
  refine zaT _ λp hp=>?_;let⟨v,hv,rfl⟩:=DZ.1 hp;have d1:decide (0<=v)=true:=decide_eq_true (h v hv).1;have d2:decide (v<2^w)=true:=decide_eq_true (h v hv).2;simp! [ybd,ht,d1,d2,blO]
 have lr:=λst=>zcw ((ws.map PV.int).map λ_=>PV.bl AB) (by simp[hN];lia) st;have al:=λst=>zne st (ws.map .int);rw[show k+3=k+2+1 by lia,zc hT rfl rfl hnl];generalize (ws.map PV.int).map (λ_=>PV.bl AB)=L at *;generalize ws.map PV.int=W at *;simp! [zbZ,hi,ln,c1,c2,lr,al,beq_self_eq_true];rfl
theorem ze7{W:Int}(hW:0<W)(n:Nat)(x:Int):inW W (ye W n x):=λv hv=>zaC hW n x v hv
theorem wholes(k:Nat)(ms:List Int)(hN:ms.length=4)(h:∀v∈ms,-1<=v/\v<=1)(st:SO):yc T (k+3) zc5 [.tp AC (ms.map .int),.int 4,.int 1] st=.ok (.bl AB) st:=by
 have hT:T zc5=AA zb9:=rfl;have hnl:nLs [.tp AC (ms.map .int),.int 4,.int 1]=true:=by simp[nLs,nL,noLocs_ints]
 have ln:∀st,yaA .len st [.tp AC (ms.map .int)]=AA (.int 4):=λst=>by
  show AA (PV.int (((ms.map PV.int).length:Nat):Int))=_;rw[Ap,hN];rfl
 have hi:ya2 (.tp AC (ms.map .int)) [.tuple]=AA (.bl AB):=rfl;have wh:∀(v:Int) st,yc T (k+2) zbr [.int v] st=.ok (.bl AB) st:=λv st=>by
  have hT:T zbr=AA zcY:=rfl;rw[zc hT rfl rfl rfl];ac_rfl
 have c2:yaq (yc T (k+2)) [AD,AA (.int 1)] (.n 0) (.cst (.bl AB)) (.and (.call zbr (.cons (.var 0) .nil)) (.chain .le .le (.bin .sub (.cst (.int 0)) (.var 1)) (.var 0) (.var 1))) (ms.map .int) []=.ok ((ms.map PV.int).map λ_=>.bl AB) []:=by
  refine zaT _ λp hp=>?_;let⟨v,hv,rfl⟩:=DZ.1 hp;have d1:decide (0-1<=v)=true:=decide_eq_true (by have:=(h v hv).1;lia);have d2:decide (v<=1)=true:=decide_eq_true (h v hv).2;simp! [ybd,wh,d1,d2,blO]
 have lr:=λst=>zcw ((ms.map PV.int).map λ_=>PV.bl AB) (by simp[hN]) st;have al:=λst=>zne st (ms.map .int);rw[show k+3=k+2+1 by lia,zc hT rfl rfl hnl];generalize (ms.map PV.int).map (λ_=>PV.bl AB)=L at *;generalize ms.map PV.int=W at *;simp! [zb9,hi,ln,c2,lr,al,beq_self_eq_true];rfl
theorem parts(k:Nat){pr:Prop}{qb:Bool}{deed:PV}{w n na:Nat}{rs:List Rw}(D:yb0 pr qb deed w n na rs)(ok:∀r∈rs,yau r)(hw:w<=16)(hw1:1<=w)(hn:n<=4)(hna:na<=8)(hrs:rs.length<=4000){x y V R:Int}{ms:List Int}(x0:0<=x)(x1:x<2^(w*n))(y0:0<=y)(y1:y<2^(w*n))(hp:y≠0->pr)(hq:y=0->qb=AC)
  (hv:yt (2^w) (yh (2^w) rs (yS (2^w) n x y) 0).1 99 na=V) (hr:yt (2^w) (yh (2^w) rs (yS (2^w) n x y) 0).1 100 (if qb=AB then n else 0)=R) (hm:getM (yh (2^w) rs (yS (2^w) n x y) 0).1 109 0 4=ms) (hms:∀v∈ms,-1<=v/\v<=1) (st:SO):
  yc T (23+k) zI [deed,.int w,.int n,.int x,.int y] st=.ok (.tp AC [.tp AC ((ye (2^w) na V).map .int),.tp AC ((ye (2^w) (if qb=AB then n else 0) R).map .int),.tp AC (ms.map .int)]) st:=by
 have hW:(0:Int)<2^w:=A4 (by lia);have rd:=λr hr=>zoD r (ok r hr);have e:=ran k D hw hw1 hn hna (by lia) x0 x1 y0 y1 hp hq (zgx hw1 _ _ _ rd (zjj hW n x y) (DN 0) (by decide)) [];have al:ybU (2^w) _:=zhu hw1 rs _ 0 rd (zjj hW n x y) (DN 0) (by decide);have hl:ms.length=4:=by rw[<-hm];rfl
 rw[ziQ hW al 99 na hv,ziQ hW al 100 _ hr,hm]at e;have wh:∀s,yc T (22+k) zc5 [.tp AC (ms.map .int),.int 4,.int 1] s=.ok (.bl AB) s:=λs=>by rw[show 22+k=19+k+3 by lia];exact wholes (19+k) ms hl hms s
 have hT:T zI=AA zcU:=rfl;have hnl:nLs [deed,.int w,.int n,.int x,.int y]=true:=by simp[nLs,D.nl,nL]
 have ln:∀(st:SO) (a b c:PV),yaA .len st [.tp AC [a,b,c]]=AA (.int 3):=λ_ _ _ _=>rfl;have hi:∀(a:List PV),ya2 (.tp AC a) [.tuple]=AA (.bl AB):=λ_=>rfl;have i2:∀(st:SO) (a b c:PV),idxV st (.tp AC [a,b,c]) (.int 2)=AA c:=λ_ _ _ _=>rfl;rw[show 23+k=22+k+1 by lia,zc hT rfl rfl hnl];generalize ye (2^w) na V=ws at *;generalize ye (2^w) (if qb=AB then n else 0) R=us at *;simp! [zcU,e,ln,hi,i2,wh,beq_self_eq_true];simp[ybz,nL,nLs,noLocs_ints]
theorem zee{call:Cl}{W:Int}(hW:0<W)(hW2:W<18446744073709551616){p1 p2:Option PV}:∀(n:Nat) (a x:Int) (acc:List PV) (u:Option PV),acc.length+n<1000000 ->
  ∃x' u',ybf call (.n 5) (.cons (.expr (.mth .append (.var 4) (.cons (.bin .mod (.var 0) (.var 3)) .nil))) (.cons (.asg (.n 0) (.bin .fdiv (.var 0) (.var 3))) .nil)) (yu n a 1) [AA (.int x),p1,p2,AA (.int W),AA (.loc 0),u] [.lst acc]=.nx [AA (.int x'),p1,p2,AA (.int W),AA (.loc 0),u'] [.lst (acc++(ye W n x).map .int)]
 |0,a,x,acc,u,_=>⟨x,u,by rw[yu,zM];simp[ye]⟩
 |n+1,a,x,acc,u,h=>by
  let⟨x',u',e⟩:=zee (call:=call) hW hW2 (p1:=p1) (p2:=p2) n (a+1) (x/W) (acc++[.int (x%W)]) (AA (.int a)) (by simp;lia);refine⟨x',u',?_⟩;have hW3:W<18446744073709551616*18446744073709551616:=by lia
  have hl:acc.length<1000000:=by lia
  rw[yu,zE (ρ1:=[AA (.int x),p1,p2,AA (.int W),AA (.loc 0),AA (.int a)]) rfl];have hm:yaR .append [Ob.lst acc] (.loc 0)=AA true:=rfl;have hap:ycq .append [Ob.lst acc] (.loc 0) [.int (x%W)]=.ok .non [.lst (acc++[.int (x%W)])]:=by
   unfold ycq;simp[yd3,hl]
  erw[xs_cons,xs_nil,x_asg,x_expr,IC.ve20,IC.ve2,IC.ve3,evs,AU,AQ,bd_ok,fl_ok,hm,ono,zjV hW,zim hW hW3,toR_some,hap,bT_n,nxO_some,th_nx,Ag,Ah,yaG];rw[e];simp[ye]
theorem words(k:Nat)(x:Int)(w n:Nat)(hw:w<=16)(hn:n<1000)(st:SO):yc T (k+2) zeC [.int x,.int w,.int n] st=.ok (.tup ((ye (2^w) n x).map .int)) st:=by
 have hW:(0:Int)<2^w:=A4 (by lia);have hW2:(2:Int)^w<18446744073709551616:=by
  have h:(2:Nat)^w<=2^16:=A9 (by lia) hw;have h2:((2^w:Nat):Int)=2^w:=by simp
  lia
 let⟨x',u',e⟩:=zee (call:=yc T (k+1)) hW hW2 (p1:=AA (.int w)) (p2:=AA (.int n)) n 0 x [] AD (by simp;lia);have ht:=zgF k w (by lia) [];have hT:T zeC=AA zcX:=rfl;rw[yc,hT];erw[zcX,AX,BV,Bl,C6,if_true,nLs,nL,Dm,AL,Ak,C7,Au,Aw,BW,xs_cons,xs_nil,x_asg,x_for,x_ret,IC.ve18,IC.ve2,IC.ve13,IC.ve19,evs,evi,AU,AQ,bd_ok,fl_ok,ht,bT_n,nxO_some,th_nx,Ag,Ah,zbs n hn,toL,DL,sizeMax,e];simp[yaA,yeU,yah,toR,fl_ok,nL,noLocs_ints,R.fl,yaJ]
theorem zbp{M:Mem}{a b c d:Int}(h0:M 109 0=a)(h1:M 109 1=b)(h2:M 109 2=c)(h3:M 109 3=d):getM M 109 0 4=[a,b,c,d]:=by
 show [M 109 0,M 109 1,M 109 2,M 109 3]=_;rw[h0,h1,h2,h3]
theorem bi4{p q r s:Int}(hp:0<=p/\p<=1)(hq:0<=q/\q<=1)(hr:0<=r/\r<=1)(hs:0<=s/\s<=1):∀v∈[p,q,r,s],-1<=v/\v<=1:=λv hv=>by
 erw[AO,A8,or_false]at hv;lia
theorem zpN{i:Int}{j:Nat}:yG .shr (.int i) (.int (j:Int))=AA (.int (i/2^j)):=by
 erw[yG,binI];rw[if_pos (by lia)];simp
theorem zec{W:Int}(hW:0<W):∀(n:Nat) (v:Int),(ye W (n+1) v)[n]?=AA (v/W^n%W)
 |0,v=>by simp[ye]
 |n+1,v=>by
  rw[ye,AQ,zec hW n,BX (by lia),Ac,Ae W]
theorem zm2(k:Nat){ws:List Int}{w b l r:Int}(hs:w-1=b)(hi:∀st,idxV st (.tp AC (ws.map .int)) (.int (-1))=AA (.int l))(q:yG .shr (.int l) (.int b)=AA (.int r))(st:SO):yc T (k+1) zb3 [.tp AC (ws.map .int),.int w] st=.ok (.int r) st:=by
 have hT:T zb3=AA zb4:=rfl;rw[zc hT rfl rfl (by simp[nLs,nL,noLocs_ints])];generalize PV.tp AC (ws.map .int)=v at *;simp! [zb4,hi,hs,q];rfl
theorem zg3(k:Nat){w n:Nat}(hw:1<=w){v:Int}(v0:0<=v)(v1:v<(2^w:Int)^(n+1))(st:SO):yc T (k+1) zb3 [.tp AC ((ye (2^w) (n+1) v).map .int),.int w] st=.ok (.int (bi (decide ((2^w:Int)^(n+1)<=2*v)))) st:=by
 obtain⟨j,rfl⟩:∃j,w=j+1:=⟨w-1,by lia⟩;have hW:(0:Int)<2^(j+1):=A4 (by lia);have hp:(0:Int)<(2^(j+1):Int)^n:=A4 hW;have hj:(0:Int)<2^j:=A4 (by lia);have e:(2:Int)^(j+1)=2^j*2:=Ac 2 j;have hl:=zec hW n v;have hd1:v/(2^(j+1):Int)^n<2^(j+1):=Bi hp (by rw[Ac,Ae]at v1;exact v1);have hdA:=C0 v0 (Bu hp);rw[A2 hdA hd1]at hl;have hi:∀st,idxV st (.tp AC ((ye (2^(j+1)) (n+1) v).map .int)) (.int (-1))=AA (.int (v/(2^(j+1):Int)^n)):=λst=>by
  have hlen:=zS (2^(j+1)) (n+1) v;erw[idxV,yba,at?,ixI,Ap,hlen];rw[if_neg (by lia),if_pos (by lia)];rw[show ((-1:Int)+((n+1:Nat):Int)).toNat=n by lia];simp[hl]
 refine zm2 k (b:=(j:Int)) (by lia) hi ?_ st;rw[zpN]
 congr 2
 have P:(2^(j+1):Int)^(n+1)=(2^(j+1):Int)^n*2^j*2:=by rw[Ac,Ad,<-e]
 rw[BX (Bu hp)];have hq:0<(2^(j+1):Int)^n*2^j:=Int.mul_pos hp hj;rw[P]at v1 ⊢;generalize (2^(j+1):Int)^n*2^j=H at *
 by_cases h:H*2<=2*v
 .have h1:1<=v/H:=FX hq (by lia);have h2:v/H<2:=Bi hq (by lia);rw[decide_eq_true h];show _=(1:Int);lia
 .rw[decide_eq_false h];exact BJ v0 (by lia)
theorem isP(nm:String)(h:isOk (yc T 20 zK [.tp AC [.str (AF nm)]] []) (.bl AB)=AB):yc T 20 zK [.tp AC [.str (AF nm)]] []=.ok (.bl AB) []:=zdt h
theorem mod2(a:Int):0<=a%2/\a%2<=1:=by lia
section
variable (k:Nat){w n:Nat}(hw:4<=w)(hw2:w<=16)(hn:1<=n)(hn2:n<=4){x y:Int}(x0:0<=x)(x1:x<2^(w*n))(st:SO)
include hw hw2 hn hn2 x0 x1
theorem zpJ(y0:0<=y)(y1:y<2^(w*n)):∃ms,yc T (23+k) zI [.tp AC [.str "sum"],.int w,.int n,.int x,.int y] st=.ok (.tp AC [.tp AC ((ye (2^w) n ((x+y)%2^(w*n))).map .int),.tp AC [],ms]) st:=by
 have hp:(2:Int)^(w*n)=(2^w:Int)^n:=CB;obtain⟨m,rfl⟩:∃m,n=m+1:=⟨n-1,by lia⟩;let⟨q1,q2,q3,q4,q5⟩:=zkD (w:=w) (by lia) x0 (by rw[<-hp];exact x1) y0 (by rw[<-hp];exact y1);rw[<-hp]at q1;exact⟨_,parts k (ycP hw2 hn hn2) (zkJ hn hn2) hw2 (by lia) hn2 (by lia) (zje hn2) x0 x1 y0 y1 (λ_=>isP _ (by decide +kernel)) (λ_=>rfl) q1 rfl (zbp q2 q3 q4 q5) (bi4 (zab _) (zab _) (zab _) (zab _)) st⟩
theorem zpI(y0:0<y)(y1:y<2^(w*n)):∃ms,yc T (23+k) zI [.tp AC [.str "quotient"],.int w,.int n,.int x,.int y] st=.ok (.tp AC [.tp AC ((ye (2^w) n (x/y)).map .int),.tp AC ((ye (2^w) n (x%y)).map .int),ms]) st:=by
 have hp:(2:Int)^(w*n)=(2^w:Int)^n:=CB;obtain⟨m,rfl⟩:∃m,n=m+1:=⟨n-1,by lia⟩;let⟨q0,q1,q2,q3,q4,q5⟩:=zif (w:=w) (by lia) x0 (by rw[<-hp];exact x1) y0 (by rw[<-hp];exact y1);exact⟨_,parts k (ycL hw2 hn hn2) (zkX hn hn2) hw2 (by lia) hn2 (by lia) (zjd hw2 hn2) x0 x1 (by lia) y1 (λ_=>isP _ (by decide +kernel)) (λh=>by lia) q0 q1 (zbp q2 q3 q4 q5) (bi4 (by lia) (by lia) (zab _) (zab _)) st⟩
theorem yf7(y0:0<y)(y1:y<2^(w*n)){X Y Q:Int}(hX:X=sgd (2^(w*n)) x)(hY:Y=sgd (2^(w*n)) y)(hQ:Q=ybB X Y):∃ms,yc T (23+k) zI [.tp AC [.str "signed quotient"],.int w,.int n,.int x,.int y] st=.ok (.tp AC [.tp AC ((ye (2^w) n (Q%2^(w*n))).map .int),.tp AC ((ye (2^w) n ((X-Y*Q)%2^(w*n))).map .int),ms]) st:=by
 have hp:(2:Int)^(w*n)=(2^w:Int)^n:=CB;obtain⟨m,rfl⟩:∃m,n=m+1:=⟨n-1,by lia⟩;let⟨q0,q1,q2,q3,q4,q5⟩:=zg6 (w:=w) (by lia) x0 (by rw[<-hp];exact x1) y0 (by rw[<-hp];exact y1) hp hX hY hQ;exact⟨_,parts k (ydy hw2 hn hn2) (zpc hn hn2) hw2 (by lia) hn2 (by lia) (zlb hw2 hn2) x0 x1 (by lia) y1 (λ_=>isP _ (by decide +kernel)) (λh=>by lia) q0 q1 (zbp q2 q3 q4 q5) (bi4 (by lia) (zab _) (zab _) (zab _)) st⟩
theorem zk8{s:Nat}(hs:(2:Int)^s<=2^(w*n)):∃ms,yc T (23+k) zI [.tp AC [.str "both"],.int w,.int n,.int x,.int (2^s-1)] st=.ok (.tp AC [.tp AC ((ye (2^w) n (x%2^s)).map .int),.tp AC [],ms]) st:=by
 have hs0:(0:Int)<2^s:=A4 (by lia);have hp:=pw (w*n);have hps:=pw s;obtain⟨m,rfl⟩:∃m,n=m+1:=⟨n-1,by lia⟩;obtain⟨X,rfl⟩:∃X:Nat,x=X:=⟨x.toNat,by lia⟩;have hY:(2:Int)^s-1=((2^s-1:Nat):Int):=by lia
 let⟨q1,q2,q3,q4,q5⟩:=zjc zlr .both (λ_ _ _ _ _ _=>rfl) (w:=w) (by lia) (n:=m) (X:=X) (Y:=2^s-1) (by lia) (by lia);rw[<-hY,Cb]at q1 q4 q5;rw[<-hY]at q2 q3;have hX:(X:Int)%2^s=((X%2^s:Nat):Int):=by rw[<-hps];simp
 rw[hX];exact⟨_,parts k (ych hw2 hn hn2) (zji hn hn2) hw2 (by lia) hn2 (by lia) (zgB hn2) x0 x1 (by lia) (by lia) (λ_=>isP _ (by decide +kernel)) (λ_=>rfl) q1 rfl (zbp q2 q3 q4 q5) (bi4 (by lia) (by lia) (zab _) (zab _)) st⟩
theorem zmF{s:Nat}(hs:s<=63):∃ms,yc T (23+k) zI [.tp AC [.str "right",.int s],.int w,.int n,.int x,.int 0] st=.ok (.tp AC [.tp AC ((ye (2^w) n (x/2^s)).map .int),.tp AC [],ms]) st:=by
 have hp:(2:Int)^(w*n)=(2^w:Int)^n:=CB;have hP0:(0:Int)<2^(w*n):=A4 (by lia);obtain⟨m,rfl⟩:∃m,n=m+1:=⟨n-1,by lia⟩;let⟨q1,q2,q3,q4,q5⟩:=zg4 (w:=w) (by lia) (s:=s) x0 (by rw[<-hp];exact x1);exact⟨_,parts k (yb3 hs hw2 hn hn2) (zhZ (by simp[yau]) hn hn2) hw2 (by lia) hn2 (by lia) (zfN _ hn2 hs) x0 x1 (DN 0) hP0 (λh=>absurd rfl h) (λ_=>rfl) q1 rfl (zbp q2 q3 q4 q5) (bi4 (by split;lia;exact mod2 _) (by lia) (zab _) (zab _)) st⟩
theorem znq{s:Nat}(hs:s<=63):∃ms,yc T (23+k) zI [.tp AC [.str "down",.int s],.int w,.int n,.int x,.int 0] st=.ok (.tp AC [.tp AC ((ye (2^w) n (sgd (2^(w*n)) x/2^s%2^(w*n))).map .int),.tp AC [],ms]) st:=by
 have hp:(2:Int)^(w*n)=(2^w:Int)^n:=CB;have hP0:(0:Int)<2^(w*n):=A4 (by lia);obtain⟨m,rfl⟩:∃m,n=m+1:=⟨n-1,by lia⟩;let⟨q1,q2,q3,q4,q5⟩:=zhE (w:=w) (by lia) (s:=s) x0 (by rw[<-hp];exact x1);rw[<-hp]at q1;exact⟨_,parts k (yct hs hw2 hn hn2) (zhZ (by erw[yaF,yau,yO];lia) hn hn2) hw2 (by lia) hn2 (by lia) (zfN _ hn2 hs) x0 x1 (DN 0) hP0 (λh=>absurd rfl h) (λ_=>rfl) q1 rfl (zbp q2 q3 q4 q5) (bi4 (by split;lia;exact mod2 _) (by lia) (zab _) (zab _)) st⟩
end
noncomputable def yby:Ce:=match yaj.body with
 |.cons _ (.cons (.while c _) _)=>c
 |_=>.nope
noncomputable def ybW:Css:=match yaj.body with
 |.cons _ (.cons (.while _ b) _)=>b
 |_=>.nil
theorem ziN{c:Cl}{n:Nat}{ns:List Int}{a p m t:Int}{f:Bool}{u:Option PV}{st:SO}(h:st[n]?=AA (.lst [.lst (ns.map .int),.int a,.int p,.bl f])):
  ∃B,ev c [AA (.loc n),AA (.int m),AA (.int t),u] st yby=.ok (.bl B) st/\(B=AB->t<64):=by
 by_cases h1:t<64
 .by_cases h2:p=0
  .refine⟨AB,?_,λ_=>h1⟩;erw[yby,yaj,IC.ve1,IC.ve2,IC.ve3,IC.ve6,IC.ve7,IC.ve8,IC.ve16,R.bind,AU,AQ,h,idxV,yba,at?,ixI,yG,binI,yaI,toR,yN,ybN,onBl];simp[h1,h2,zdn,peq]
  .have h2:(p==0)=false:=by simp[h2]
   cases f
   .refine⟨AC,?_,λ_=>h1⟩;erw[yby,yaj,IC.ve1,IC.ve2,IC.ve3,IC.ve6,IC.ve7,IC.ve8,IC.ve16,R.bind,AU,AQ,h,idxV,yba,at?,ixI,yG,binI,yaI,toR,yN,ybN,onBl];simp[h,h1,h2,zdn,peq]
   .refine⟨decide (p<m*4096),?_,λ_=>h1⟩;erw[yby,yaj,IC.ve1,IC.ve2,IC.ve3,IC.ve6,IC.ve7,IC.ve8,IC.ve16,R.bind,AU,AQ,h,idxV,yba,at?,ixI,yG,binI,yaI,toR,yN,ybN,onBl];simp[h,h1,h2,zdn,peq]
 .refine⟨AC,?_,λz=>by cases z⟩;erw[yby,yaj,IC.ve1,IC.ve2,IC.ve3,IC.ve6,IC.ve7,IC.ve8,IC.ve16,R.bind,AU,AQ,h,idxV,yba,at?,ixI,yG,binI,yaI,toR,yN,ybN,onBl];simp[h1]
theorem zjh(k:Nat){n:Nat}{ns:List Int}(hns:ns.length<=1000){a p m t:Int}(ha:0<=a){f:Bool}{u:Option PV}{st:SO}(h:st[n]?=AA (.lst [.lst (ns.map .int),.int a,.int p,.bl f])):
  ∃p' f',exs (yc T (k+2)) [AA (.loc n),AA (.int m),AA (.int t),u] st ybW=.nx [AA (.loc n),AA (.int m),AA (.int (t+1)),u] (st.set n (.lst [.lst (ns.map .int),.int (a+1),.int p',.bl f'])):=by
 let⟨q,g,hq⟩:=fill k n ns hns a p ha f st h;have hm:(1+q%4093).natAbs<18446744073709551616:=by lia
 have hau:∀st,ex (yc T (k+2)) [AA (.loc n),AA (.int m),AA (.int t),u] st (.aug 2 .add (.cst (.int 1)))=.nx [AA (.loc n),AA (.int m),AA (.int (t+1)),u] st:=λst=>by
  rw[zqg (x:=.int t) rfl];simp[IC.ve1,R.fl,ybS,yG,binI,nxO]
 cases g
 .refine⟨q,AC,?_⟩;erw[ybW,yaj,xs_cons,xs_nil,x_expr,x_ite,x_six,hau,yaJ,nxO,IC.ve1,IC.ve2,IC.ve3,IC.ve6,IC.ve8,IC.ve16,IC.ve18,evs,R.fl,R.bind,hq,ybS,yG,binI,DI,Ag,Ah,AU,AQ,rdS h,idxV,yba,at?,ixI,yaI,toR,yN,ybN,onBl,onF,yaQ];simp[rdS h]
 .by_cases hl:q<m*4096
  .refine⟨q+m*4096*(1+q%4093),AB,?_⟩;erw[ybW,yaj,xs_cons,xs_nil,x_expr,x_ite,x_six,hau,yaJ,nxO,IC.ve1,IC.ve2,IC.ve3,IC.ve6,IC.ve8,IC.ve16,IC.ve18,evs,R.fl,R.bind,hq,ybS,yG,binI,DI,Ag,Ah,AU,AQ,rdS h,idxV,yba,at?,ixI,yaI,toR,yN,ybN,onBl,onF,yaQ,stO,ybD];simp[rdS h,hl,hm]
  .refine⟨q,AB,?_⟩;erw[ybW,yaj,xs_cons,xs_nil,x_expr,x_ite,x_six,hau,yaJ,nxO,IC.ve1,IC.ve2,IC.ve3,IC.ve6,IC.ve8,IC.ve16,IC.ve18,evs,R.fl,R.bind,hq,ybS,yG,binI,DI,Ag,Ah,AU,AQ,rdS h,idxV,yba,at?,ixI,yaI,toR,yN,ybN,onBl,onF,yaQ];simp[rdS h,hl]
theorem zfn(k:Nat){n:Nat}{ns:List Int}(hns:ns.length<=1000){m:Int}{u:Option PV}:∀(r N:Nat) (t a p:Int) (f:Bool) (st:SO),r<=N->64-t<=r->0<=a->st[n]?=AA (.lst [.lst (ns.map .int),.int a,.int p,.bl f]) ->
  ∃t' a' p' f',0<=a'/\yaV (yc T (k+2)) yby ybW (N+1) [AA (.loc n),AA (.int m),AA (.int t),u] st=.nx [AA (.loc n),AA (.int m),AA (.int t'),u] (st.set n (.lst [.lst (ns.map .int),.int a',.int p',.bl f']))
 |r,N,t,a,p,f,st,hN,ht,ha,h=>by
  let⟨B,hB,hb⟩:=ziN (c:=yc T (k+2)) (m:=m) (t:=t) (u:=u) h;have hs:st.set n (.lst [.lst (ns.map .int),.int a,.int p,.bl f])=st:=by
   refine DY λi=>?_;rw[Cm];split
   .rename_i e;subst e;split
    .exact h.symm
    .rename_i z;rw[BN (by lia)]at h
     cases h
   .rfl
  cases B with
  |false=>exact⟨t,a,p,f,ha,by rw[zfC hB rfl,hs]⟩
  |true=>
   have h64:=hb rfl
   match r,N with
   |0,_=>exact absurd ht (by lia)
   |r+1,N+1=>
    let⟨p1,f1,hx⟩:=zjh k hns (m:=m) (t:=t) ha (u:=u) h;let⟨t',a',p',f',h0,h2⟩:=zfn k hns (m:=m) (u:=u) r N (t+1) (a+1) p1 f1 _ (by lia) (by lia) (by lia) (rdS h);refine⟨t',a',p',f',h0,?_⟩;rw[ziq hB rfl hx,h2,D3]
theorem take(k n:Nat)(ns:List Int)(hns:ns.length<=1000)(a p m:Int)(ha:0<=a)(hm:0<m)(hm2:m<10000000000000000000000000000000000000000000000000000000000000000000000)(f:Bool)(st:SO)(h:st[n]?=AA (.lst [.lst (ns.map .int),.int a,.int p,.bl f])):
  ∃d a' p' f',0<=d/\d<m/\0<=a'/\yc T (k+3) zbR [.loc n,.int m] st=.ok (.int d) (st.set n (.lst [.lst (ns.map .int),.int a',.int p',.bl f'])):=by
 let⟨t',a',p',f',h0,h2⟩:=zfn k hns (m:=m) (u:=AD) 64 99999 0 a p f st (by lia) (by lia) ha h;refine⟨p'%m,a',p'/m,f',Aq _ (by lia),Ai _ hm,h0,?_⟩;have hb:yaj.body=.cons (.asg (.n 2) (.cst (.int 0))) (.cons (.while yby ybW) (.cons (.asg (.n 3) (.bin .mod (.idx (.var 0) (.cst (.int 2))) (.var 1))) (.cons (.six (.var 0) (.cst (.int 2)) (.bin .fdiv (.idx (.var 0) (.cst (.int 2))) (.var 1))) (.cons (.ret (.var 3)) .nil)))):=rfl;have hT:T zbR=AA ⟨2,4,AC,yaj.body⟩:=rfl;rw[yc,hT,hb];erw[AX,BV,if_true,AL,Ak,C7,Au,Aw,BW,xs_cons,xs_nil,x_asg,zmp,x_six,x_ret,yaJ,nxO,stO,IC.ve1,IC.ve2,IC.ve3,IC.ve16,R.fl,R.bind,yR,Ag,Ah,AU,AQ,h2,rdS h,idxV,yba,at?,ixI,yG,binI,hm,hm2,and_self,toR,ybD];simp[rdS h,hm,hm2]
def Drw(ns:List Int)(n:Nat)(st:SO):Prop:=∃a p f,0<=a/\st[n]?=AA (.lst [.lst (ns.map .int),.int a,.int p,.bl f])
def Onl(ns:List Int)(n:Nat)(st st':SO):Prop:=∃a p f,0<=a/\st'=st.set n (.lst [.lst (ns.map .int),.int a,.int p,.bl f])
theorem Onl.drw{ns:List Int}{n:Nat}{st st':SO}(h:Drw ns n st)(o:Onl ns n st st'):Drw ns n st':=by
 let⟨a,p,f,ha,h⟩:=h;let⟨b,q,g,hb,rfl⟩:=o;exact⟨b,q,g,hb,rdS h⟩
theorem Onl.trans{ns:List Int}{n:Nat}{st st1 st2:SO}(o:Onl ns n st st1)(o2:Onl ns n st1 st2):Onl ns n st st2:=by
 let⟨b,q,g,hb,rfl⟩:=o;let⟨c,r,j,hc,rfl⟩:=o2;exact⟨c,r,j,hc,by rw[D3]⟩
theorem ya5(k:Nat){n:Nat}{ns:List Int}(hns:ns.length<=1000){m:Int}(hm:0<m)(hm2:m<10000000000000000000000000000000000000000000000000000000000000000000000){st:SO}(h:Drw ns n st):
  ∃d st',0<=d/\d<m/\Onl ns n st st'/\yc T (k+3) zbR [.loc n,.int m] st=.ok (.int d) st':=by
 let⟨a,p,f,ha,h⟩:=h;let⟨d,a',p',f',h1,h2,h3,h4⟩:=take k n ns hns a p m ha hm hm2 f st h;exact⟨d,_,h1,h2,⟨_,_,_,h3,rfl⟩,h4⟩
theorem fresh(k:Nat)(ns:List Int)(h:ns.length<=63)(st:SO):∃v,yc T (k+1) zey [.scr (ns.map .int)] st=.ok (.loc st.length) (st++[v])/\v=.lst [.lst (ns.map .int),.int 0,.int 0,.bl AC]:=by
 have hT:T zey=AA zcP:=rfl;refine⟨_,?_,rfl⟩;rw[yc,hT];erw[zcP,AX,BV,if_true,AL,Ak,C7,Au,Aw,BW,xs_cons,xs_nil,x_ret,yaJ,ev,evs,R.fl,R.bind,AU,toR];have hc:yc3 (.scr (ns.map PV.int)) AD (.int 63)=AA (.lst (ns.map .int)):=by
  have hk:ybt ns.length 63=ns.length:=by
   show min 63 ns.length=ns.length;lia
  simp[yc3,ycg,ycF,cut,ycN,ydc,hk]
  try rw[<-Ap (f:=PV.int),G5]
 simp[ycg,onP,hc,sizeMax]
theorem dbl{call:Cl}{i j:Nat}(hij:i≠j):∀(N:Nat) (a:Int) (ρ:IC.Env) (v:Int) (st:SO),ρ[i]?=AA (AA (.int v)) ->
  ∃u,ybf call (.n j) (.cons (.asg (.n i) (.bin .mul (.cst (.int 2)) (.var i))) .nil) (yu N a 1) ρ st=.nx ((ρ.set i (AA (.int (2^N*v)))).set j u) st/\(N=0->ρ[j]?=AA u \/ ρ.length<=j)
 |0,a,ρ,v,st,h=>by
  have hi:ρ.set i (AA (.int v))=ρ:=by
   refine DY λz=>?_;rw[Cm];split
   .rename_i e;subst e;split
    .exact h.symm
    .rw[BN (by lia)]at h
     cases h
   .rfl
  rcases C3 j ρ.length with hj|hj
  .refine⟨ρ[j],?_,λ_=>.inl (By hj)⟩;rw[yu,zM,Ch,Bg,hi,List.set_getElem_self]
  .refine⟨AD,?_,λ_=>.inr hj⟩;rw[yu,zM,Ch,Bg,hi,List.set_eq_of_length_le hj]
 |N+1,a,ρ,v,st,h=>by
  have h1:(ρ.set j (AA (.int a)))[i]?=AA (AA (.int v)):=by
   rw[AR (BP hij)];exact h
  have hil:i<ρ.length:=by
   rcases C3 i ρ.length with z|z
   .exact z
   .rw[BN z]at h;cases h
  have h2:exs call (ρ.set j (AA (.int a))) st (.cons (.asg (.n i) (.bin .mul (.cst (.int 2)) (.var i))) .nil)=.nx ((ρ.set j (AA (.int a))).set i (AA (.int (2*v)))) st:=by
   erw[xs_nil,xs_cons,x_asg,yaJ,nxO,IC.ve1,IC.ve2,IC.ve3,R.bind,R.fl,h1,yR,yG,binI,yaI,toR];simp
  let⟨u,h3,_⟩:=dbl (call:=call) hij N (a+1) ((ρ.set j (AA (.int a))).set i (AA (.int (2*v)))) (2*v) st (by rw[Ab (by rw[Ba];exact hil)]);refine⟨u,?_,λz=>by cases z⟩;rw[yu,zE (ρ1:=ρ.set j (AA (.int a))) rfl,h2];show ybf call _ _ _ _ _=_;rw[h3,D3,HC _ _ (BP hij),D3,Ac,Ad]
theorem zew(K:Nat):(0:Int)<2^K:=A4 (by lia)
noncomputable def yQ:Css:=match yae.body with
 |.cons _ (.cons _ (.cons _ r))=>r
 |_=>.nil
noncomputable def wT2:Css:=match yQ with
 |.cons _ (.cons _ (r))=>r
 |_=>.nil
theorem wE2:yQ=(match yQ with
 |.cons q0 (.cons q1 (_))=>.cons q0 (.cons q1 (wT2))
 |_=>.nil):=rfl
noncomputable def wT4:Css:=match yQ with
 |.cons _ (.cons _ (.cons _ (.cons _ (r))))=>r
 |_=>.nil
theorem wE4:yQ=(match yQ with
 |.cons q0 (.cons q1 (.cons q2 (.cons q3 (_))))=>.cons q0 (.cons q1 (.cons q2 (.cons q3 (wT4))))
 |_=>.nil):=rfl
noncomputable def wT5:Css:=match yQ with
 |.cons _ (.cons _ (.cons _ (.cons _ (.cons _ (r)))))=>r
 |_=>.nil
theorem wE5:yQ=(match yQ with
 |.cons q0 (.cons q1 (.cons q2 (.cons q3 (.cons q4 (_)))))=>.cons q0 (.cons q1 (.cons q2 (.cons q3 (.cons q4 (wT5)))))
 |_=>.nil):=rfl
noncomputable def wT6:Css:=match yQ with
 |.cons _ (.cons _ (.cons _ (.cons _ (.cons _ (.cons _ (r))))))=>r
 |_=>.nil
theorem wE6:yQ=(match yQ with
 |.cons q0 (.cons q1 (.cons q2 (.cons q3 (.cons q4 (.cons q5 (_))))))=>.cons q0 (.cons q1 (.cons q2 (.cons q3 (.cons q4 (.cons q5 (wT6))))))
 |_=>.nil):=rfl
theorem zgP{c:Cl}{n:Nat}{w z kd m:Int}{u5 u6 u7 u8 u9 u10 u11 u12:Option PV}{st:SO}(h0:0<=kd)(h6:kd<6)(hm:16<=m):
  ∃x,0<=x/\x<m/\exs c [AA (.loc n),AA (.int w),AA (.int z),AA (.int kd),AA (.int m),u5,u6,u7,u8,u9,u10,u11,u12] st yQ=.rt (.int x) st:=by
 obtain⟨x,x0,x1,hv⟩:∃x:Int,0<=x/\x<m/\∀st,idxV st (.tup [.int 0,.int 1,.int (m-1),.int (m/2),.int (m/2-1),.int (m-2)]) (.int kd)=AA (.int x):=by
  rcases (by lia:kd=0 \/ kd=1 \/ kd=2 \/ kd=3 \/ kd=4 \/ kd=5)with rfl|rfl|rfl|rfl|rfl|rfl
  .exact⟨0,by lia,by lia,λ_=>rfl⟩
  .exact⟨1,by lia,by lia,λ_=>rfl⟩
  .exact⟨m-1,by lia,by lia,λ_=>rfl⟩
  .exact⟨m/2,by lia,by lia,λ_=>rfl⟩
  .exact⟨m/2-1,by lia,by lia,λ_=>rfl⟩
  .exact⟨m-2,by lia,by lia,λ_=>rfl⟩
 refine⟨x,x0,x1,?_⟩;rw[wE2];erw[yQ,yae,AX,BV,Bl,C6,if_true,xs_cons,xs_nil,x_asg,x_ite,x_ret,IC.ve1,IC.ve2,IC.ve3,IC.ve8,IC.ve11,IC.ve16,IC.ve18,evs,AU,AQ,bd_ok,fl_ok,toR_some,bT_n,nxO_some,th_nx,th_rt,Ag,Ah,t_bl,on_t,sizeMax,Cz,b_sub,b_div2,c_lt,c_eq,c_gt,cond_true,cond_false,hv,h6,decide_true]
theorem zhL(k:Nat){n:Nat}{ns:List Int}(hns:ns.length<=1000){w z kd m:Int}{u5 u6 u7 u8 u9 u10 u11 u12:Option PV}{st:SO}(h:Drw ns n st)(h9:9<kd)(hm:16<=m)(hm2:m<=18446744073709551616):
  ∃x st',0<=x/\x<m/\Onl ns n st st'/\exs (yc T (k+3)) [AA (.loc n),AA (.int w),AA (.int z),AA (.int kd),AA (.int m),u5,u6,u7,u8,u9,u10,u11,u12] st yQ=.rt (.int x) st':=by
 let⟨d,s1,d1,d2,o1,e1⟩:=ya5 k hns (m:=m) (by lia) (by lia) h;refine⟨d,s1,d1,d2,o1,?_⟩;have k1:decide (kd<6)=false:=decide_eq_false (by lia);have k2:(kd==6)=false:=beq_eq_false_iff_ne.2 (by lia);have k3:(kd==7)=false:=beq_eq_false_iff_ne.2 (by lia);rw[wE6];erw[yQ,yae,AX,BV,Bl,C6,if_true,xs_cons,xs_nil,x_asg,x_ite,x_ret,IC.ve1,IC.ve2,IC.ve3,IC.ve8,IC.ve11,IC.ve16,IC.ve18,evs,AU,AQ,bd_ok,fl_ok,toR_some,bT_n,nxO_some,th_nx,th_rt,Ag,Ah,t_bl,on_t,sizeMax,Cz,b_sub,b_div2,c_lt,c_eq,c_gt,cond_true,cond_false,e1,h9,decide_true,k1,k2,k3]
theorem zha(k:Nat){n:Nat}{ns:List Int}(hns:ns.length<=1000){w z kd m:Int}{u5 u6 u7 u8 u9 u10 u11 u12:Option PV}{st:SO}(h:Drw ns n st)(hk:kd=6 \/ kd=7)(hw:4<=w)(hw2:w<=16)(hz:1<=z)(hz2:z<=4)(hm:m=2^(w*z).toNat):
  ∃x st',0<=x/\x<m/\Onl ns n st st'/\exs (yc T (k+3)) [AA (.loc n),AA (.int w),AA (.int z),AA (.int kd),AA (.int m),u5,u6,u7,u8,u9,u10,u11,u12] st yQ=.rt (.int x) st':=by
 have hwz:4<=w*z:=by
  have:=Gz hw hz (by lia) (by lia);lia
 have hwz2:w*z<=64:=by
  have:=Gz hw2 hz2 (by lia) (by lia);lia
 have hm1:0<m:=hm ▸ zew _;have hm2:m<=18446744073709551616:=by
  have h64:(2:Nat)^(w*z).toNat<=2^64:=A9 (by lia) (by lia);have h65:((2^(w*z).toNat:Nat):Int)=2^(w*z).toNat:=by simp
  rw[hm,<-h65];lia
 let⟨d,s1,d1,d2,o1,e1⟩:=ya5 k hns (m:=m) (by lia) (by lia) h;let⟨e,s2,d3,d4,o2,e2⟩:=ya5 k hns (m:=w*z) (by lia) (by lia) (o1.drw h);have hj:(2:Int)^e.toNat<m:=by
  rw[hm];exact Int.pow_lt_pow_of_lt (by lia) (by lia)
 have hj1:=zew e.toNat;have hj2:(2:Int)^e.toNat<10000000000000000000000000000000000000000000000000000000000000000000000:=by lia
 have hj3:((2:Int)^e.toNat).natAbs<18446744073709551616:=by lia
 have hj4:(2:Nat)^e.toNat<18446744073709551616:=by
  have h65:((2^e.toNat:Nat):Int)=2^e.toNat:=by simp
  lia
 have hwa:w.natAbs<18446744073709551616:=by lia
 have hea:e.natAbs<1000000000:=by lia
 have hr:ybY (.int e)=AA (yu e.toNat 0 1):=by erw[ybY,hea,if_true]
 have q1:=zim (i:=d) hj1 (by lia);have q2:yG .mul (.int (d/2^e.toNat)) (.int (2^e.toNat))=AA (.int (d/2^e.toNat*2^e.toNat)):=zc2 hj3;have q3:yG .mul (.int w) (.int z)=AA (.int (w*z)):=za9 hwa
 clear hj2 hj4 hea hwa hj3 hwz hwz2
 rcases hk with rfl|rfl
 .let⟨u,hd,_⟩:=dbl (call:=yc T (k+3)) (i:=8) (j:=5) (by lia) e.toNat 0 [AA (.loc n),AA (.int w),AA (.int z),AA (.int 6),AA (.int m),u5,AA (.tup [.int 0,.int 1,.int (m-1),.int (m/2),.int (m/2-1),.int (m-2)]),AA (.int d),AA (.int 1),u9,u10,u11,u12] 1 s2 rfl;refine⟨d/2^e.toNat*2^e.toNat,s2,Cu (C0 d1 (by lia)) (by lia),GH (Int.ediv_mul_le d (by lia)) d2,o1.trans o2,?_⟩;have k1:decide ((6:Int)<6)=false:=rfl;have k2:((6:Int)==6)=true:=rfl;rw[C2]at hd;rw[wE4];generalize wT4=F at *;generalize (2:Int)^e.toNat=P at *;erw[IC.PV.tup]at hd;simp! [yQ,yae,e1,k1,k2,q3,e2,hr,hd,q1,q2]
 .let⟨u,hd,_⟩:=dbl (call:=yc T (k+3)) (i:=8) (j:=5) (by lia) e.toNat 0 [AA (.loc n),AA (.int w),AA (.int z),AA (.int 7),AA (.int m),u5,AA (.tup [.int 0,.int 1,.int (m-1),.int (m/2),.int (m/2-1),.int (m-2)]),AA (.int d),AA (.int 1),u9,u10,u11,u12] 1 s2 rfl;refine⟨m-2^e.toNat,s2,by lia,by lia,o1.trans o2,?_⟩;have k1:decide ((7:Int)<6)=false:=rfl;have k2:((7:Int)==6)=false:=rfl;have k3:((7:Int)==7)=true:=rfl;rw[C2]at hd;rw[wE5];generalize wT5=F at *;generalize (2:Int)^e.toNat=P at *;erw[IC.PV.tup]at hd;simp! [yQ,yae,e1,k1,k2,k3,q3,e2,hr,hd]
theorem Drw.refl{ns:List Int}{n:Nat}{st:SO}(h:Drw ns n st):Onl ns n st st:=by
 let⟨a,p,f,ha,h⟩:=h;exact⟨a,p,f,ha,zkh h⟩
noncomputable def ybP:Css:=match yQ with
 |.cons _ (.cons _ (.cons _ (.cons _ (.cons _ (.cons _ (.cons _ (.cons _ (.cons _ (.cons (.for _ _ b) _)))))))))=>b
 |_=>.nil
theorem zgW(k:Nat){n:Nat}{ns:List Int}(hns:ns.length<=1000){p1 p2 p3 p4 p6 p8 u11 u12:Option PV}{d W acc a:Int}{st:SO}(h:Drw ns n st)(ha:0<=a)(ha2:a<1000)(hW:4<=W)(hW2:W<18446744073709551616):
  ∃e st' v11 v12,0<=e/\e<W/\Onl ns n st st'/\exs (yc T (k+3)) [AA (.loc n),p1,p2,p3,p4,AA (.int a),p6,AA (.int d),p8,AA (.int W),AA (.int acc),u11,u12] st ybP=.nx [AA (.loc n),p1,p2,p3,p4,AA (.int a),p6,AA (.int d),p8,AA (.int W),AA (.int (acc*W+e)),v11,v12] st':=by
 let⟨t,s1,d1,d2,o1,e1⟩:=ya5 k hns (m:=5) (by lia) (by lia) h;have hW0:0<W:=by lia
 have hWm:W.natAbs<18446744073709551616:=by lia
 have ha3:0<a+1:=by lia
 have ha4:a+1<18446744073709551616*18446744073709551616:=by lia
 have q0:=Aq (d/(a+1)) (show W≠0 by lia);have q1:=Ai (d/(a+1)) hW0;obtain⟨e,x0,x1,hv⟩:∃e:Int,0<=e/\e<W/\∀st,idxV st (.tp AC [.int 0,.int 1,.int (W-1),.int (W/2),.int (d/(a+1)%W)]) (.int t)=AA (.int e):=by
  rcases (by lia:t=0 \/ t=1 \/ t=2 \/ t=3 \/ t=4)with rfl|rfl|rfl|rfl|rfl
  .exact⟨0,by lia,by lia,λ_=>rfl⟩
  .exact⟨1,by lia,by lia,λ_=>rfl⟩
  .exact⟨W-1,by lia,by lia,λ_=>rfl⟩
  .exact⟨W/2,by lia,by lia,λ_=>rfl⟩
  .exact⟨d/(a+1)%W,q0,q1,λ_=>rfl⟩
 refine⟨e,s1,AA (.int (d/(a+1)%W)),AA (.tp AC [.int 0,.int 1,.int (W-1),.int (W/2),.int (d/(a+1)%W)]),x0,x1,o1,?_⟩;erw[ybP,yQ,yae,xs_cons,xs_nil,x_asg,IC.ve1,IC.ve2,IC.ve3,IC.ve11,IC.ve16,IC.ve18,evs,AU,AQ,bd_ok,fl_ok,toR_some,bT_n,nxO_some,th_nx,Ag,Ah,b_add,b_sub,zim ha3 ha4,zjV hW0,b_div2,zc2 hWm,e1,PV.tup,hv,AX,BV,Bl,C6,sizeMax,Cz,if_true]
theorem zdU(k:Nat){n:Nat}{ns:List Int}(hns:ns.length<=1000){p1 p2 p3 p4 p6 p8:Option PV}{d W:Int}(hW:4<=W)(hW2:W<18446744073709551616):∀(r i:Nat) (a acc:Int) (u5 u11 u12:Option PV) (st:SO),0<=a->a+r<1000->0<=acc->acc<W^i->Drw ns n st ->
  ∃acc' st' v5 v11 v12,0<=acc'/\acc' < W^(i+r)/\Onl ns n st st'/\ybf (yc T (k+3)) (.n 5) ybP (yu r a 1) [AA (.loc n),p1,p2,p3,p4,u5,p6,AA (.int d),p8,AA (.int W),AA (.int acc),u11,u12] st=.nx [AA (.loc n),p1,p2,p3,p4,v5,p6,AA (.int d),p8,AA (.int W),AA (.int acc'),v11,v12] st'
 |0,i,a,acc,u5,u11,u12,st,_,_,h0,h1,h=>⟨acc,st,u5,u11,u12,h0,h1,h.refl,by rw[yu,zM]⟩
 |r+1,i,a,acc,u5,u11,u12,st,ha,hr,h0,h1,h=>by
  let⟨e,s1,v11,v12,e0,e1,o1,hs⟩:=zgW k hns (p1:=p1) (p2:=p2) (p3:=p3) (p4:=p4) (p6:=p6) (p8:=p8) (u11:=u11) (u12:=u12) (d:=d) (acc:=acc) h ha (by lia) hW hW2;have hb:acc*W+e<W^(i+1):=by
   have:=BC (show acc<=W^i-1 by lia) (show 0<=W by lia);rw[B4,Bg]at this;rw[Ac];lia
  have hb0:0<=acc*W:=Cu h0 (by lia);let⟨acc',s2,w5,w11,w12,f0,f1,o2,hf⟩:=zdU k hns (p1:=p1) (p2:=p2) (p3:=p3) (p4:=p4) (p6:=p6) (p8:=p8) (d:=d) hW hW2 r (i+1) (a+1) (acc*W+e) (AA (.int a)) v11 v12 s1 (by lia) (by lia) (by lia) hb (o1.drw h);refine⟨acc',s2,w5,w11,w12,f0,by rw[show i+(r+1)=i+1+r by lia];exact f1,o1.trans o2,?_⟩;rw[yu,zE (ρ1:=[AA (.loc n),p1,p2,p3,p4,AA (.int a),p6,AA (.int d),p8,AA (.int W),AA (.int acc),u11,u12]) rfl,hs];exact hf
theorem zfQ(k:Nat){n:Nat}{ns:List Int}(hns:ns.length<=1000){w z:Nat}{kd m:Int}{u5 u6 u7 u8 u9 u10 u11 u12:Option PV}{st:SO}(h:Drw ns n st)(hk:kd=8 \/ kd=9)(hw:4<=w)(hw2:w<=16)(hz:1<=z)(hz2:z<=4)(hm:m=2^(w*z)):
  ∃x st',0<=x/\x<m/\Onl ns n st st'/\exs (yc T (k+3)) [AA (.loc n),AA (.int w),AA (.int z),AA (.int kd),AA (.int m),u5,u6,u7,u8,u9,u10,u11,u12] st yQ=.rt (.int x) st':=by
 have hwz2:w*z<=64:=Aj hw2 hz2;have hm1:0<m:=hm ▸ zew _;have hm2:m<=18446744073709551616:=by
  have h64:(2:Nat)^(w*z)<=2^64:=A9 (by lia) hwz2;rw[hm,<-pw];lia
 let⟨d,s1,d1,d2,o1,e1⟩:=ya5 k hns (m:=m) (by lia) (by lia) h;have hW4:(4:Int)<=2^w:=by
  have h:(2:Nat)^2<=2^w:=A9 (by lia) (by lia);have h2:=pw w;lia
 have hWl:(2:Int)^w<18446744073709551616:=by
  have h:(2:Nat)^w<=2^16:=A9 (by lia) hw2;have h2:=pw w;lia
 have r1:ybY (.int (w:Int))=AA (yu w 0 1):=zbs w (by lia);have r2:ybY (.int (z:Int))=AA (yu z 0 1):=zbs z (by lia);have k1:¬kd<6:=by lia
 have k2:(kd==6)=false:=by simp;lia
 have k3:(kd==7)=false:=by simp;lia
 have k4:¬9<kd:=by lia
 let⟨u,hd,_⟩:=dbl (call:=yc T (k+3)) (i:=9) (j:=5) (by lia) w 0 [AA (.loc n),AA (.int w),AA (.int z),AA (.int kd),AA (.int m),u5,AA (.tup [.int 0,.int 1,.int (m-1),.int (m/2),.int (m/2-1),.int (m-2)]),AA (.int d),u8,AA (.int 1),u10,u11,u12] 1 s1 rfl;erw[Ag,Ah,C2]at hd;let⟨acc',s2,w5,w11,w12,f0,f1,o2,hf⟩:=zdU k hns (p1:=AA (.int w)) (p2:=AA (.int z)) (p3:=AA (.int kd)) (p4:=AA (.int m)) (p6:=AA (.tup [.int 0,.int 1,.int (m-1),.int (m/2),.int (m/2-1),.int (m-2)])) (p8:=u8) (d:=d) (W:=2^w) hW4 hWl z 0 0 0 u u11 u12 s1 (by lia) (by lia) (by lia) (by simp) (o1.drw h);rw[Bl,<-CB,<-hm]at f1;refine⟨acc',s2,f0,f1,o1.trans o2,?_⟩
 have hR:yQ=.cons (.asg (.n 6) (.tup (.cons (.cst (.int 0)) (.cons (.cst (.int 1)) (.cons (.bin .sub (.var 4) (.cst (.int 1))) (.cons (.bin .fdiv (.var 4) (.cst (.int 2))) (.cons (.bin .sub (.bin .fdiv (.var 4) (.cst (.int 2))) (.cst (.int 1))) (.cons (.bin .sub (.var 4) (.cst (.int 2))) .nil)))))))) (match yQ with
  |.cons _ (.cons a (.cons b (.cons c (.cons d (.cons e (.cons f (.cons g (.cons h (.cons (.for t i _) r)))))))))=>.cons a (.cons b (.cons c (.cons d (.cons e (.cons f (.cons g (.cons h (.cons (.for t i ybP) r))))))))
  |_=>.nil):=rfl
 rw[hR];erw[yQ,yae,xs_cons,xs_nil,x_asg,x_ite,x_ret,x_for,evi,r1,r2,toL,IC.ve1,IC.ve2,IC.ve3,IC.ve8,IC.ve11,IC.ve16,IC.ve18,evs,bd_ok,fl_ok,toR_some,bT_n,nxO_some,th_nx,th_rt,Ag,Ah,AU,AQ,b_sub,b_div2,c_lt,c_eq,c_gt,on_t,t_bl,k1,k2,k3,k4,decide_false,cond_false,e1,hd,hf,AX,BV,Bl,C6,sizeMax,Cz,if_true]
theorem worth(k:Nat){n:Nat}{ns:List Int}(hns:ns.length<=1000)(w z:Nat)(hw:4<=w)(hw2:w<=16)(hz:1<=z)(hz2:z<=4){st:SO}(h:Drw ns n st):
  ∃x st',0<=x/\x<2^(w*z)/\Onl ns n st st'/\yc T (k+4) zeM [.loc n,.int w,.int z] st=.ok (.int x) st':=by
 let⟨kd,s1,d1,d2,o1,e1⟩:=ya5 k hns (m:=12) (by lia) (by lia) h;have h1:=o1.drw h;have hwz2:w*z<=64:=Aj hw2 hz2;have hwz:4<=w*z:=Aj hw hz;have hm:(16:Int)<=2^(w*z):=by
  have h:(2:Nat)^4<=2^(w*z):=A9 (by lia) hwz;have h2:=pw (w*z);lia
 have hm2:(2:Int)^(w*z)<=18446744073709551616:=by
  have h:(2:Nat)^(w*z)<=2^64:=A9 (by lia) hwz2;have h2:=pw (w*z);lia
 have hwa:(w:Int).natAbs<18446744073709551616:=by lia
 have hwm:(w:Int)*(z:Int)=((w*z:Nat):Int):=by simp
 have r1:ybY (.int ((w*z:Nat):Int))=AA (yu (w*z) 0 1):=zbs _ (by lia);let⟨u,hd,_⟩:=dbl (call:=yc T (k+3)) (i:=4) (j:=5) (by lia) (w*z) 0 [AA (.loc n),AA (.int w),AA (.int z),AA (.int kd),AA (.int 1),AD,AD,AD,AD,AD,AD,AD,AD] 1 s1 rfl;erw[Ag,Ah,C2]at hd;have key:∃x st',0<=x/\x<2^(w*z)/\Onl ns n s1 st'/\exs (yc T (k+3)) [AA (.loc n),AA (.int w),AA (.int z),AA (.int kd),AA (.int (2^(w*z))),u,AD,AD,AD,AD,AD,AD,AD] s1 yQ=.rt (.int x) st':=by
  rcases (by lia:kd<6 \/ (kd=6 \/ kd=7) \/ (kd=8 \/ kd=9) \/ 9<kd)with q|q|q|q
  .let⟨x,a,b,e⟩:=zgP (c:=yc T (k+3)) (n:=n) (w:=w) (z:=z) (st:=s1) (u5:=u) (u6:=AD) (u7:=AD) (u8:=AD) (u9:=AD) (u10:=AD) (u11:=AD) (u12:=AD) d1 q hm;exact⟨x,s1,a,b,h1.refl,e⟩
  .exact zha k hns h1 q (by lia) (by lia) (by lia) (by lia) (by rw[hwm,CG])
  .exact zfQ k hns h1 q hw hw2 hz hz2 rfl
  .exact zhL k hns h1 q hm hm2
 let⟨x,s2,a,b,o2,e2⟩:=key;refine⟨x,s2,a,b,o1.trans o2,?_⟩;have hT:T zeM=AA ⟨3,13,AC,yae.body⟩:=rfl;have hb:yae.body=.cons (.asg (.n 3) (.call 103 (.cons (.var 0) (.cons (.cst (.int 12)) .nil)))) (.cons (.asg (.n 4) (.cst (.int 1))) (.cons (.for (.n 5) (.range1 (.bin .mul (.var 1) (.var 2))) (.cons (.asg (.n 4) (.bin .mul (.cst (.int 2)) (.var 4))) .nil)) yQ)):=rfl;rw[yc,hT,hb];erw[AX,BV,Bl,C6,if_true,Bo,if_false,AL,Ak,C7,Au,Aw,BW];rw[xs_cons,x_asg];erw[IC.ve18,IC.ve1,IC.ve2,evs,AU,AQ,bd_ok,fl_ok,e1,bT_n,nxO_some,th_nx,Ag,Ah];rw[xs_cons,x_asg];erw[IC.ve1,bd_ok,fl_ok,bT_n,nxO_some,th_nx,Ag,Ah];rw[xs_cons,x_for];erw[evi,IC.ve2,IC.ve3,AU,AQ,bd_ok,fl_ok,za9 hwa,hwm,r1,toL,toR_some,hd,th_nx,e2]
noncomputable def tA:Css:=match ya1.body with
 |.cons _ (.cons _ (.cons _ (.cons _ t)))=>t
 |x=>x
noncomputable def tB:Css:=match tA with
 |.cons _ (.cons _ t)=>t
 |x=>x
noncomputable def tC:Css:=match tB with
 |.cons _ (.cons _ (.cons _ (.cons _ t)))=>t
 |x=>x
theorem min1{a b:Int}(st:SO):yaA .min st [.int a,.int b]=AA (.int (if b<a then b else a)):=by
 erw[yaA,yeO]
theorem zlI{P x d c:Int}(x0:0<=x)(x1:x<P)(hd:0<d)(hP:P=d*c)(h2:2*d<P):
  (x%d=0 \/ ¬P<=2*x->ybB (sgd P x) d%P=sgd P x/d%P/\(sgd P x-d*ybB (sgd P x) d)%P=x%d) /\
  (x%d≠0->P<=2*x->ybB (sgd P x) d%P=(sgd P x/d%P+1)%P/\P<=2*((sgd P x-d*ybB (sgd P x) d)%P)/\(sgd P x-d*ybB (sgd P x) d)%P≠0):=by
 have e:=Bw x d;have r0:=Aq x (show d≠0 by lia);have r1:=Ai x hd;have hr:x%d<P:=by lia
 have ad:yay d=d:=by unfold yay;rw[if_neg (by lia)]
 by_cases h:P<=2*x
 .have hs:sgd P x=x-P:=by unfold sgd;rw[if_pos h]
  have as:yay (x-P)=P-x:=by unfold yay;rw[if_pos (by lia)];lia
  have hq:ybB (x-P) d=0-(P-x)/d:=by
   unfold ybB;rw[as,ad,decide_eq_true (show x-P<0 by lia),decide_eq_false (show ¬d<0 by lia)];rfl
  have m1:d*(c-x/d)=d*c-d*(x/d):=Ds ..;have m2:d*(x/d-c)=d*(x/d)-d*c:=Ds ..;have f1:(x-P)/d=x/d-c:=by
   rw[show x-P=x%d+d*(x/d-c)by lia,D9 _ _ (by lia),BJ r0 r1];lia
  rw[hs,hq,f1]
  by_cases z:x%d=0
  .have f2:(P-x)/d=c-x/d:=by
    rw[show P-x=0+d*(c-x/d)by lia,D9 _ _ (by lia)];simp
   rw[f2,show 0-(c-x/d)=x/d-c by lia];refine⟨λ_=>⟨rfl,?_⟩,λy=>absurd z y⟩;rw[show x-P-d*(x/d-c)=0 by lia,z];simp
  .have m3:d*(c-x/d-1)=d*c-d*(x/d)-d:=by rw[Ds,Ds,C2]
   have m4:d*(x/d-c+1)=d*(x/d)-d*c+d:=by rw[F6,Ds,C2]
   have f2:(P-x)/d=c-x/d-1:=by
    rw[show P-x=(d-x%d)+d*(c-x/d-1)by lia,D9 _ _ (by lia),BJ (by lia) (by lia)];lia
   rw[f2,show 0-(c-x/d-1)=x/d-c+1 by lia];refine⟨λy=>absurd y (by lia),λ_ _=>⟨?_,?_⟩⟩
   .rw[Int.emod_add_emod]
   .have f3:(x-P-d*(x/d-c+1))%P=x%d-d+P:=by
     rw[show x-P-d*(x/d-c+1)=x%d-d by lia,<-Ci];exact A2 (by lia) (by lia)
    rw[f3];lia
 .have hs:sgd P x=x:=by unfold sgd;rw[if_neg h]
  have hq:ybB x d=x/d:=by
   have:yay x=x:=by unfold yay;rw[if_neg (by lia)]
   unfold ybB;rw[this,ad,decide_eq_false (show ¬x<0 by lia),decide_eq_false (show ¬d<0 by lia)];rfl
  rw[hs,hq];refine⟨λ_=>⟨rfl,?_⟩,λ_ y=>absurd y h⟩;rw[show x-d*(x/d)=x%d by lia];exact A2 r0 hr
section
variable {w n:Nat}(hw:4<=w)(hw2:w<=16)(hn:1<=n)(hn2:n<=4){x:Int}(x0:0<=x)(x1:x<2^(w*n))(st:SO)
include hw hw2 hn hn2 x0 x1
theorem zfK{s:Nat}(hs:s<w*n):yc T 24 zbD [.int w,.int n,.int x,.int s] st=.ok (.bl AB) st:=by
 have hK:w*n<=64:=Aj hw2 hn2;have hlt:(2:Int)^s<2^(w*n):=by exact_mod_cast F7 (a:=2) (by decide) hs
 have hs0:(0:Int)<2^s:=A4 (by decide);have e0:yc T 23 zbh [.int s] []=_:=zgF 22 s (by lia) [];let⟨m1,e1⟩:=zpI 0 hw hw2 hn hn2 x0 x1 [] hs0 hlt;let⟨m2,e2⟩:=zmF 0 hw hw2 hn hn2 x0 x1 [] (s:=s) (by lia);let⟨m3,e3⟩:=zk8 0 hw hw2 hn hn2 x0 x1 [] (s:=s) (by lia);have e1:yc T 23 zI _ []=_:=e1;have e2:yc T 23 zI _ []=_:=e2;have e3:yc T 23 zI _ []=_:=e3;have q1:=zlU (ye (2^w) n (x/2^s));have q2:=zej (ye (2^w) n (x%2^s));have i0:∀(st:SO) (a b c:PV),idxV st (.tp AC [a,b,c]) (.int 0)=AA a:=λ_ _ _ _=>rfl;have i1:∀(st:SO) (a b c:PV),idxV st (.tp AC [a,b,c]) (.int 1)=AA b:=λ_ _ _ _=>rfl;have hT:T zbD=AA zam:=rfl;rw[show (24:Nat)=23+1 from rfl,zc hT rfl rfl rfl];generalize PV.tp AC ((ye (2^w) n (x/2^s)).map .int)=A at *;generalize PV.tp AC ((ye (2^w) n (x%2^s)).map .int)=B at *;generalize (2:Int)^s=d at *;simp! [zam,e0,e1,e2,e3,i0,i1,q1,q2];rfl
theorem nums(V:Int):yc T 24 zaQ [.tp AC ((ye (2^w) n V).map .int),.int w,.int n] st=.ok (.bl AB) st/\(0<=V->V<2^(w*n)->yc T 24 zev [.tp AC ((ye (2^w) n V).map .int),.int w] st=.ok (.int V) st/\yc T 24 zb3 [.tp AC ((ye (2^w) n V).map .int),.int w] st=.ok (.int (bi (decide (2^(w*n)<=2*V)))) st):=by
 have hW:(0:Int)<2^w:=A4 (by lia);have hp:(2:Int)^(w*n)=(2^w:Int)^n:=CB;refine⟨number 21 _ hw2 (ze7 hW _ _) (zS _ _ _) (by lia) st,λa b=>⟨?_,?_⟩⟩
 .have f:yc T 24 zev [.tp AC ((ye (2^w) n V).map .int),.int w] st=_:=zj2 23 _ w hw2 (ze7 hW _ _) (by rw[zS];lia) st;rw[zgz hW _ _ a (by rw[<-hp];exact b)]at f;exact f
 .obtain⟨m,rfl⟩:∃m,n=m+1:=⟨n-1,by lia⟩;rw[hp]at b ⊢;exact zg3 23 (by lia) a b st
theorem yeH{s:Nat}(hs:s+1<w*n){p0 p1:Option PV}:∃s',exs (yc T 24) [p0,p1,AA (.int n),AA (.int w),AA (.int x),AA (.int s),AD,AD,AD,AD] st tB=.rt (.bl AB) s':=by
 have hK:w*n<=64:=Aj hw2 hn2;have hP0:(0:Int)<2^(w*n):=A4 (by decide);have hs0:(0:Int)<2^s:=A4 (by decide);have h2:2*(2:Int)^s<2^(w*n):=by
  have:(2:Int)^(s+1)<2^(w*n):=by exact_mod_cast F7 (a:=2) (by decide) hs
  rw[Ac]at this;lia
 have hc:(2:Int)^(w*n)=2^s*2^(w*n-s):=by rw[<-Int.pow_add,show s+(w*n-s)=w*n by lia]
 let⟨g1,g2⟩:=zlI x0 x1 hs0 hc h2;have hY:(2:Int)^s=sgd (2^(w*n)) (2^s):=by unfold sgd;rw[if_neg (by lia)]
 have e0:yc T 24 zbh [.int s] st=_:=zgF 23 s (by lia) st;let⟨m1,e1⟩:=yf7 1 hw hw2 hn hn2 x0 x1 st hs0 (by lia) rfl hY rfl;let⟨m2,e2⟩:=znq 1 hw hw2 hn hn2 x0 x1 st (s:=s) (by lia);let⟨m3,e3⟩:=zk8 1 hw hw2 hn hn2 x0 x1 st (s:=s) (by lia);have e1:yc T 24 zI _ st=_:=e1;have e2:yc T 24 zI _ st=_:=e2;have e3:yc T 24 zI _ st=_:=e3;have rng:∀v:Int,0<=v%2^(w*n)/\v%2^(w*n)<2^(w*n):=λv=>⟨Aq _ (by lia),Ai _ hP0⟩;have l0:=Aq x (show (2:Int)^s≠0 by lia);have l1:=Ai x hs0;generalize ybB (sgd (2^(w*n)) x) (2^s)=Q at *;generalize hD:sgd (2^(w*n)) x/2^s%2^(w*n)=D at *;have D1:0<=D/\D<2^(w*n):=by rw[<-hD];exact rng _
 generalize hR:(sgd (2^(w*n)) x-2^s*Q)%2^(w*n)=R at *;have R1:0<=R/\R<2^(w*n):=by rw[<-hR];exact rng _
 generalize hQ:Q%2^(w*n)=V at *;let⟨n1,_⟩:=nums hw hw2 hn hn2 x0 x1 st V;let⟨n2,f2⟩:=nums hw hw2 hn hn2 x0 x1 st R;let⟨n3,f3⟩:=nums hw hw2 hn hn2 x0 x1 st D;let⟨n4,f4⟩:=nums hw hw2 hn hn2 x0 x1 st (x%2^s);let⟨f2,f5⟩:=f2 R1.1 R1.2;have f3:=(f3 D1.1 D1.2).1;have f4:=(f4 l0 (by lia)).1;have f6:=((nums hw hw2 hn hn2 x0 x1 st x).2 x0 x1).2;have wd:yc T 24 zeC [.int x,.int w,.int n] st=.ok (.tp AC ((ye (2^w) n x).map .int)) st:=words 22 x w n hw2 (by lia) st;have i0:∀(st:SO) (a b c:PV),idxV st (.tp AC [a,b,c]) (.int 0)=AA a:=λ_ _ _ _=>rfl;have i1:∀(st:SO) (a b c:PV),idxV st (.tp AC [a,b,c]) (.int 1)=AA b:=λ_ _ _ _=>rfl;have lr:ycd (.ok [.bl AB,.bl AB,.bl AB,.bl AB] st)=.ok (.lst [.bl AB,.bl AB,.bl AB,.bl AB]) st:=rfl;have al:yaA .all st [.lst [.bl AB,.bl AB,.bl AB,.bl AB]]=AA (.bl AB):=rfl;have cn:∀A B C D:PV,(∀v∈[A,B,C,D],yc T 24 zaQ [v,.int w,.int n] st=.ok (.bl AB) st)->yaq (yc T 24) [AD,AA (.int w),AA (.int n)] (.n 0) (.cst (.bl AB)) (.call zaQ (.cons (.var 0) (.cons (.var 1) (.cons (.var 2) .nil)))) [A,B,C,D] st=.ok [.bl AB,.bl AB,.bl AB,.bl AB] st:=λA B C D h=>by
  have o:∀v∈[A,B,C,D],ybd (yc T 24) [AD,AA (.int w),AA (.int n)] (.n 0) (.cst (.bl AB)) (.call zaQ (.cons (.var 0) (.cons (.var 1) (.cons (.var 2) .nil)))) v st=.ok (AA (.bl AB)) st:=λv hv=>by
   have e:=h v hv;simp! [ybd,e]
  rw[zL,o A (by simp),bd_ok,zL,o B (by simp),bd_ok,zL,o C (by simp),bd_ok,zL,o D (by simp),bd_ok,zbk];rfl
 have cn:=cn _ _ _ _ (λv hv=>by
  erw[AO,A8,or_false]at hv;rcases hv with rfl|rfl|rfl|rfl
  .exact n1
  .exact n2
  .exact n3
  .exact n4)
 have hb:tB=(match tB with
  |.cons a (.cons b (.cons c (.cons d _)))=>.cons a (.cons b (.cons c (.cons d tC)))
  |x=>x):=rfl
 have st1:∀{F:Css},tC=F->exs (yc T 24) [p0,p1,AA (.int n),AA (.int w),AA (.int x),AA (.int s),AD,AD,AD,AD] st tB=exs (yc T 24) [p0,p1,AA (.int n),AA (.int w),AA (.int x),AA (.int s),AA (.tp AC [.tp AC ((ye (2^w) n V).map .int),.tp AC ((ye (2^w) n R).map .int),m1]),AA (.tp AC ((ye (2^w) n D).map .int)),AA (.tp AC ((ye (2^w) n (x%2^s)).map .int)),AD] st F:=λ{F} hF=>by
  rw[hb,hF];generalize PV.tp AC ((ye (2^w) n V).map .int)=v1 at *;generalize PV.tp AC ((ye (2^w) n R).map .int)=v2 at *;generalize PV.tp AC ((ye (2^w) n D).map .int)=v3 at *;generalize PV.tp AC ((ye (2^w) n (x%2^s)).map .int)=v4 at *;simp! [tB,tA,ya1,e0,e1,e2,e3,i0,i1,cn,lr,al]
 rw[st1 rfl]
 by_cases hz:x%2^s=0 \/ ¬(2:Int)^(w*n)<=2*x
 .let⟨a,b⟩:=g1 hz;have q1:=zej (ye (2^w) n D);have q2:=zej (ye (2^w) n (x%2^s));refine⟨st,?_⟩;rw[a,b]at *;generalize PV.tp AC ((ye (2^w) n D).map .int)=v3 at *;generalize PV.tp AC ((ye (2^w) n (x%2^s)).map .int)=v4 at *;generalize PV.tp AC ((ye (2^w) n x).map .int)=v5 at *
  by_cases hx:(2:Int)^(w*n)<=2*x
  .have hz:x%2^s=0:=hz.resolve_right (λh=>h hx);rw[decide_eq_true hx,show bi AB=1 from rfl]at f6;rw[hz]at f4;simp! [tC,tB,tA,ya1,wd,f6,f4,i0,i1,q1,q2,Fu]
  .rw[decide_eq_false hx,show bi AC=0 from rfl]at f6;simp! [tC,tB,tA,ya1,wd,f6,i0,i1,q1,q2,Fu]
 .have hz1:x%2^s≠0:=λh=>hz (.inl h);have hx:(2:Int)^(w*n)<=2*x:=Decidable.byContradiction λh=>hz (.inr h);let⟨a,b,c⟩:=g2 hz1 hx;let⟨m4,e4⟩:=zpJ 1 hw hw2 hn hn2 D1.1 D1.2 st (y:=1) (by lia) (by lia);have e4:yc T 24 zI _ st=_:=e4;rw[<-a]at e4;have q1:=zej (ye (2^w) n V);rw[decide_eq_true hx,show bi AB=1 from rfl]at f6;rw[decide_eq_true b,show bi AB=1 from rfl]at f5;have b1:(x%2^s==0)=false:=beq_eq_false_iff_ne.2 hz1;have b2:(R==0)=false:=beq_eq_false_iff_ne.2 c;refine⟨st,?_⟩;generalize PV.tp AC ((ye (2^w) n V).map .int)=v1 at *;generalize PV.tp AC ((ye (2^w) n R).map .int)=v2 at *;generalize PV.tp AC ((ye (2^w) n D).map .int)=v3 at *;generalize PV.tp AC ((ye (2^w) n (x%2^s)).map .int)=v4 at *;generalize PV.tp AC ((ye (2^w) n x).map .int)=v5 at *;simp! [tC,tB,tA,ya1,wd,f6,f4,b1,b2,f3,e4,f5,f2,i0,i1,q1,Fu]
end
theorem zgN(l:List Int):nLs [PV.scr (l.map .int)]=true:=by simp[nLs,nL,noLocs_ints]
theorem zkm(ns:List Int)(hns:ns.length<=63):yc T 25 zky [.scr (ns.map .int)] []=.ok (.bl AB) []:=by
 let⟨o,e1,ho⟩:=fresh 23 ns hns [];have h0:Drw ns 0 [o]:=⟨0,0,AC,by lia,by rw[ho];rfl⟩;have hl:ns.length<=1000:=by lia
 let⟨d,s1,d0,d1,o1,e2⟩:=ya5 21 hl (m:=4) (by lia) (by lia) h0;have h1:=o1.drw h0;let⟨n,hn⟩:=zct (show 0<=1+d by lia);have hn1:1<=n:=by lia
 have hn2:n<=4:=by lia
 have hq:=zim (i:=32) (j:=(n:Int)) (by lia) (by lia);obtain⟨q,hqq⟩:∃q:Int,(32:Int)/n=q:=⟨_,rfl⟩;have hq1:n=1/\q=32 \/ n=2/\q=16 \/ n=3/\q=10 \/ n=4/\q=8:=by
  rcases (by lia:n=1 \/ n=2 \/ n=3 \/ n=4)with z|z|z|z<;>subst z<;>simp at hqq<;>lia
 rw[hqq]at hq;have hm:=min1 (a:=13) (b:=q-3) s1;obtain⟨m,hmm⟩:∃m:Int,(if q-3<13 then q-3 else 13)=m:=⟨_,rfl⟩;rw[hmm]at hm;have hm1:0<m/\m<=13:=by split at hmm<;>lia
 let⟨t,s2,t0,t1,o2,e3⟩:=ya5 21 hl (m:=m) (by lia) (by lia) h1;have h2:=o2.drw h1;let⟨w,hw⟩:=zct (show 0<=4+t by lia);have hw1:4<=w:=by lia
 have hw2:w<=16:=by lia
 let⟨x,s3,x0,x1,o3,e4⟩:=worth 20 hl w n hw1 hw2 hn1 hn2 h2;have h3:=o3.drw h2;have hK:w*n<=64:=Aj hw2 hn2;have hK4:4*1<=w*n:=Aj hw1 hn1;have hwm:yG .mul (.int (w:Int)) (.int (n:Int))=AA (.int ((w*n:Nat):Int)):=by rw[za9 (by lia)];simp
 let⟨a,s4,a0,a1,o4,e5⟩:=ya5 21 hl (m:=((w*n:Nat):Int)) (by lia) (by lia) h3;have h4:=o4.drw h3;let⟨a,rfl⟩:=zct a0;have e6:=zfK hw1 hw2 hn1 hn2 x0 x1 s4 (s:=a) (by lia);let⟨b,s5,b0,b1,o5,e7⟩:=ya5 21 hl (m:=((w*n:Nat):Int)-1) (by lia) (by lia) h4;let⟨b,rfl⟩:=zct b0;let⟨s6,g1⟩:=yeH hw1 hw2 hn1 hn2 x0 x1 s5 (s:=b) (by lia) (p0:=AA (.scr (ns.map .int))) (p1:=AA (.loc 0));have hT:T zky=AA ⟨1,10,AB,ya1.body⟩:=rfl
 have hb:ya1.body=(match ya1.body with
  |.cons a (.cons b (.cons c (.cons d (.cons e (.cons f _)))))=>.cons a (.cons b (.cons c (.cons d (.cons e (.cons f tB)))))
  |x=>x):=rfl
 rw[zc hT rfl rfl (zgN ns)];dsimp only;rw[hb];have e1:yc T 24 zey [.scr (ns.map .int)] []=.ok (.loc 0) [o]:=e1;have E2:yc T 24 zbR [.loc 0,.int 4] [o]=_:=e2;have E3:yc T 24 zbR [.loc 0,.int m] s1=_:=e3;have E4:yc T 24 zeM [.loc 0,.int w,.int n] s2=_:=e4;have E5:yc T 24 zbR [.loc 0,.int ((w*n:Nat):Int)] s3=_:=e5;have E7:yc T 24 zbR [.loc 0,.int (((w*n:Nat):Int)-1)] s4=_:=e7;generalize tB=F at *;simp! [ya1,e1,E2,hn,hq,hm,E3,hw,E4,hwm,E5,e6,E7,g1,zoI]
end WK
namespace WK
open PySem L2 IC
theorem walk{l:FA}{q:Aa}{loose:List AS}{XP:(AS->Option AG)->BI->Prop}{YP:Ao->BI->Prop}{d:DefRec}{K:Params->AE}(hn:l.most=AA 63)(hdf:d.params.defaults=[])
  (hY:∀(w:Ao) (h:BI),YP w h->(K w.params).In h)
  (F:∀(w:Ao) (mg:AS->Option AG) (fa:AI) (h:BI),(K w.params).In h->h.Ns mainGlobals mg->mg d.name=AA (.ref fa) ->
   ∃fd:BK,(∀(s:AJ) (u:AG),Fb s fd ⟨[u],[]⟩ [("_law_script",u)])/\∀base:BI,(K w.params).In base->base.Ns mainGlobals mg->yaO l.prog w (K w.params) mg base (CX1 l.prog w) (2*25) fa fd ["_law_script"] (spX (K w.params) (yc T 25) zky)):
  Gm q loose XP YP l.row.toRowW d [] (λf vs=>Gv f vs):=
 L2.walk_of (n:=63) (k:=2*25) (x:="_law_script") (CX:=λw=>CX1 l.prog w) (sp:=λw=>spX (K w.params) (yc T 25) zky) hn (by decide) hdf ⟨rfl,by decide,by decide⟩ hY F (λw H a ns hl _ hS=>zhD zkm hl hS) λ_ _ _ _ _ z=>zn7 z
end WK
end
open PySem PySem.W PyProof.Rows
theorem PySem.Challenge.cw_widewords_k47_whole_quotients_by_twos_holds : PySem.Challenge.rw_widewords_k47_whole_quotients_by_twos.Holds := by
 refine hd0 ?_
 k_fill
 refine WK.walk (l:=PySem.Challenge.rw_widewords_k47_whole_quotients_by_twos) rfl rfl (λw h Y=>PySem.W.kIn_of Y) ?F
 case F =>
  intro w mg fa h KX G hmg
  refine' L2.all_mk2 (t:=WK.tbQ) KX G hmg ?R ?B ?D WK.kb_all ?Ml WK.ok_all WK.T_ok (L:=112) rfl 25
  case R =>
   repeat' (first|exact trivial|apply And.intro|(refine' L2.rowFn ?a9 ?l9 ?c9 ?p9 ?b9;(case a9|l9|c9|p9=>k_is);(case b9=>((repeat intro _);first|rfl|kernel_rfl)))|(refine' L2.rowMe ?z9 ?a9 ?i9 ?l9 ?c9 ?p9 ?b9;(case z9=>((first|rw[WK.cn_20]|rw[WK.cn_21]);k_is));(case a9|i9|l9|c9|p9=>k_is);(case b9=>((repeat intro _);first|rfl|kernel_rfl)))|(refine' L2.rowIni ?z9 ?a9 ?i9 ?l9 ?c9 ?p9 ?b9 ?m9 ?k9;(case z9=>((first|rw[WK.cn_20]|rw[WK.cn_21]);k_is));(case a9|i9|l9|c9|p9=>k_is);(case b9=>((repeat intro _);first|rfl|kernel_rfl));(case m9|k9=>k_is))|(refine' L2.rowFd ?a9 ?l9 ?c9 ?p9 ?d9 ?e9 ?v9;(case a9|l9|c9|p9|d9=>k_is);(case e9=>rfl);(case v9=>(repeat first|exact .nil|refine .cons ⟨_,rfl⟩ ?_))))
  case B=>kernel_rfl
  case D =>
   repeat' (first|exact trivial|apply And.intro|intro _|(refine' L2.gd_mk KX G ?a9 ?l9 ?s9 ?r9 ?n9;(case a9|l9=>k_is);(case s9=>rfl);(case r9=>(repeat first|exact .nil|refine L2.con_row (by kernel_rfl) ?_));(case n9=>decide +kernel)))
  case Ml =>
   repeat' (first|exact trivial|apply And.intro|(refine' L2.gdf_mk KX G ?a9 ?l9 ?r9 ?n9;(case a9|l9=>k_is);(case r9=>(repeat first|exact .nil|refine L2.frow_cons (by kernel_rfl) ?_));(case n9=>decide +kernel)))
