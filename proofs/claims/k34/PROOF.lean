import PyProof.Rows.All
import OpenK.KLine
import Wide.FinOn
import KE.KRevSl
import KE.KItem
import KE.KxWritten
import KE.KFromBytes
import KE.LcSums
import KE.KBits
import KE.KTryMore
import PySem.Challenge.RW_widewords_k34_one_telling_for_every_widt
set_option Elab.async false
set_option linter.all false
set_option maxRecDepth 100000
set_option maxHeartbeats 0
namespace PySem.W.Fast
def tw634912128085473984:=Nat
def tw9569864462518296998:=Nat
def tw1415537556302951468:=Nat
def tw4441403942027882387:=Nat
def tw15888506031043807556:=Nat
def tw10463970591603187280:=Nat
def tw17061274591673928652:=Nat
def tw16347368675445322029:=Nat
def tw7925199212868611226:=Nat
def tw4743622703206890758:=Nat
def tw7618442756694119505:=Nat
def tw7287155303325371975:=Nat
def tw13666744748746451132:=Nat
def tw5068977863074694977:=Nat
def tw8602794280528207429:=Nat
def tw3823336700741641083:=Nat
def tw11052904637730323422:=Nat
def tw15114018677019012404:=Nat
def tw15102686076096383717:=Nat
def tw5334893907327784069:=Nat
def tw2240168833689170455:=Nat
def tw8965119239995778102:=Nat
def tw2445603020374813375:=Nat
def tw6578616437705735639:=Nat
def tw8969228298166091179:=Nat
def tw8306858879272652745:=Nat
def tw11625352843814104370:=Nat
def tw16334517923019052169:=Nat
def tw12146389924602033906:=Nat
def tw6671840634692013360:=Nat
def tw2458910493576664945:=Nat
def tw494342390449617687:=Nat
def tw2604936045706303005:=Nat
def tw17583567635852867532:=Nat
def tw10316976218296715033:=Nat
def tw9737202657212022431:=Nat
def tw8967013638586201274:=Nat
def tw11720747197232559031:=Nat
def tw11666119236983139390:=Nat
def tw12220759551225492717:=Nat
def tw36049751803089432:=Nat
def tw12502355842325164450:=Nat
def tw4453440747824455320:=Nat
def tw4500104203083522813:=Nat
def tw16889897935792994087:=Nat
def tw13575778362772579548:=Nat
def tw1010820033354988069:=Nat
def tw6576930874114821541:=Nat
def tw4069078003171446562:=Nat
def tw11432835142404944978:=Nat
def tw12314993180385819963:=Nat
def tw13090289589560920019:=Nat
def tw16536529492266528920:=Nat
def tw17275748359171661595:=Nat
def tw9233976603363050612:=Nat
def tw13063302518415051750:=Nat
def tw3789399343417337574:=Nat
def tw11262895994331362531:=Nat
def tw11500229078491665010:=Nat
def tw10065633888325628455:=Nat
def tw16212082397506342270:=Nat
def tw5129815590241121771:=Nat
def tw15320955228011458099:=Nat
def tw6077033514162774437:=Nat
def tw221225121100887316:=Nat
def tw11417419658469995487:=Nat
def tw18329761922947201854:=Nat
def tw18262789432762367183:=Nat
def tw3283741011153838079:=Nat
def tw14708037990956594845:=Nat
def tw13094020397220990842:=Nat
def tw4647623404472975188:=Nat
def tw10232422783416199495:=Nat
def tw15847574923925153089:=Nat
def tw2943612378254228485:=Nat
def tw7911913255053483845:=Nat
def tw5428743195386229485:=Nat
def tw3574170833925157663:=Nat
def tw14416925101166091312:=Nat
def tw13770222995053912140:=Nat
def tw7370664843067868313:=Nat
def tw8223902970905629254:=Nat
def tw11664561743152778505:=Nat
def tw1643969396210047613:=Nat
def tw12036759705661792550:=Nat
def tw14394521029104355517:=Nat
def tw16017999662897063149:=Nat
def tw6381541318834389934:=Nat
def tw6154210407968059102:=Nat
def tw7124507291106526476:=Nat
def tw4861631242480292463:=Nat
def tw12961542421124474721:=Nat
def tw310537423534317999:=Nat
def tw6960520123380472680:=Nat
def tw7488257435332872638:=Nat
def tw786981063576094907:=Nat
def tw4862448420623102676:=Nat
def tw7509320478077954657:=Nat
def tw860029184327589190:=Nat
def tw13147433938790233910:=Nat
def tw2083468408830213697:=Nat
def tw6530709743110969625:=Nat
def tw16498307103065250416:=Nat
def tw11211593223137395720:=Nat
def tw4939655657603935566:=Nat
def tw17699319197328470920:=Nat
def tw14156519413552771971:=Nat
def tw6676983193498425015:=Nat
def tw9894871355127767000:=Nat
def tw12309483007818096553:=Nat
def tw18434323867194247958:=Nat
def tw10644539329473106710:=Nat
def tw15080186047786031183:=Nat
def tw2780322153101406660:=Nat
def tw2298446790129687080:=Nat
def tw3851233257441842638:=Nat
def tw18118653582907847645:=Nat
def tw4546943411925764271:=Nat
def tw14051089178699899635:=Nat
def tw8316931812691470534:=Nat
def tw2928875852526226742:=Nat
def tw6082469714712868401:=Nat
def tw14485457151661966044:=Nat
def tw8177940101286258591:=Nat
def tw2478930579098046715:=Nat
def tw2736214271018479459:=Nat
def tw9170075628871775799:=Nat
def tw1538319653517162821:=Nat
def tw12142753935107384424:=Nat
def tw11703946849553116357:=Nat
def tw13180056848097386054:=Nat
def tw7363069124075325471:=Nat
def tw16743167564075992146:=Nat
def tw13838021860174326260:=Nat
def tw5941979096327528258:=Nat
def tw11106007905112251033:=Nat
def tw4043424925015390538:=Nat
def tw14506245989658159522:=Nat
def tw15856195192439957996:=Nat
def tw12096611112107401944:=Nat
def tw13546378439934567682:=Nat
def tw7534624342536476213:=Nat
def tw3255664557173634198:=Nat
def tw16455940288431240534:=Nat
def tw15495673989022920032:=Nat
def tw16488508864703211352:=Nat
def tw2291257543682829636:=Nat
def tw3928013674194937137:=Nat
def tw3086206804084465020:=Nat
def tw17755198532151715436:=Nat
def tw12235533993145805961:=Nat
def tw12537989451670833535:=Nat
def tw583632240858115628:=Nat
def tw17512633849361390672:=Nat
def tw16059958342748478057:=Nat
def tw15266491690268181276:=Nat
def tw5608019933885829422:=Nat
def tw12954027266922453088:=Nat
def tw1125140694956492694:=Nat
def tw5329754288034141938:=Nat
def tw2877540980872744967:=Nat
def tw13945843876453012700:=Nat
def tw11240051749844486918:=Nat
def tw5375191211671061517:=Nat
def tw13361535436033630846:=Nat
def tw4553848547887523515:=Nat
def tw11266111120656360679:=Nat
def tw14932762863710632475:=Nat
def tw14943419613164906470:=Nat
def tw15315119576128733319:=Nat
def tw9251226163108155520:=Nat
def tw2043101222905532461:=Nat
def tw2821555435042377383:=Nat
def tw8279586576335615114:=Nat
def tw12679538771515352550:=Nat
def tw7439706749995610518:=Nat
def tw5025475272143377418:=Nat
def tw2334990471470440145:=Nat
def tw4624154472689265586:=Nat
def tw5934410487977410405:=Nat
def tw13261466790766043780:=Nat
def tw17717006166036202146:=Nat
def tw4974453781297643482:=Nat
def tw15941785227920563837:=Nat
def tw59770029465277872:=Nat
def tw14901993532201352135:=Nat
def tw1882587148114910379:=Nat
def tw12910823041287482034:=Nat
def tw489605043462559807:=Nat
def tw529145347129780841:=Nat
def tw13056036893181561258:=Nat
def tw3619331353280565477:=Nat
def tw2263549272935274371:=Nat
def tw13882687575447164251:=Nat
def tw12633903193244224349:=Nat
def tw14713083839286143728:=Nat
def tw1124226932607626085:=Nat
def tw11390882471295173833:=Nat
def tw9002683001515729680:=Nat
def tw7554451084093343856:=Nat
def tw1484122642867813568:=Nat
def tw13635835226802015787:=Nat
def tw8390365169070013089:=Nat
def tw2125648151409725831:=Nat
def tw13802927461978186866:=Nat
def tw2911179896940634865:=Nat
def tw354697346552669619:=Nat
def tw17053281323326740192:=Nat
def tw1623064365135357269:=Nat
def tw15636980215216688189:=Nat
def tw15965844667181895031:=Nat
def tw13434413479288391654:=Nat
def tw7841304501039411355:=Nat
def tw11648561592996509571:=Nat
def tw12490965877515391478:=Nat
def tw14720305843067810803:=Nat
def tw12508822423380257272:=Nat
def tw1358187613571373667:=Nat
def tw17512752333296234371:=Nat
def tw732079959950495448:=Nat
def tw8935631555078081181:=Nat
def tw13762491604058318343:=Nat
def tw9028923894697092497:=Nat
def tw4256623550532429169:=Nat
def tw13479318323542214109:=Nat
def tw12647919235322722497:=Nat
def tw7767391489275030088:=Nat
def tw11647126455462417451:=Nat
def tw7950780826343601618:=Nat
def tw15898594493588245987:=Nat
def tw7080216979365953681:=Nat
def tw16829397961561072166:=Nat
def tw6480917408609482976:=Nat
def tw16380414380646598777:=Nat
def tw11920673560134645242:=Nat
def tw5335184177777555415:=Nat
def tw18135851562423759829:=Nat
def tw4205396144511890756:=Nat
def tw3283450278778863646:=Nat
def tw13526074003162589632:=Nat
def tw9463562133230145625:=Nat
def tw9511261954397832277:=Nat
def tw7725318095732951176:=Nat
def tw183998330209024562:=Nat
def tw646160865656829036:=Nat
def tw14741787657295955608:=Nat
def tw8824343456703725745:=Nat
def tw11065873042256493280:=Nat
def tw5103780934277448560:=Nat
def tw1030015935560912264:=Nat
def tw8233058890657895294:=Nat
def tw11077991197046630249:=Nat
def tw15320078218264921248:=Nat
def tw63298032779032903:=Nat
def tw15790893318960960158:=Nat
def tw12565286633761501368:=Nat
def tw13810911097772949308:=Nat
def tw15865076453242790439:=Nat
def tw14440634473794107928:=Nat
def tw10314417410178868615:=Nat
def tw4337484924856078697:=Nat
def tw8258935249689543199:=Nat
def tw3244987480310888464:=Nat
def tw2772816236992877233:=Nat
def tw3431317181167031760:=Nat
def tw3825706028813817301:=Nat
def tw1581182704805082715:=Nat
def tw16494174562492496470:=Nat
def tw12611135040708952054:=Nat
def tw16421671075701742363:=Nat
def tw5277849765277415984:=Nat
def tw13903591382898872486:=Nat
def tw243725093345728272:=Nat
def tw4240786097456493432:=Nat
def tw1691687061135015418:=Nat
def tw4059460171514157432:=Nat
def tw4671336883156135510:=Nat
def tw16736198716411492630:=Nat
def tw6254166863204599963:=Nat
def tw2098224128134627977:=Nat
def tw17637438379036732865:=Nat
def tw15552827759987178151:=Nat
def tw7684332388219822010:=Nat
def tw2323043399175784243:=Nat
def tw17151037125806839856:=Nat
def tw1451614263686850137:=Nat
def tw7396307554121194775:=Nat
def tw6290287242237099129:=Nat
def tw12472616420684884012:=Nat
def tw13618678875977691274:=Nat
def tw5536787799423034994:=Nat
def tw15951587353055099671:=Nat
def tw17619914034503822203:=Nat
def tw14098877361268914017:=Nat
def tw9012717294462107005:=Nat
def tw12539179351802836353:=Nat
def tw4386726590036479136:=Nat
def tw11103917330301078240:=Nat
def tw5246045564022409481:=Nat
def tw16065998035683307131:=Nat
def tw9053038232988628748:=Nat
def tw5858404109133392029:=Nat
def tw17906754423351918072:=Nat
def tw14174737360723864765:=Nat
def tw100979207537015626:=Nat
def tw12660942687875593266:=Nat
def tw4527564401539096656:=Nat
def tw13097531306732772680:=Nat
def tw7729739692920381179:=Nat
def tw11037278732411070301:=Nat
def tw6329480474673424882:=Nat
def tw9819654968618079206:=Nat
def tw2870207336671384484:=Nat
def tw9475557757745339569:=Nat
def tw6611835043472482458:=Nat
def tw17702494806381496101:=Nat
def tw5029238129130386170:=Nat
def tw10978763838096158756:=Nat
def tw3426249590852084426:=Nat
def tw6271873781601991347:=Nat
def tw11008936709319310209:=Nat
def tw12415066917588094680:=Nat
def tw16121270549223585860:=Nat
def tw12989312514794467947:=Nat
def tw18205422105777002901:=Nat
def tw12273168803376779395:=Nat
def tw16680480526136574221:=Nat
def tw12630618276668691674:=Nat
def tw10130756965957725694:=Nat
def tw8732047652086628022:=Nat
def tw15682508066019177742:=Nat
def tw7042746841224229961:=Nat
def tw16876388244291471449:=Nat
def tw2255070818350208855:=Nat
def tw8180642319687630915:=Nat
def tw14357250423043677201:=Nat
def tw10444615919662813482:=Nat
def tw385588252309758921:=Nat
def tw17219697560104491081:=Nat
def tw8307916423425211047:=Nat
def tw11021169983654749051:=Nat
def tw14461211489705317773:=Nat
def tw8842242086546733728:=Nat
def tw3254977008584752697:=Nat
def tw9612758840393480750:=Nat
def tw3020956616354173313:=Nat
def tw3631451686399925751:=Nat
def tw4403267986337130703:=Nat
def tw7983620794534622403:=Nat
def tw16623284786897180808:=Nat
def tw12422506848607574023:=Nat
def tw15937535865716121717:=Nat
def tw15437428305134627832:=Nat
def tw16672609633500047632:=Nat
def tw5478486193308792111:=Nat
def tw13095959674498604470:=Nat
def tw10108853252993323929:=Nat
def tw14267554026638641798:=Nat
def tw882960669265878283:=Nat
def tw8672914048668115108:=Nat
def tw17359420414787606510:=Nat
def tw815133324936235088:=Nat
def tw18289850141423370613:=Nat
def tw12840043810495398415:=Nat
def tw4113567222576991741:=Nat
def tw4674114421177698212:=Nat
def tw1086886108063668748:=Nat
def tw13428560407027191587:=Nat
def tw2988182638465765243:=Nat
def tw12677698550563766947:=Nat
def tw4252169977663045275:=Nat
def tw15542368947824259742:=Nat
def tw9198302849802859919:=Nat
def tw14360038955052803350:=Nat
def tw5550559050673118243:=Nat
def tw6353254623150603234:=Nat
def tw9632768900659266674:=Nat
def tw15431962757373584093:=Nat
def tw17195531862341392116:=Nat
def tw13595538524115326196:=Nat
def tw5882878014510602961:=Nat
def tw14830724147674655844:=Nat
def tw3040940663985110811:=Nat
def tw10421081027980098981:=Nat
def tw2431308672514927049:=Nat
def tw3637240009561124700:=Nat
def tw4120145985626383783:=Nat
def tw11441922314783714853:=Nat
def tw13390131902254932412:=Nat
def tw7642813114723554772:=Nat
def tw9102054269561714417:=Nat
def tw2190832414121937539:=Nat
def tw17105130941290226091:=Nat
def tw8123009524439874510:=Nat
def tw3727183780421138074:=Nat
def tw16306081051261464731:=Nat
def tw15917118341248380725:=Nat
def tw13562714135736250411:=Nat
def tw4687583228250210581:=Nat
def tw9043213925311284348:=Nat
def tw14542963984834834755:=Nat
def tw11979894598924081327:=Nat
def tw14694104608775138880:=Nat
def tw3206396527524198761:=Nat
def tw7825121665987498325:=Nat
def tw5286722679903434001:=Nat
def tw13706504629273073746:=Nat
def tw17087085759439457178:=Nat
def tw15176818743843390414:=Nat
def tw13726500342868012230:=Nat
def tw5759407715061352133:=Nat
def tw9583710279929945100:=Nat
def tw12290626519824884336:=Nat
def tw9976696007453682198:=Nat
def tw15288882583462928092:=Nat
def tw9313595285701053689:=Nat
def tw6937166414653151144:=Nat
def tw3775991449346132612:=Nat
def tw14280118911513131097:=Nat
def tw12787416064084790946:=Nat
def tw16383836800099865735:=Nat
def tw9588654323068828985:=Nat
def tw10643894813444788447:=Nat
def tw13125699825347799964:=Nat
def tw16299274041196205348:=Nat
def tw3659202726145647038:=Nat
def tw223020342826236049:=Nat
def tw16873848131145243557:=Nat
def tw2263009754861099705:=Nat
def tw17110719038900629267:=Nat
def tw9171257173080200195:=Nat
def tw6613896506016427950:=Nat
def tw2596370662799040632:=Nat
def tw429050148506950294:=Nat
def tw10040951426872325416:=Nat
def tw15051894152318310387:=Nat
def tw17873430925624320848:=Nat
def tw7731469123794708647:=Nat
def tw12491400504398673448:=Nat
def tw4996001843071013594:=Nat
def tw16220481991712530127:=Nat
def tw10503728366213045885:=Nat
def tw17332715489118503753:=Nat
def tw14626877548011625479:=Nat
def tw14522244721519739202:=Nat
def tw13250038802303427271:=Nat
def tw9432384859813769916:=Nat
def tw1266495954447298505:=Nat
def tw12661283497061715982:=Nat
def tw11439460388350579562:=Nat
def tw1707193124094702881:=Nat
def tw3184456312969305896:=Nat
def tw5373727898828075943:=Nat
def tw6422644114368018850:=Nat
def tw8665515377338864777:=Nat
def tw5737496762297978276:=Nat
def tw10943175620116466587:=Nat
def tw15364807989981055286:=Nat
def tw14520356037116577526:=Nat
def tw13315402402708665707:=Nat
def tw7014984099407345754:=Nat
def tw3834347833418582082:=Nat
def tw11375644557308714179:=Nat
def tw9464755943480301143:=Nat
def tw8191166110686656465:=Nat
def tw13803012241071880223:=Nat
def tw17170330616228857385:=Nat
def tw12756293432383376812:=Nat
def tw3820725870930663851:=Nat
def tw11278540809887641054:=Nat
def tw9884066552078269436:=Nat
def tw13356742157548325885:=Nat
def tw6166844145989113893:=Nat
def tw6661505059133371089:=Nat
def tw15174976979364239973:=Nat
def tw3348758455366040646:=Nat
def tw13249728642936847619:=Nat
def tw11714466601099926836:=Nat
def tw15534880838116193308:=Nat
def tw18146259695880446831:=Nat
def tw16780934678485911760:=Nat
def tw6821380412433359781:=Nat
def tw16332948831974297753:=Nat
def tw17280267984204648295:=Nat
def tw11596049847656910668:=Nat
def tw13904477665850904446:=Nat
def tw8038124227072182863:=Nat
def tw8890824421625207450:=Nat
def tw9684613880169552369:=Nat
def tw17531355168374878482:=Nat
def tw7082428759460152091:=Nat
def tw4082230919817997599:=Nat
def tw2594476988185034897:=Nat
def tw7372418160837969028:=Nat
def tw18047528565089203365:=Nat
def tw7259778875397295425:=Nat
def tw10910245513254562438:=Nat
def tw6721354491018588445:=Nat
def tw13217672572725832615:=Nat
def tw16544182419410430238:=Nat
def tw7579822474644047792:=Nat
def tw785913145052555121:=Nat
def tw10442384354588392477:=Nat
def tw12118801794861043919:=Nat
def tw8281025707836109601:=Nat
def tw11782776748754089095:=Nat
def tw7731925817298852060:=Nat
def tw6782027523742734422:=Nat
end PySem.W.Fast
open_top hd0 for PySem.Challenge.rw_widewords_k34_one_telling_for_every_widt
set_option compiler.extract_closed false
set_option bootstrap.genMatcherCode false
set_option genSizeOf false
local macro_rules | `(tactic| ac_rfl)=>`(tactic| with_unfolding_all rfl)
noncomputable section
namespace L2
open PySem PySem.Spec PyProof.Rows
abbrev Key:=Sum Int Str
def ybB:Key->Value->Bool
 | .inl k,v=>Value.isInt k v
 | .inr x,v=>Value.isStrOf x v
def yfV (w:World):Key->Int
 | .inl k=>hashInt k
 | .inr x=>hashStr w x
theorem zr:∀{k:Key} {v:Value},ybB k v=true->(∃i t,k=Sum.inl i/\v=Value.int i t) \/ (∃x t,k=Sum.inr x/\v=Value.str x t)
 | .inl i,v,h=>by
  obtain⟨t,e⟩:=Value.isInt_shape (k:=i) (v:=v) h
  exact .inl ⟨i,t,rfl,e⟩
 | .inr x,v,h=>by
  obtain⟨t,e⟩:=Value.isStrOf_shape (x:=x) (v:=v) h
  exact .inr ⟨x,t,rfl,e⟩
theorem zgW (i:Int)(t:Tok):ybB (.inl i) (.int i t)=true:=by simp[ybB,Value.isInt]
theorem zgZ (x:Str)(t:Tok):ybB (.inr x) (.str x t)=true:=by simp[ybB,Value.isStrOf]
theorem zmd (a b:Int):decide ((Sum.inl a:Key)=Sum.inl b)=(a == b):=by
 by_cases e:a=b
 ·subst e;simp
 ·have h:¬(Sum.inl a:Key)=Sum.inl b:=λq=>e (Sum.inl.inj q)
  rw[decide_eq_false h]
  exact(beq_eq_false_iff_ne.mpr e).symm
theorem zmH (a b:Str):decide ((Sum.inr a:Key)=Sum.inr b)=decide (a=b):=by
 by_cases e:a=b
 ·subst e;simp
 ·have h:¬(Sum.inr a:Key)=Sum.inr b:=λq=>e (Sum.inr.inj q)
  rw[decide_eq_false h,decide_eq_false e]
theorem zm5 (a:Int)(b:Str):decide ((Sum.inl a:Key)=Sum.inr b)=false:=decide_eq_false (λq=>nomatch q)
theorem zmF (a:Str)(b:Int):decide ((Sum.inr a:Key)=Sum.inl b)=false:=decide_eq_false (λq=>nomatch q)
def yF (prog:Program)(w:World):PySem.KeyKind prog w Key where
 is:=ybB
 hash:=yfV w
 inj:=λv a b ha hb=>by
  rcases zr ha with⟨i,t,rfl,rfl⟩|⟨x,t,rfl,rfl⟩
  ·rcases zr hb with⟨j,u,rfl,e⟩|⟨y,u,rfl,e⟩
   ·injection e with e1 _;rw[e1]
   ·exact nomatch e
  ·rcases zr hb with⟨j,u,rfl,e⟩|⟨y,u,rfl,e⟩
   ·exact nomatch e
   ·injection e with e1 _;rw[e1]
 byValue:=λk v h=>by
  rcases zr h with⟨i,t,rfl,rfl⟩|⟨x,t,rfl,rfl⟩ <;> rfl
 pyHash:=λhv h=>by
  rcases zr hv with⟨i,t,rfl,rfl⟩|⟨x,t,rfl,rfl⟩
  ·exact wpAny_pyHash_int h
  ·exact wpAny_pyHash_str h
 eqBool:=λhu hv h=>by
  rcases zr hu with⟨i,t,rfl,rfl⟩|⟨x,t,rfl,rfl⟩
  ·rcases zr hv with⟨j,u,rfl,rfl⟩|⟨y,u,rfl,rfl⟩
   ·rw[zmd]at h;exact wpAny_eqBool_int h
   ·rw[zm5]at h;exact SeqAt.EqAt.int_str i t y u _ _ _ _ h
  ·rcases zr hv with⟨j,u,rfl,rfl⟩|⟨y,u,rfl,rfl⟩
   ·rw[zmF]at h;exact SeqAt.EqAt.str_int x t j u _ _ _ _ h
   ·rw[zmH]at h;exact wpAny_eqBool_str h
 «strs»:=λk x t v h=>by
  rcases zr h with⟨i,u,rfl,e⟩|⟨y,u,rfl,e⟩
  ·exact nomatch e
  ·injection e with e1 _
   subst e1
   cases v <;> rfl
theorem zeY (prog:Program)(w:World)(i:Int)(t:Tok):(yF prog w).is (.inl i) (.int i t)=true:=zgW i t
theorem ze3 (prog:Program)(w:World)(x:Str)(t:Tok):(yF prog w).is (.inr x) (.str x t)=true:=zgZ x t
inductive V where
 | non|bl (b:Bool)|int (i:Int)|str (x:Str)|byt (b:Array UInt8)|flt (b:UInt64)|ref (a:Addr)|ty (n:String)
 deriving DecidableEq
def RelV:V->Value->Prop
 | .non,u=>u=Value.none
 | .bl b,u=>u=Value.bool b
 | .int i,u=>∃t,u=Value.int i t
 | .str x,u=>∃t,u=Value.str x t
 | .byt b,u=>∃t,u=Value.bytes b t
 | .flt b,u=>∃t,u=Value.float b t
 | .ref a,u=>u=Value.ref a
 | .ty n,u=>u=Value.type n
abbrev Vals:List V->List Value->Prop:=Paired RelV
theorem Vals.length {xs:List V}{us:List Value}(r:Vals xs us):xs.length=us.length:=Paired.length r
theorem Vals.get:∀{xs:List V} {us:List Value} {i:Nat} {x:V},Vals xs us->xs[i]?=some x->∃u,us[i]?=some u/\RelV x u
 |_,_,_,_,.nil,e=>by simp at e
 |_,_,0,_,.cons r _,e=>by simp at e;subst e;exact⟨_,rfl,r⟩
 |_,_,i+1,x,.cons _ t,e=>by
  obtain⟨u,h1,h2⟩:=Vals.get (i:=i) (x:=x) t (by simpa using e)
  exact⟨u,by simpa using h1,h2⟩
theorem Vals.set {x:V}{u:Value}(r:RelV x u):∀{xs:List V} {us:List Value} (i:Nat),Vals xs us->Vals (xs.set i x) (us.set i u)
 |_,_,_,.nil=>.nil
 |_,_,0,.cons _ t=>.cons r t
 |_,_,i+1,.cons q t=>.cons q (Vals.set r i t)
theorem Vals.append:∀{xs ys:List V} {us ws:List Value},Vals xs us->Vals ys ws->Vals (xs++ys) (us++ws)
 |_,_,_,_,.nil,s=>s
 |_,_,_,_,.cons r t,s=>.cons r (Vals.append t s)
theorem Vals.take:∀{xs:List V} {us:List Value} (n:Nat),Vals xs us->Vals (xs.take n) (us.take n)
 |_,_,0,_=>.nil
 |_,_,_+1,.nil=>.nil
 |_,_,n+1,.cons r t=>.cons r (Vals.take n t)
theorem Vals.drop:∀{xs:List V} {us:List Value} (n:Nat),Vals xs us->Vals (xs.drop n) (us.drop n)
 |_,_,0,r=>r
 |_,_,_+1,.nil=>.nil
 |_,_,n+1,.cons _ t=>Vals.drop n t
theorem Vals.none_of:∀{xs:List V} {us:List Value} {i:Nat},Vals xs us->xs[i]?=none->us[i]?=none:=λ{xs us i} r e=>by
 have h1:=r.length
 have h2:xs.length<=i:=List.getElem?_eq_none_iff.mp e
 exact List.getElem?_eq_none_iff.mpr (by omega)
def ya7:Option V->Option Value->Prop
 |some v,some u=>RelV v u
 |none,none=>True
 |_,_=>False
def KV {κ:Type}:List (κ×V)->List (κ×Value)->Prop:=Paired λ(p:κ×V) (q:κ×Value)=>p.1=q.1/\RelV p.2 q.2
def kV:Key->V
 | .inl i=>.int i
 | .inr x=>.str x
inductive HO where
 | lst (xs:List V)
 | tup (xs:List V)
 | dK (kvs:List (Key×V))|dT (kvs:List (List Key×V))
 | set (S:Int->Bool) (n:Nat)
 | ins (C dx:Addr) (fs:List (Str×V))
 | own (x:Addr)
 | xd (fs:List (Str×V))
 | met (f x:Addr)
 | rng (lo hi:Int)
 | frz (o:Obj) (u:HO)
 | tbl (ps:Array Value)
 | ext (φ:Heap->Prop)
abbrev Hp:=Addr->Option HO
def upd (H:Hp)(a:Addr)(o:HO):Hp:=λb=>if b=a then some o else H b
theorem zj {H:Hp}{a:Addr}{o:HO}:upd H a o a=some o:=by unfold upd;rw[if_pos rfl]
theorem zd {H:Hp}{a b:Addr}{o:HO}(h:b≠a):upd H a o b=H b:=by unfold upd;rw[if_neg h]
theorem zkQ {H:Hp}{a:Addr}{o u:HO}:upd (upd H a o) a u=upd H a u:=by
 funext b;unfold upd;split <;> rfl
theorem zoN {H:Hp}{a b:Addr}{o u:HO}(h:H a=some o)(h':H b=some u)(d:o≠u):a≠b:=by
 intro e;subst e;rw[h]at h';exact d (Option.some.inj h')
theorem zh {H:Hp}{a b:Addr}{o:HO}(h:H a=some o)(h':H b=none):a≠b:=by
 intro e;subst e;rw[h]at h';cases h'
section
variable (P:Program)(w:World)
def yN (H:Hp)(h:Heap)(a:Addr):HO->Prop
 | .lst xs=>xs.length<=sizeLine/\∃(its:List Value) (n:Nat),Vals xs its/\h.get? a=some { cls:=.type "list",data:=.seq its.toArray n }
 | .tup xs=>xs.length<=sizeLine/\∃its:List Value,Vals xs its/\IsTup h a its.toArray
 | .dK kvs=>kvs.length<=sizeLine/\(a == sysModules)=false/\∃vs,KV kvs vs/\h.DictOf (yF P w) a vs
 | .dT kvs=>kvs.length<=sizeLine/\(a == sysModules)=false/\∃xs:List (List Key×Addr×Value),
   Paired (λ(p:List Key×V) (q:List Key×Addr×Value)=>p.1=q.1/\H q.2.1=some (.tup (p.1.map kV))/\RelV p.2 q.2.2) kvs xs /\
   ∃o es ep,h.get? a=some o/\o.ExactDict/\o.data=.dict es ep/\es.toList=xs.map (entryOfKey (tupleKind (yF P w)))/\(xs.map (·.1)).Nodup
 | .set S n=>h.SetOf (intKind P w) a S n
 | .ins C dx fs=>H dx=some (.own a)/\fs.length<=1000/\dx≠a/\h.get? a=some (PySem.W.instObj C dx) /\
   ∃mA,h.Ns1 dx mA/\(∀f,ya7 (fs.lookup f) (mA f))/\PySem.Within mA (fs.map (·.1))
 | .own _=>∃o,h.get? a=some o
 | .xd fs=>∃mA,h.Ns1 a mA/\∀f,ya7 (fs.lookup f) (mA f)
 | .rng lo hi=>∃t u v,h.get? a=some { cls:=.type "range",data:=.fields #[.int lo t,.int hi u,.int 1 v] }
 | .frz o u=>h.get? a=some o/\yN H h a u
 | .tbl ps=>h.get? a=some { cls:=.none,data:=.fields ps }
 | .met f x=>h.get? a=some (PySem.W.methodObj (.ref f) (.ref x))
 | .ext φ=>φ h/\(∃o,h.get? a=some o)/\∀h1 h2:Heap,φ h1->(∀o,h1.get? a=some o->h2.get? a=some o)->φ h2
def HOk (H:Hp)(h:Heap):Prop:=∀a o,H a=some o->yN P w H h a o
end
section
variable {P:Program}{w:World}{H H':Hp}{h h':Heap}{a:Addr}{o:HO}
theorem yN.lt (x:yN P w H h a o):a<h.objs.size:=by
 cases o with
 |lst xs=>obtain⟨_,_,_,_,e⟩:=x;exact Heap.lt_size e
 |tup xs=>obtain⟨_,_,_,p⟩:=x;exact p.lt
 |dK kvs=>obtain⟨_,_,_,_,o,_,_,e,_⟩:=x;exact Heap.lt_size e
 |dT kvs=>obtain⟨_,_,_,_,o,_,_,e,_⟩:=x;exact Heap.lt_size e
 |set S n=>obtain⟨o,_,_,_,e,_⟩:=x;exact Heap.lt_size e
 |ins C dx fs=>obtain⟨_,_,_,e,_⟩:=x;exact Heap.lt_size e
 |own y=>obtain⟨_,e⟩:=x;exact Heap.lt_size e
 |xd fs=>obtain⟨_,⟨_,_,_,e,_⟩,_⟩:=x;exact Heap.lt_size e
 |rng lo hi=>obtain⟨_,_,_,e⟩:=x;exact Heap.lt_size e
 |frz ob u=>obtain⟨e,_⟩:=x;exact Heap.lt_size e
 |tbl ps=>exact Heap.lt_size (show h.get? a=some _ from x)
 |met f y=>exact Heap.lt_size (show h.get? a=some _ from x)
 |ext φ=>obtain⟨_,⟨_,e⟩,_⟩:=x;exact Heap.lt_size e
theorem Paired.mapP {α β:Type}{F G:α->β->Prop}:∀{l₁:List α} {l₂:List β},Paired F l₁ l₂->(∀a b,F a b->G a b)->Paired G l₁ l₂
 |_,_,.nil,_=>.nil
 |_,_,.cons r t,f=>.cons (f _ _ r) (Paired.mapP t f)
theorem yN.stay (x:yN P w H h a o)(k:∀b u,(b=a \/ H b=some (.own a))->h.get? b=some u->h'.get? b=some u)
  (ho:∀b,H b=some (.own a)->H' b=some (.own a)) (ht:∀b xs,H b=some (.tup xs)->H' b=some (.tup xs)):yN P w H' h' a o:=by
 induction o with
 |lst xs=>obtain⟨z,its,n,r,e⟩:=x;exact⟨z,its,n,r,k _ _ (.inl rfl) e⟩
 |tup xs=>obtain⟨z,its,r,ob,e,c⟩:=x;exact⟨z,its,r,ob,k _ _ (.inl rfl) e,c⟩
 |dK kvs=>obtain⟨z,y,vs,r,ob,es,ep,e,c⟩:=x;exact⟨z,y,vs,r,ob,es,ep,k _ _ (.inl rfl) e,c⟩
 |dT kvs =>
  obtain⟨z,y,xs,r,ob,es,ep,e,c⟩:=x
  exact⟨z,y,xs,Paired.mapP r λp q z=>⟨z.1,ht _ _ z.2.1,z.2.2⟩,ob,es,ep,k _ _ (.inl rfl) e,c⟩
 |set S n=>obtain⟨ob,es,ep,t,e,c⟩:=x;exact⟨ob,es,ep,t,k _ _ (.inl rfl) e,c⟩
 |ins C dx fs =>
  obtain⟨d,z,ne,e,mA,⟨od,es,ep,e2,c⟩,r⟩:=x
  exact⟨ho _ d,z,ne,k _ _ (.inl rfl) e,mA,⟨od,es,ep,k _ _ (.inr d) e2,c⟩,r⟩
 |own y=>obtain⟨ob,e⟩:=x;exact⟨ob,k _ _ (.inl rfl) e⟩
 |xd fs=>obtain⟨mA,⟨od,es,ep,e,c⟩,r⟩:=x;exact⟨mA,⟨od,es,ep,k _ _ (.inl rfl) e,c⟩,r⟩
 |rng lo hi=>obtain⟨t,u,v,e⟩:=x;exact⟨t,u,v,k _ _ (.inl rfl) e⟩
 |frz ob u ih=>obtain⟨e,q⟩:=x;exact⟨k _ _ (.inl rfl) e,ih q⟩
 |tbl ps =>
  have e:h.get? a=some { cls:=.none,data:=.fields ps }:=x
  show h'.get? a=some { cls:=.none,data:=.fields ps }
  exact k a _ (.inl rfl) e
 |met f y =>
  have e:h.get? a=some (PySem.W.methodObj (.ref f) (.ref y)):=x
  show h'.get? a=some (PySem.W.methodObj (.ref f) (.ref y))
  exact k a _ (.inl rfl) e
 |ext φ=>obtain⟨p,⟨o,e⟩,st⟩:=x;exact⟨st _ _ p λo q=>k _ _ (.inl rfl) q,⟨o,k _ _ (.inl rfl) e⟩,st⟩
theorem HOk.lt (x:HOk P w H h)(e:H a=some o):a<h.objs.size:=(x a o e).lt
theorem HOk.fresh (x:HOk P w H h)(e:h.objs.size<=a):H a=none:=by
 cases q:H a with
 |none=>rfl
 |some u=>exact absurd (Nat.lt_of_lt_of_le (x.lt q) e) (Nat.lt_irrefl _)
theorem HOk.kept (x:HOk P w H h)(k:∀b u,h.get? b=some u->h'.get? b=some u):HOk P w H h':=λa o e =>
 (x a o e).stay (λb u _ q=>k b u q) (λ_ q=>q) λ_ _ q=>q
theorem HOk.laid (x:HOk P w H h)(k:∀b u,h.get? b=some u->h'.get? b=some u)(hp:h.objs.size<=a)(new:yN P w (upd H a o) h' a o):HOk P w (upd H a o) h':=λb u e=>by
 have hn:=x.fresh hp
 by_cases hb:b=a
 ·subst hb;rw[zj]at e;cases e;exact new
 ·rw[zd hb]at e
  exact(x b u e).stay (λc v _ q=>k c v q) (λc q=>by rw[zd (zh q hn)];exact q) λc xs q=>by rw[zd (zh q hn)];exact q
end
def Rd (H:Hp)(a:Addr)(u:HO):Prop:=H a=some u \/ ∃o,H a=some (.frz o u)
theorem Rd.of {H:Hp}{a:Addr}{u:HO}(h:H a=some u):Rd H a u:=.inl h
theorem Rd.ok {P:Program}{w:World}{H:Hp}{h:Heap}{a:Addr}{u:HO}(r:Rd H a u)(x:HOk P w H h):yN P w H h a u:=by
 rcases r with r|⟨o,r⟩
 ·exact x a u r
 ·obtain⟨_,q⟩:=x a _ r
  exact q
def Mut:Option HO->Prop
 |some (.lst _)=>True
 |some (.dK _)=>True
 |some (.dT _)=>True
 |some (.set _ _)=>True
 |some (.ins _ _ _)=>True
 |some (.ext _)=>True
 |_=>False
section
variable {P:Program}{w:World}{H:Hp}{h h':Heap}{x e:Addr}{o':HO}
theorem HOk.write (ok:HOk P w H h)(mu:Mut (H x))(he:e=x \/ H e=some (.own x))(k:∀b u,b≠e->h.get? b=some u->h'.get? b=some u)(heo:∃u,h'.get? e=some u)
  (new:yN P w (upd H x o') h' x o'):HOk P w (upd H x o') h':=λb u q=>by
 have nown:∀c y,H c=some (.own y)->c≠x:=λc y r z=>by subst z;rw[r]at mu;exact mu
 have ntup:∀c xs,H c=some (.tup xs)->c≠x:=λc xs r z=>by subst z;rw[r]at mu;exact mu
 by_cases hb:b=x
 ·subst hb;rw[zj]at q;cases q;exact new
 ·rw[zd hb]at q
  by_cases hbe:b=e
  ·have q':H b=some (.own x):=by
    rcases he with z|z
    ·exact absurd (hbe.trans z) hb
    ·rw[hbe];exact z
   rw[q]at q';cases q'
   obtain⟨v,hv⟩:=heo
   exact⟨v,by rw[hbe];exact hv⟩
  ·refine(ok b u q).stay (λc v hc r=>k c v ?_ r) (λc r=>by rw[zd (nown c b r)];exact r) λc xs r=>by rw[zd (ntup c xs r)];exact r
   rcases hc with rfl|hc
   ·exact hbe
   ·rintro rfl
    rcases he with z|z
    ·exact nown c b hc z
    ·rw[hc]at z;cases z;exact hb rfl
end
structure Un (fs ex:List Addr)(H H':Hp)(h h':Heap):Prop where
 keep:∀b o,h.get? b=some o->H b=none->b∉fs->b∉ex->h'.get? b=some o
 slot:∀b o,h.get? b=some o->H b=none->b∈fs->b∉ex->∃sl,h'.get? b=some { o with slots:=sl }
 free:∀b o,h.get? b=some o->H b=none->b∉ex->H' b=none
 there:∀b o,h.get? b=some o->b∉ex->∃o',h'.get? b=some o'
 tups:∀b xs,H b=some (.tup xs)->H' b=some (.tup xs)
 frzs:∀b o u,H b=some (.frz o u)->H' b=some (.frz o u)
 tbls:∀b ps,H b=some (.tbl ps)->∃more,H' b=some (.tbl (ps++more))
section
variable {fs fs' ex ex':List Addr}{H H1 H2:Hp}{h h1 h2 h':Heap}{a x e:Addr}{o:HO}
theorem Un.any (u:Un fs ex H H1 h h1){b:Addr}{ob:Obj}(q:h.get? b=some ob)(n:H b=none)(hx:b∉ex):∃sl,h1.get? b=some { ob with slots:=sl }:=by
 by_cases hb:b∈fs
 ·exact u.slot b ob q n hb hx
 ·exact⟨ob.slots,u.keep b ob q n hb hx⟩
theorem Un.kept (k:∀b u,h.get? b=some u->h'.get? b=some u):Un fs ex H H h h' :=
 ⟨λb ob q _ _ _=>k b ob q,λb ob q _ _ _=>⟨ob.slots,k b ob q⟩,λ_ _ _ n _=>n,λb ob q _=>⟨ob,k b ob q⟩,λ_ _ q=>q,λ_ _ _ q=>q,λ_ ps q=>⟨#[],by rw[q];simp⟩⟩
theorem Un.refl:Un fs ex H H h h:=Un.kept λ_ _ q=>q
theorem Un.laid (k:∀b u,h.get? b=some u->h'.get? b=some u)(hp:h.objs.size<=a)(hn:H a=none):Un fs ex H (upd H a o) h h' where
 keep:=λb u q _ _ _=>k b u q
 slot:=λb u q _ _ _=>⟨u.slots,k b u q⟩
 free:=λb u q n _=>by rw[zd (Nat.ne_of_lt (Nat.lt_of_lt_of_le (Heap.lt_size q) hp))];exact n
 there:=λb u q _=>⟨u,k b u q⟩
 tups:=λb xs q=>by rw[zd (zh q hn)];exact q
 frzs:=λb u xs q=>by rw[zd (zh q hn)];exact q
 tbls:=λb ps q=>⟨#[],by rw[zd (zh q hn),q];simp⟩
theorem Un.write (mu:Mut (H x))(he:e=x \/ H e=some (.own x))(k:∀b u,b≠e->h.get? b=some u->h'.get? b=some u)(heo:∃u,h'.get? e=some u):Un fs ex H (upd H x o) h h':=by
 have hx:∀b,H b=none->b≠x:=λb n z=>by subst z;rw[n]at mu;exact mu
 have hb:∀b,H b=none->b≠e:=λb n z=>by
  subst z
  rcases he with r|r
  ·exact hx b n r
  ·rw[n]at r;cases r
 have hm:∀b u,H b=some u->¬Mut (some u)->b≠x:=λb u q nm z=>by subst z;rw[q]at mu;exact nm mu
 refine⟨λb u q n _ _=>k b u (hb b n) q,λb u q n _ _=>⟨u.slots,k b u (hb b n) q⟩,λb u q n _=>by rw[zd (hx b n)];exact n,λb u q _=>?_,
  λb xs q=>by rw[zd (hm b _ q λz=>z)];exact q,λb u xs q=>by rw[zd (hm b _ q λz=>z)];exact q,λb ps q=>⟨#[],by rw[zd (hm b _ q λz=>z),q];simp⟩⟩
 by_cases hbe:b=e
 ·subst hbe;exact heo
 ·exact⟨u,k b u hbe q⟩
end
def trk (h:Heap)(H:Hp):List Addr:=(List.range h.objs.size).filter λa=>(H a).isSome
def yb0 (h:Heap)(H:Hp):Heap:=PySem.W.hideAll h (trk h H)
theorem zhy (h:Heap)(H:Hp):(yb0 h H).objs.size=h.objs.size:=PySem.W.hideAll_size _ _
theorem zjp {h:Heap}{H:Hp}{b:Addr}{o:Obj}(e:h.get? b=some o)(n:H b=none):(yb0 h H).get? b=some o :=
 PySem.W.hideAll_get _ e λhm=>by
  have q:(H b).isSome=true:=(List.mem_filter.mp hm).2
  rw[n]at q;simp at q
theorem zls {h:Heap}{H:Hp}{b:Addr}{o:Obj}(e:(yb0 h H).get? b=some o):h.get? b=some o/\H b=none:=by
 have e':h.get? b=some o:=PySem.W.of_hideAll (trk h H) e
 refine⟨e',?_⟩
 cases q:H b with
 |none=>rfl
 |some x =>
  have hm:b∈trk h H:=List.mem_filter.mpr ⟨List.mem_range.mpr (Heap.lt_size e'),by simp[q]⟩
  have z:(yb0 h H).get? b=none:=PySem.W.hideAll_none (trk h H) hm
  rw[z]at e;cases e
structure Mod (K:PySem.W.Frag)(mg:Str->Option Value)(base:Heap):Prop where
 kin:K.In base
 glob:base.Ns mainGlobals mg
 blt:∃mb,base.Ns builtinsNs mb/\∀x:Str,x ≠ "__name__"->mb x=bootBuiltins x
 nolimit:base.NoLimit
structure Cx where
 prog:Program
 w:World
 K:PySem.W.Frag
 mg:Str->Option Value
 base:Heap
 A:Around
 N:List Str
 s₀:Shared
 H₀:Hp
 env:Env
 outer:List Env
 stack:List Env
 ex:List Addr
 fn:Str->Bool
 calm:Bool
 pn:List (Addr×Obj)
 xe:Value->Shared->Prop
def frs (l:List Env):List Addr:=l.filterMap (·.frame)
abbrev Cx.fs (X:Cx):List Addr:=frs X.outer
def Vis (sc:Scope)(x:Str):Prop:=sc.names.lookup x=some .local \/ sc.names.lookup x=some .cell \/ sc.names.lookup x=some .free
def Loc (sc:Scope)(x:Str):Prop:=sc.names.lookup x=some .local \/ sc.names.lookup x=some .cell
def Look (env:Env)(h:Heap)(m:Str->Option Value)(x:Str)(u:Value):Prop :=
 (env.kindOf x=some .local/\m x=some u) \/ ((env.kindOf x=some .cell \/ env.kindOf x=some .free)/\∃c,env.cells.lookup x=some c/\h.IsCell c (some u))
structure Cx.Ok (X:Cx):Prop where
 mod:Mod X.K X.mg X.base
 kind:X.env.scope.kind=.function
 glob:X.env.globals=mainGlobals
 blt:X.env.builtins=builtinsNs
 above:X.s₀.heap.objs.size<=X.env.locals
 inj:∀x y c,X.env.cells.lookup x=some c->X.env.cells.lookup y=some c->x=y
 has:∀x,(X.env.kindOf x=some .cell \/ X.env.kindOf x=some .free)->∃c,X.env.cells.lookup x=some c
 cab:∀x c,X.fn x=true->X.env.cells.lookup x=some c->X.s₀.heap.objs.size<=c
 hd:X.calm=true->X.A.handled=none
 frames:X.A.frames=some X.stack
 stk:X.stack=X.outer \/ (X.stack=X.env::X.outer/\X.env.frame=some X.env.locals)
 exf:∀b∈X.ex,b≠X.env.locals/\∀x c,X.env.cells.lookup x=some c->c≠b
 bs:∀b o,X.base.get? b=some o->X.s₀.heap.get? b=some o/\X.H₀ b=none
 bsz:X.base.objs.size<=X.s₀.heap.objs.size
 noex:∀b o,X.base.get? b=some o->b∉X.ex
 exfs:∀b∈X.ex,b∉X.fs
 funs:X.s₀.heap.FunFrames X.base X.outer
 frf:∀b∈X.fs,X.H₀ b=none
structure Inv (X:Cx)(pins:List (Addr×Obj))(σ:List (Option V))(H:Hp)(s:Shared):Prop where
 ok:X.Ok
 os:s.os=X.s₀.os
 bare:AllBare s.gens
 base:Un X.fs X.ex X.H₀ H X.s₀.heap s.heap
 loc:∃m,s.heap.Ns X.env.locals m/\∀(i:Nat) (x:Str) (v:V),X.N[i]?=some x->σ[i]?=some (some v)->Vis X.env.scope x->∃u,RelV v u/\Look X.env s.heap m x u
 cell:∀x c,X.env.cells.lookup x=some c->∃v,s.heap.IsCell c v
 free:H X.env.locals=none
 freeC:∀x c,X.env.cells.lookup x=some c->H c=none
 pin:∀p∈X.pn++pins,s.heap.get? p.1=some p.2/\H p.1=none/\p.1≠X.env.locals/\p.1∉X.fs/\∀v,p.2.data ≠ .cell v
 hok:HOk X.prog X.w H s.heap
 len:σ.length=X.N.length
section
variable {X:Cx}{pins:List (Addr×Obj)}{σ:List (Option V)}{H H':Hp}{s:Shared}{h':Heap}
theorem Cx.Ok.nofr (ok:X.Ok){b:Addr}{o:Obj}(e:X.base.get? b=some o):b∉X.fs:=λhb=>by
 have:=(ok.funs.mem hb).1
 rw[e]at this;cases this
theorem Inv.bs (I:Inv X pins σ H s):∀b o,X.base.get? b=some o->s.heap.get? b=some o/\H b=none:=λb o e =>
 ⟨I.base.keep b o (I.ok.bs b o e).1 (I.ok.bs b o e).2 (I.ok.nofr e) (I.ok.noex b o e),I.base.free b o (I.ok.bs b o e).1 (I.ok.bs b o e).2 (I.ok.noex b o e)⟩
theorem Inv.bk (I:Inv X pins σ H s):∀b o,X.base.get? b=some o->s.heap.get? b=some o:=λb o e=>(I.bs b o e).1
theorem Inv.mod (I:Inv X pins σ H s):Mod X.K X.mg X.base:=I.ok.mod
theorem Inv.kIn (I:Inv X pins σ H s):X.K.In s.heap:=I.ok.mod.kin.keeps I.bk
theorem Inv.lt (I:Inv X pins σ H s):X.env.locals<s.heap.objs.size:=let ⟨_,hn,_⟩:=I.loc;hn.lt
theorem Inv.sz (I:Inv X pins σ H s):X.s₀.heap.objs.size<=s.heap.objs.size:=Nat.le_trans I.ok.above (Nat.le_of_lt I.lt)
theorem Inv.nofs (I:Inv X pins σ H s){a:Addr}(h:s.heap.objs.size<=a):a∉X.fs:=λhb=>by
 obtain⟨_,o,ho,_⟩:=I.ok.funs.mem hb
 exact absurd (Nat.lt_of_lt_of_le (Heap.lt_size ho) (Nat.le_trans I.sz h)) (Nat.lt_irrefl _)
theorem Inv.cne (I:Inv X pins σ H s):∀x c,X.env.cells.lookup x=some c->c≠X.env.locals:=λx c e z=>by
 obtain⟨v,o,ho,hd⟩:=I.cell x c e
 obtain⟨m,⟨o',es,ep,ho',hd',_⟩,_⟩:=I.loc
 rw[z,ho']at ho;cases ho;rw[hd']at hd;cases hd
theorem Inv.funs (I:Inv X pins σ H s):s.heap.FunFrames X.base X.outer:=by
 have all:∀(l:List Env),(∀b∈frs l,b∈X.fs)->X.s₀.heap.FunFrames X.base l->s.heap.FunFrames X.base l:=by
  intro l
  induction l with
  |nil=>intro _ _;trivial
  |cons env r ih =>
   intro hs hl
   obtain⟨hk,⟨L,o,hf,hn,ho,hd⟩,hr⟩:=hl
   have hL:L∈X.fs:=hs L (by unfold frs;rw[List.filterMap_cons,hf];exact List.mem_cons_self)
   obtain⟨sl,e⟩:=I.base.slot L o ho (I.ok.frf L hL) hL λz=>I.ok.exfs L z hL
   exact⟨hk,⟨L,_,hf,hn,e,hd⟩,ih (λb hb=>hs b (by unfold frs;rw[List.filterMap_cons,hf];exact List.mem_cons_of_mem _ hb)) hr⟩
 exact all X.outer (λ_ hb=>hb) I.ok.funs
theorem Inv.stack (I:Inv X pins σ H s):s.heap.FunFrames X.base X.stack:=by
 rcases I.ok.stk with e|⟨e,hf⟩
 ·rw[e];exact I.funs
 ·rw[e]
  obtain⟨m,hn,_⟩:=I.loc
  refine .cons (by rw[I.ok.kind];decide) hf hn ?_ I.funs
  exact Heap.get?_none_of_le (Nat.le_trans I.ok.bsz I.ok.above)
theorem Inv.stkSub (I:Inv X pins σ H s):∀b∈frs X.stack,b∈X.env.locals::X.fs:=λb hb=>by
 rcases I.ok.stk with e|⟨e,hf⟩
 ·rw[e]at hb;exact List.mem_cons_of_mem _ hb
 ·rw[e]at hb
  unfold frs at hb
  rw[List.filterMap_cons,hf]at hb
  exact hb
theorem Inv.stkFree (I:Inv X pins σ H s):∀b∈frs X.stack,H b=none:=λb hb=>by
 rcases List.mem_cons.mp (I.stkSub b hb)with e|hb
 ·rw[e];exact I.free
 ·obtain⟨_,o,ho,_⟩:=I.ok.funs.mem hb
  exact I.base.free b o ho (I.ok.frf b hb) λz=>I.ok.exfs b z hb
theorem Inv.step {g':Array GenState}{t':Nat}{d':Drawn}{ch:List Addr}(I:Inv X pins σ H s)
  (hch:∀b∈ch,(b∈X.ex \/ X.s₀.heap.objs.size<=b)/\b≠X.env.locals/\(∀x c,X.env.cells.lookup x=some c->c≠b)/\∀p∈X.pn++pins,p.1≠b)
  (keep:∀b o,b≠X.env.locals->b∉X.fs->b∉ch->s.heap.get? b=some o->H b=none->h'.get? b=some o)
  (slot:∀b o,b≠X.env.locals->b∈X.fs->b∉ch->s.heap.get? b=some o->H b=none->∃sl,h'.get? b=some { o with slots:=sl }) (free:∀b o,b∉ch->s.heap.get? b=some o->H b=none->H' b=none)
  (there:∀b o,b∉ch->s.heap.get? b=some o->∃o',h'.get? b=some o')
  (tups:∀b xs,H b=some (.tup xs)->H' b=some (.tup xs)) (frzs:∀b o u,H b=some (.frz o u)->H' b=some (.frz o u)) (tbls:∀b ps,H b=some (.tbl ps)->∃more,H' b=some (.tbl (ps++more)))
  (ns:∀m,s.heap.Ns X.env.locals m->h'.Ns X.env.locals m) (hok:HOk X.prog X.w H' h') (hg:AllBare g') :
  Inv X pins σ H' { s with heap:=h',gens:=g',drawn:=d',toks:=t' }:=by
 have neL:∀b o,X.s₀.heap.get? b=some o->b≠X.env.locals:=λb o e=>Nat.ne_of_lt (Nat.lt_of_lt_of_le (Heap.lt_size e) I.ok.above)
 have neC:∀b o,X.s₀.heap.get? b=some o->b∉X.ex->b∉ch:=λb o e hx hb=>by
  rcases (hch b hb).1 with z|z
  ·exact hx z
  ·exact absurd (Nat.lt_of_lt_of_le (Heap.lt_size e) z) (Nat.lt_irrefl _)
 have cellK:∀x c,X.env.cells.lookup x=some c->∀v,s.heap.IsCell c v->h'.IsCell c v:=λx c e v ⟨o,ho,hd⟩=>by
  have nch:c∉ch:=λz=>(hch c z).2.2.1 x c e rfl
  by_cases hc:c∈X.fs
  ·obtain⟨sl,q⟩:=slot c o (I.cne x c e) hc nch ho (I.freeC x c e)
   exact⟨_,q,hd⟩
  ·exact⟨o,keep c o (I.cne x c e) hc nch ho (I.freeC x c e),hd⟩
 refine⟨I.ok,I.os,hg,⟨λb o e n hb hx=>?_,λb o e n hb hx=>?_,λb o e n hx=>?_,λb o e hx=>?_,λb xs e=>tups b xs (I.base.tups b xs e),λb o xs e=>frzs b o xs (I.base.frzs b o xs e),λb ps e=>?_⟩,?_,λx c e=>?_,?_,λx c e=>?_,λp hp=>?_,hok,I.len⟩
 ·exact keep b o (neL b o e) hb (neC b o e hx) (I.base.keep b o e n hb hx) (I.base.free b o e n hx)
 ·obtain⟨sl,e1⟩:=I.base.slot b o e n hb hx
  obtain⟨sl',e2⟩:=slot b _ (neL b o e) hb (neC b o e hx) e1 (I.base.free b o e n hx)
  exact⟨sl',e2⟩
 ·obtain⟨o',e1⟩:=I.base.there b o e hx
  exact free b o' (neC b o e hx) e1 (I.base.free b o e n hx)
 ·obtain⟨o',e1⟩:=I.base.there b o e hx
  exact there b o' (neC b o e hx) e1
 ·obtain⟨m1,e1⟩:=I.base.tbls b ps e
  obtain⟨m2,e2⟩:=tbls b _ e1
  exact⟨m1++m2,by rw[e2,Array.append_assoc]⟩
 ·obtain⟨m,hn,hl⟩:=I.loc
  refine⟨m,ns m hn,λi x v e1 e2 e3=>?_⟩
  obtain⟨u,r,l⟩:=hl i x v e1 e2 e3
  refine⟨u,r,?_⟩
  rcases l with l|⟨k,c,e,z⟩
  ·exact .inl l
  ·exact .inr ⟨k,c,e,cellK x c e _ z⟩
 ·obtain⟨v,z⟩:=I.cell x c e
  exact⟨v,cellK x c e v z⟩
 ·obtain⟨m,⟨o,_,_,ho,_⟩,_⟩:=I.loc
  exact free _ o (λz=>(hch _ z).2.1 rfl) ho I.free
 ·obtain⟨v,o,ho,hd⟩:=I.cell x c e
  exact free c o (λz=>(hch c z).2.2.1 x c e rfl) ho (I.freeC x c e)
 ·obtain⟨e,n,ne,nf,d⟩:=I.pin p hp
  have nch:p.1∉ch:=λz=>(hch p.1 z).2.2.2 p hp rfl
  exact⟨keep p.1 p.2 ne nf nch e n,free p.1 p.2 nch e n,ne,nf,d⟩
theorem Inv.un {t':Nat}(I:Inv X pins σ H s)(u:Un X.fs [] H H' s.heap h')(hok:HOk X.prog X.w H' h'):Inv X pins σ H' { s with heap:=h',toks:=t' }:=by
 obtain⟨m,⟨o,es,ep,ho,r⟩,_⟩:=id I.loc
 obtain⟨sl,hL⟩:=u.any ho I.free (by simp)
 exact I.step (g':=s.gens) (d':=s.drawn) (ch:=[]) (λ_ z=>nomatch z) (λb o _ hb _ e n=>u.keep b o e n hb (by simp)) (λb o _ hb _ e n=>u.slot b o e n hb (by simp)) (λb o _ e n=>u.free b o e n (by simp)) (λb o _ e=>u.there b o e (by simp)) u.tups u.frzs u.tbls (λm' hm=>by
  obtain⟨o',es',ep',ho',r'⟩:=hm
  rw[ho]at ho';cases ho'
  exact⟨_,es',ep',hL,r'⟩) hok I.bare
theorem Inv.call {g':Array GenState}{t':Nat}{d':Drawn}{ch:List Addr}(I:Inv X pins σ H s)(u:Un (frs X.stack) ch H H' s.heap h')(hok:HOk X.prog X.w H' h')(hg:AllBare g')
  (hch:∀b∈ch,(b∈X.ex \/ X.s₀.heap.objs.size<=b)/\b≠X.env.locals/\(∀x c,X.env.cells.lookup x=some c->c≠b)/\∀p∈X.pn++pins,p.1≠b) :
  Inv X pins σ H' { s with heap:=h',gens:=g',drawn:=d',toks:=t' }:=by
 obtain⟨m,⟨o,es,ep,ho,r⟩,_⟩:=id I.loc
 obtain⟨sl,hL⟩:=u.any ho I.free λz=>(hch _ z).2.1 rfl
 exact I.step (ch:=ch) hch (λb o hL hb hc e n=>u.keep b o e n (λz=>(List.mem_cons.mp (I.stkSub b z)).elim hL hb) hc) (λb o _ _ hc e n=>u.any e n hc) (λb o hc e n=>u.free b o e n hc) (λb o hc e=>u.there b o e hc) u.tups u.frzs u.tbls (λm' hm=>by
  obtain⟨o',es',ep',ho',r'⟩:=hm
  rw[ho]at ho';cases ho'
  exact⟨_,es',ep',hL,r'⟩) hok hg
theorem Inv.turned {t':Nat}{it:Addr}(I:Inv X pins σ H s)(k:∀b o,b≠it->s.heap.get? b=some o->h'.get? b=some o)(hn:H it=none)(hL:it≠X.env.locals)
  (h1:it∈X.ex \/ X.s₀.heap.objs.size<=it) (h2:∀x c,X.env.cells.lookup x=some c->c≠it) (h3:∀p∈X.pn++pins,p.1≠it):Inv X pins σ H { s with heap:=h',toks:=t' }:=by
 have nit:∀b u,H b=some u->b≠it:=λb u e z=>by rw[z,hn]at e;cases e
 refine I.step (g':=s.gens) (d':=s.drawn) (ch:=[it]) (λb hb=>?_) (λb o _ _ hc e _=>k b o (λz=>hc (by simp[z])) e) (λb o _ _ hc e _=>⟨o.slots,k b o (λz=>hc (by simp[z])) e⟩) (λ_ _ _ _ n=>n)
  (λb o hc e=>⟨o,k b o (λz=>hc (by simp[z])) e⟩) (λ_ _ e=>e) (λ_ _ _ e=>e) (λb ps e=>⟨#[],by rw[e];simp⟩) (λm hm=>?_) (λb u e=>?_) I.bare
 ·have e:b=it:=by simpa using hb
  subst e
  exact⟨h1,hL,h2,h3⟩
 ·obtain⟨o,es,ep,ho,r⟩:=hm
  exact⟨o,es,ep,k _ o (Ne.symm hL) ho,r⟩
 ·refine(I.hok b u e).stay (λc v hc q=>k c v ?_ q) (λ_ q=>q) λ_ _ q=>q
  rcases hc with z|z
  ·rw[z];exact nit b u e
  ·exact nit c _ z
theorem Inv.tok (I:Inv X pins σ H s)(t:Nat):Inv X pins σ H { s with toks:=t }:=I.un (h':=s.heap) (t':=t) Un.refl I.hok
theorem Inv.kept {t':Nat}(I:Inv X pins σ H s)(k:∀b u,s.heap.get? b=some u->h'.get? b=some u):Inv X pins σ H { s with heap:=h',toks:=t' }:=I.un (Un.kept k) (I.hok.kept k)
theorem Inv.laid {a:Addr}{o:HO}{t':Nat}(I:Inv X pins σ H s)(k:∀b u,s.heap.get? b=some u->h'.get? b=some u)(hp:s.heap.objs.size<=a)(new:yN X.prog X.w (upd H a o) h' a o) :
  Inv X pins σ (upd H a o) { s with heap:=h',toks:=t' }:=I.un (Un.laid k hp (I.hok.fresh hp)) (I.hok.laid k hp new)
theorem Inv.write {x e:Addr}{o:HO}{t':Nat}(I:Inv X pins σ H s)(mu:Mut (H x))(he:e=x \/ H e=some (.own x))(k:∀b u,b≠e->s.heap.get? b=some u->h'.get? b=some u)(heo:∃u,h'.get? e=some u)
  (new:yN X.prog X.w (upd H x o) h' x o):Inv X pins σ (upd H x o) { s with heap:=h',toks:=t' }:=I.un (Un.write mu he k heo) (I.hok.write mu he k heo new)
theorem Inv.pins_of {pins':List (Addr×Obj)}(I:Inv X pins σ H s)(h:∀p∈pins',s.heap.get? p.1=some p.2/\H p.1=none/\p.1≠X.env.locals/\p.1∉X.fs/\∀v,p.2.data ≠ .cell v):Inv X pins' σ H s :=
 ⟨I.ok,I.os,I.bare,I.base,I.loc,I.cell,I.free,I.freeC,λp hp=>(List.mem_append.mp hp).elim (λz=>I.pin p (List.mem_append_left _ z)) (h p),I.hok,I.len⟩
theorem zfs {N:List Str}(hN:N.Nodup){i j:Nat}{x:Str}(a:N[i]?=some x)(b:N[j]?=some x):i=j:=by
 obtain⟨h1,e1⟩:=List.getElem?_eq_some_iff.mp a
 obtain⟨h2,e2⟩:=List.getElem?_eq_some_iff.mp b
 exact(List.getElem_inj hN).mp (e1.trans e2.symm)
theorem zg9 {M:Model}{A:Around}{E:Value->Shared->Prop}{i:Nat}{x:Str}{v:V}{u:Value}{Q:Unit->Shared->Prop}(I:Inv X pins σ H s)(hN:X.N.Nodup)(hi:X.N[i]?=some x)(hx:Loc X.env.scope x)(r:RelV v u)
  (h:∀s',Inv X pins (σ.set i (some v)) H s'->(∃a,Heap.SameBut a s.heap s'.heap/\(a=X.env.locals \/ X.env.cells.lookup x=some a))->Q () s') (hf:X.fn x=true \/ X.env.scope.names.lookup x=some .local:=by first|exact .inl rfl|exact .inr rfl|assumption):wpAny M A (storeName X.env x u) Q E s:=by
 obtain⟨m,hn,hl⟩:=id I.loc
 have hcls:(X.env.scope.kind == .class || (X.env.scope.kind == .module && X.env.locals != X.env.globals))=false:=by rw[I.ok.kind];rfl
 have hiσ:i<σ.length:=by rw[I.len];exact(List.getElem?_eq_some_iff.mp hi).1
 have cne:=I.cne
 have tracked:∀{a:Addr} {h':Heap},(∃o,s.heap.get? a=some o/\H a=none)->Heap.SameBut a s.heap h'->HOk X.prog X.w H h':=λ{a h'} ha hs b ob e=>by
  obtain⟨_,_,hfree⟩:=ha
  refine(I.hok b ob e).stay (λc w' hc q=>(hs.2 c ?_).trans q) (λ_ q=>q) λ_ _ q=>q
  rintro rfl
  rcases hc with rfl|hc
  ·rw[hfree]at e;cases e
  ·rw[hfree]at hc;cases hc
 rcases hx with hk|hk
 ·refine wpAny_storeName_local hk hn (λh' hn' hs=>?_) hcls
  obtain⟨oL,_,_,hoL,_⟩:=id hn
  refine h _ ⟨I.ok,I.os,I.bare,⟨λb o e n hb hx=>?_,λb o e n hb hx=>?_,I.base.free,λb o e hx=>?_,I.base.tups,I.base.frzs,I.base.tbls⟩,⟨_,hn',λj y v' e1 e2 e3=>?_⟩,λy c e=>?_,I.free,I.freeC,λp hp=>?_,tracked ⟨oL,hoL,I.free⟩ hs,by simpa using I.len⟩ ⟨_,hs,.inl rfl⟩
  ·exact(hs.2 b (Nat.ne_of_lt (Nat.lt_of_lt_of_le (Heap.lt_size e) I.ok.above))).trans (I.base.keep b o e n hb hx)
  ·obtain⟨sl,e1⟩:=I.base.slot b o e n hb hx
   exact⟨sl,(hs.2 b (Nat.ne_of_lt (Nat.lt_of_lt_of_le (Heap.lt_size e) I.ok.above))).trans e1⟩
  ·obtain⟨o',e1⟩:=I.base.there b o e hx
   exact⟨o',(hs.2 b (Nat.ne_of_lt (Nat.lt_of_lt_of_le (Heap.lt_size e) I.ok.above))).trans e1⟩
  ·by_cases hj:j=i
   ·subst hj
    rw[hi]at e1;cases e1
    rw[List.getElem?_set_self hiσ]at e2
    cases e2
    exact⟨u,r,.inl ⟨hk,by simp⟩⟩
   ·rw[List.getElem?_set_ne (Ne.symm hj)]at e2
    obtain⟨u',r',q⟩:=hl j y v' e1 e2 e3
    refine⟨u',r',?_⟩
    rcases q with⟨k,e⟩|⟨k,c,e,z⟩
    ·refine .inl ⟨k,?_⟩
     have:y≠x:=λe=>hj (zfs hN e1 (e ▸ hi))
     simp[this,e]
    ·exact .inr ⟨k,c,e,z.sameBut hs (cne y c e)⟩
  ·obtain⟨w',z⟩:=I.cell y c e
   exact⟨w',z.sameBut hs (cne y c e)⟩
  ·obtain⟨e,n,ne,nf,d⟩:=I.pin p hp
   exact⟨(hs.2 p.1 ne).trans e,n,ne,nf,d⟩
 ·have hfn:X.fn x=true:=by
   rcases hf with z|z
   ·exact z
   ·rw[z]at hk;cases hk
  obtain⟨c,hc⟩:=I.ok.has x (.inl hk)
  obtain⟨w',z⟩:=I.cell x c hc
  refine wpAny_storeName_cell I.ok.kind hk hc z (λh' hc' hs=>?_)
  obtain⟨oc,hoc,hocd⟩:=id z
  refine h { s with heap:=h' } ⟨I.ok,I.os,I.bare,⟨λb o e n hb hx=>?_,λb o e n hb hx=>?_,I.base.free,λb o e hx=>?_,I.base.tups,I.base.frzs,I.base.tbls⟩,⟨m,hn.sameBut hs (Ne.symm (cne x c hc)),λj y v' e1 e2 e3=>?_⟩,λy c' e=>?_,I.free,I.freeC,λp hp=>?_,tracked ⟨oc,hoc,I.freeC x c hc⟩ hs,by simpa using I.len⟩ ⟨c,hs,.inr hc⟩
  ·exact(hs.2 b (Nat.ne_of_lt (Nat.lt_of_lt_of_le (Heap.lt_size e) (I.ok.cab x c hfn hc)))).trans (I.base.keep b o e n hb hx)
  ·obtain⟨sl,e1⟩:=I.base.slot b o e n hb hx
   exact⟨sl,(hs.2 b (Nat.ne_of_lt (Nat.lt_of_lt_of_le (Heap.lt_size e) (I.ok.cab x c hfn hc)))).trans e1⟩
  ·obtain⟨o',e1⟩:=I.base.there b o e hx
   exact⟨o',(hs.2 b (Nat.ne_of_lt (Nat.lt_of_lt_of_le (Heap.lt_size e) (I.ok.cab x c hfn hc)))).trans e1⟩
  ·by_cases hj:j=i
   ·subst hj
    rw[hi]at e1;cases e1
    rw[List.getElem?_set_self hiσ]at e2
    cases e2
    exact⟨u,r,.inr ⟨.inl hk,c,hc,hc'⟩⟩
   ·rw[List.getElem?_set_ne (Ne.symm hj)]at e2
    obtain⟨u',r',q⟩:=hl j y v' e1 e2 e3
    refine⟨u',r',?_⟩
    rcases q with q|⟨k,c',e,z'⟩
    ·exact .inl q
    ·refine .inr ⟨k,c',e,z'.sameBut hs ?_⟩
     rintro rfl
     exact hj (zfs hN e1 (I.ok.inj _ _ _ e hc ▸ hi))
  ·by_cases hcc:c'=c
   ·subst hcc;exact⟨_,hc'⟩
   ·obtain⟨w2,z2⟩:=I.cell y c' e
    exact⟨w2,z2.sameBut hs hcc⟩
  ·obtain⟨e,n,ne,nf,d⟩:=I.pin p hp
   refine⟨(hs.2 p.1 ?_).trans e,n,ne,nf,d⟩
   intro q
   rw[q,hoc]at e
   have q':oc=p.2:=Option.some.inj e
   exact d w' (by rw[<- q'];exact hocd)
theorem zal {M:Model}{A:Around}{E:Value->Shared->Prop}{i:Nat}{x:Str}{v:V}{u:Value}{Q:Unit->Shared->Prop}(I:Inv X pins σ H s)(hN:X.N.Nodup)(hi:X.N[i]?=some x)(hx:Loc X.env.scope x)(r:RelV v u)
  (h:∀s',Inv X pins (σ.set i (some v)) H s'->Q () s') (hf:X.fn x=true \/ X.env.scope.names.lookup x=some .local:=by first|exact .inl rfl|exact .inr rfl|assumption):wpAny M A (storeName X.env x u) Q E s :=
 zg9 I hN hi hx r (λs' I' _=>h s' I') hf
theorem Inv.call' {s':Shared}{ch:List Addr}(I:Inv X pins σ H s)(ho:s'.os=s.os)(u:Un (frs X.stack) ch H H' s.heap s'.heap)(hok:HOk X.prog X.w H' s'.heap)(hg:AllBare s'.gens)
  (hch:∀b∈ch,(b∈X.ex \/ X.s₀.heap.objs.size<=b)/\b≠X.env.locals/\(∀x c,X.env.cells.lookup x=some c->c≠b)/\∀p∈X.pn++pins,p.1≠b):Inv X pins σ H' s':=by
 obtain⟨h',g',d',t',o'⟩:=s'
 have e:o'=s.os:=ho
 subst e
 exact I.call (g':=g') (t':=t') (d':=d') u hok hg hch
end
abbrev XK:=Value->Option Addr->Hp->Prop
abbrev St:=List (Option V)
abbrev VK:=V->Hp->Prop
abbrev TE:=St->Hp->VK->Prop
abbrev TT:=St->Hp->(Bool->Hp->Prop)->Prop
abbrev TA:=St->Hp->(List V->Hp->Prop)->Prop
structure Ends where
 nx:St->Hp->Prop
 rt:VK
 bk:St->Hp->Prop:=λ_ _=>False
 ct:St->Hp->Prop:=λ_ _=>False
abbrev TS:=Ends->St->Hp->Prop
def EP (X:Cx)(pins:List (Addr×Obj))(σ:St)(Q:VK)(u:Value)(s':Shared):Prop:=∃v H',Inv X pins σ H' s'/\RelV v u/\Q v H'
def TP (X:Cx)(pins:List (Addr×Obj))(σ:St)(Q:Bool->Hp->Prop)(b:Bool)(s':Shared):Prop:=∃H',Inv X pins σ H' s'/\Q b H'
def AP (X:Cx)(pins:List (Addr×Obj))(σ:St)(Q:List V->Hp->Prop)(us:List Value)(s':Shared):Prop:=∃vs H',Inv X pins σ H' s'/\Vals vs us/\Q vs H'
def SP (X:Cx)(pins:List (Addr×Obj))(D:Ends)(f:Flow)(s':Shared):Prop :=
 match f with
 | .next=>∃σ' H',Inv X pins σ' H' s'/\D.nx σ' H'
 | .brk=>∃σ' H',Inv X pins σ' H' s'/\D.bk σ' H'
 | .cont=>∃σ' H',Inv X pins σ' H' s'/\D.ct σ' H'
 | .ret u=>∃v σ' H',Inv X pins σ' H' s'/\RelV v u/\D.rt v H'
def PE (X:Cx)(e:Expr)(t:TE):Prop :=
 ∀(pins:List (Addr×Obj)) (s:Shared) (σ:St) (H:Hp) (Q:VK),Inv X pins σ H s->t σ H Q->wpAny (model X.prog X.w) X.A (eval e X.env) (EP X pins σ Q) X.xe s
def PT (X:Cx)(e:Expr)(t:TT):Prop :=
 ∀(pins:List (Addr×Obj)) (s:Shared) (σ:St) (H:Hp) (Q:Bool->Hp->Prop),Inv X pins σ H s->t σ H Q->wpAny (model X.prog X.w) X.A (isTrue e X.env (eval e X.env)) (TP X pins σ Q) X.xe s
def PW (X:Cx)(e:Expr)(t:TT):Prop :=
 ∀(whole:Sem Value) (pins:List (Addr×Obj)) (s:Shared) (σ:St) (H:Hp) (Q:Bool->Hp->Prop),Inv X pins σ H s->t σ H Q->wpAny (model X.prog X.w) X.A (isTrue e X.env whole) (TP X pins σ Q) X.xe s
theorem PW.pt {X:Cx}{e:Expr}{t:TT}(h:PW X e t):PT X e t:=h _
def PA (X:Cx)(es:List Expr)(t:TA):Prop :=
 ∀(pos:Pos) (pins:List (Addr×Obj)) (s:Shared) (σ:St) (H:Hp) (Q:List V->Hp->Prop),Inv X pins σ H s->t σ H Q->wpAny (model X.prog X.w) X.A (spliced (backTo pos (starEach es X.env))) (AP X pins σ Q) X.xe s
def PS (X:Cx)(st:Stmt)(t:TS):Prop :=
 ∀(pins:List (Addr×Obj)) (s:Shared) (σ:St) (H:Hp) (D:Ends),Inv X pins σ H s->t D σ H->wpAny (model X.prog X.w) X.A (exec st X.env) (SP X pins D) X.xe s
def PSs (X:Cx)(st:List Stmt)(t:TS):Prop :=
 ∀(pins:List (Addr×Obj)) (s:Shared) (σ:St) (H:Hp) (D:Ends),Inv X pins σ H s->t D σ H->wpAny (model X.prog X.w) X.A (execs st X.env) (SP X pins D) X.xe s
theorem thn {α:Type}{t:Sem α}{Q Q':α->Shared->Prop}{M:Model}{A:Around}{E:Value->Shared->Prop}{s:Shared}(h:wpAny M A t Q E s)(hQ:∀a s,Q a s->Q' a s):wpAny M A t Q' E s:=wpAny_mono h hQ λ_ _ x=>x
section
variable {X:Cx}
theorem bin {a b:Expr}{ta tb:TE}(ha:PE X a ta)(hb:PE X b tb){pins:List (Addr×Obj)}{s:Shared}{σ:St}{H:Hp}{R:V->V->Hp->Prop}(I:Inv X pins σ H s)(h:ta σ H λx H1=>tb σ H1 λy H2=>R x y H2)
  {α:Type} {Q:α->Shared->Prop} {f:Value->Value->Sem α}
  (hf:∀v u s2 x y H2,Inv X pins σ H2 s2->RelV x v->RelV y u->R x y H2->wpAny (model X.prog X.w) X.A (f v u) Q X.xe s2) :
  wpAny (model X.prog X.w) X.A (eval a X.env) (λv s₁=>wpAny (model X.prog X.w) X.A (eval b X.env) (λu s₂=>wpAny (model X.prog X.w) X.A (f v u) Q X.xe s₂) X.xe s₁) X.xe s:=by
 refine thn (ha pins s σ H _ I h) λv s1 ⟨x,H1,I1,r1,q1⟩=>?_
 refine thn (hb pins s1 σ H1 _ I1 q1) λu s2 ⟨y,H2,I2,r2,q2⟩=>?_
 exact hf v u s2 x y H2 I2 r1 r2 q2
def ygz (i:Nat):TE:=λσ H Q=>∃v,σ[i]?=some (some v)/\Q v H
def tC (v:V):TE:=λ_ H Q=>Q v H
theorem zml {i:Nat}{x:Str}{pos:Pos}(hN:X.N[i]?=some x)(hv:Vis X.env.scope x)(hd:(x == ("__debug__":Str))=false:=by decide)(hcd:(x == ("__classdict__":Str))=false:=by decide):PE X (.Name x pos) (ygz i):=by
 intro pins s σ H Q I h
 obtain⟨v,e,h⟩:=h
 obtain⟨m,hn,hl⟩:=I.loc
 obtain⟨u,r,l⟩:=hl i x v hN e hv
 have fin:EP X pins σ Q u s:=⟨v,H,I,r,h⟩
 rcases l with⟨hk,hm⟩|⟨hk,c,hc,hcell⟩
 ·exact wpAny_Name (wpAny_loadName_local I.ok.kind hk hn hm fin) hd
 ·rcases hk with hk|hk
  ·exact wpAny_Name (wpAny_loadName_cell I.ok.kind hk hc hcell fin) hd
  ·exact wpAny_Name (wpAny_loadName_free I.ok.kind hk hc hcell fin hcd) hd
theorem ybQ {i j pos}:PE X (.Constant (.int i) j pos) (tC (.int i)):=λ_ _ _ H _ I h=>wpAny_Constant_int ⟨.int i,H,I.tok _,⟨_,rfl⟩,h⟩
theorem ydW {b j pos}:PE X (.Constant (.bool b) j pos) (tC (.bl b)):=λ_ _ _ H _ I h=>Constant_bool ⟨.bl b,H,I,rfl,h⟩
theorem ycM {j pos}:PE X (.Constant .none j pos) (tC .non):=λ_ _ _ H _ I h=>Constant_none ⟨.non,H,I,rfl,h⟩
theorem yb9 {x j pos}:PE X (.Constant (.str x) j pos) (tC (.str x)):=λ_ _ _ H _ I h=>Calls.Constant_str ⟨.str x,H,I.tok _,⟨_,rfl⟩,h⟩
def Gl (X:Cx)(x:Str):Prop:=X.env.kindOf x=some .globalImplicit
theorem zbP {E:Value->Shared->Prop}{pins:List (Addr×Obj)}{s:Shared}{σ:St}{H:Hp}{x:Str}{u:Value}{pos:Pos}{Q:Value->Shared->Prop}(I:Inv X pins σ H s)(hg:Gl X x)(hm:X.mg x=some u)(h:Q u s)
  (hd:(x == ("__debug__":Str))=false:=by decide):wpAny (model X.prog X.w) X.A (eval (.Name x pos) X.env) Q E s :=
 Calls.Name_function_global I.ok.kind hg (Calls.loadGlobal_global (by rw[I.ok.glob];exact I.mod.glob.keeps I.bk) hm h) hd
theorem zbf {E:Value->Shared->Prop}{pins:List (Addr×Obj)}{s:Shared}{σ:St}{H:Hp}{x:Str}{u:Value}{pos:Pos}{Q:Value->Shared->Prop}(I:Inv X pins σ H s)(hg:Gl X x)(hm:X.mg x=none)(hv:bootBuiltins x=some u)(h:Q u s)
  (hn:x ≠ "__name__":=by decide) (hd:(x == ("__debug__":Str))=false:=by decide):wpAny (model X.prog X.w) X.A (eval (.Name x pos) X.env) Q E s:=by
 obtain⟨mb,h1,h2⟩:=I.mod.blt
 exact Calls.Name_function_global I.ok.kind hg (Calls.loadGlobal_builtin (by rw[I.ok.glob];exact I.mod.glob.keeps I.bk) hm (by rw[I.ok.blt];exact h1.keeps I.bk) ((h2 x hn).trans hv) h) hd
theorem zcP {x:Str}{v:V}{u:Value}{pos:Pos}(hg:Gl X x)(hm:X.mg x=some u)(r:RelV v u)(hd:(x == ("__debug__":Str))=false:=by decide):PE X (.Name x pos) (tC v) :=
 λ_ _ _ H _ I h=>zbP I hg hm ⟨v,H,I,r,h⟩ hd
theorem zkz {x:Str}{v:V}{u:Value}{pos:Pos}(hg:Gl X x)(hm:X.mg x=none)(hv:bootBuiltins x=some u)(r:RelV v u)(hn:x ≠ "__name__":=by decide)(hd:(x == ("__debug__":Str))=false:=by decide):PE X (.Name x pos) (tC v) :=
 λ_ _ _ H _ I h=>zbf I hg hm hv ⟨v,H,I,r,h⟩ hn hd
variable {a b:Expr}{ta tb:TE}{pos:Pos}
variable {tA tB':TT}{rest:List Expr}
def yfS (t u:TT):TT:=λσ H Q=>t σ H λc H1=>if c=true then u σ H1 Q else Q false H1
def tOr (t u:TT):TT:=λσ H Q=>t σ H λc H1=>if c=true then Q true H1 else u σ H1 Q
def ygs (t:TT):TT:=λσ H Q=>t σ H λc H1=>Q (!c) H1
theorem zkS (ha:PT X a tA):PW X (.BoolOp .And [a] pos) tA:=by
 intro wh pins s σ H Q I h
 refine isTrue_and (thn (ha pins s σ H Q I h) λc s1 e=>?_)
 cases c with
 |true=>exact isTrue_and_nil e
 |false=>exact e
theorem zn4 (ha:PT X a tA):PW X (.BoolOp .Or [a] pos) tA:=by
 intro wh pins s σ H Q I h
 refine isTrue_or (thn (ha pins s σ H Q I h) λc s1 e=>?_)
 cases c with
 |false=>exact isTrue_or_nil e
 |true=>exact e
theorem zm1 (ha:PT X a tA)(hb:PW X (.BoolOp .And (b::rest) pos) tB'):PW X (.BoolOp .And (a::b::rest) pos) (yfS tA tB'):=by
 intro wh pins s σ H Q I h
 refine isTrue_and (thn (ha pins s σ H _ I h) λc s1 ⟨H1,I1,q1⟩=>?_)
 cases c with
 |true=>exact hb wh pins s1 σ H1 Q I1 q1
 |false=>exact⟨H1,I1,q1⟩
theorem zov (ha:PT X a tA)(hb:PW X (.BoolOp .Or (b::rest) pos) tB'):PW X (.BoolOp .Or (a::b::rest) pos) (tOr tA tB'):=by
 intro wh pins s σ H Q I h
 refine isTrue_or (thn (ha pins s σ H _ I h) λc s1 ⟨H1,I1,q1⟩=>?_)
 cases c with
 |true=>exact⟨H1,I1,q1⟩
 |false=>exact hb wh pins s1 σ H1 Q I1 q1
theorem zmG (ha:PT X a tA):PT X (.UnaryOp .Not a pos) (ygs tA):=by
 intro pins s σ H Q I h
 exact isTrue_not (ha pins s σ H (λc H1=>Q (!c) H1) I h)
def ydF (ta tb:TE):TE:=λσ H Q=>ta σ H λx H1=>∃c,x=.bl c/\if c=true then tb σ H1 Q else Q (.bl false) H1
def yf9 (ta tb:TE):TE:=λσ H Q=>ta σ H λx H1=>∃c,x=.bl c/\if c=true then Q (.bl true) H1 else tb σ H1 Q
def yec (ta:TE):TE:=λσ H Q=>ta σ H λx H1=>∃c,x=.bl c/\Q (.bl (!c)) H1
theorem zmM {op}{t:TE}(h:PE X a t):PE X (.BoolOp op [a] pos) t:=λpins s σ H Q I hw=>BoolOp_one (h pins s σ H Q I hw)
theorem znb (ha:PE X a ta)(hb:PE X (.BoolOp .And (b::rest) pos) tb):PE X (.BoolOp .And (a::b::rest) pos) (ydF ta tb):=by
 intro pins s σ H Q I h
 refine BoolOp_and (thn (ha pins s σ H _ I h) λv s1 ⟨x,H1,I1,r1,q1⟩=>?_)
 obtain⟨c,rfl,q1⟩:=q1
 cases r1
 refine wpAny_truthy_bool ?_
 cases c with
 |true=>exact hb pins s1 σ H1 Q I1 q1
 |false=>exact⟨.bl false,H1,I1,rfl,q1⟩
theorem zoJ (ha:PE X a ta)(hb:PE X (.BoolOp .Or (b::rest) pos) tb):PE X (.BoolOp .Or (a::b::rest) pos) (yf9 ta tb):=by
 intro pins s σ H Q I h
 refine BoolOp_or (thn (ha pins s σ H _ I h) λv s1 ⟨x,H1,I1,r1,q1⟩=>?_)
 obtain⟨c,rfl,q1⟩:=q1
 cases r1
 refine wpAny_truthy_bool ?_
 cases c with
 |false=>exact hb pins s1 σ H1 Q I1 q1
 |true=>exact⟨.bl true,H1,I1,rfl,q1⟩
theorem zne (ha:PE X a ta):PE X (.UnaryOp .Not a pos) (yec ta):=by
 intro pins s σ H Q I h
 refine UnaryOp_ (thn (ha pins s σ H _ I h) λv s1 ⟨x,H1,I1,r1,q1⟩=>?_)
 obtain⟨c,rfl,q1⟩:=q1
 cases r1
 exact not_of (wpAny_truthy_bool ⟨.bl (!c),H1,I1,rfl,q1⟩)
def tIf (t:TT)(ta tb:TE):TE:=λσ H Q=>t σ H λc H1=>if c=true then ta σ H1 Q else tb σ H1 Q
theorem ziI {c:Expr}(hc:PT X c tA)(ha:PE X a ta)(hb:PE X b tb):PE X (.IfExp c a b pos) (tIf tA ta tb):=by
 intro pins s σ H Q I h
 refine wpAny_IfExp (thn (hc pins s σ H _ I h) λd s1 ⟨H1,I1,q1⟩=>?_)
 cases d with
 |true=>exact ha pins s1 σ H1 Q I1 q1
 |false=>exact hb pins s1 σ H1 Q I1 q1
end
def SqL (K:PySem.W.Frag)(H:Hp)(a:Addr)(xs:List V):Prop :=
 Rd H a (.lst xs) \/
  ∃(o:Obj) (its:Array Value) (n:Nat),K.lookup a=some o/\o.cls=.type "list"/\o.dict=none/\o.data=.seq its n/\its.size<=sizeLine/\Vals xs its.toList
def SqT (K:PySem.W.Frag)(H:Hp)(a:Addr)(xs:List V):Prop :=
 Rd H a (.tup xs) \/
  ∃(o:Obj) (its:Array Value) (n:Nat),K.lookup a=some o/\o.cls=.type "tuple"/\o.data=.seq its n/\its.size<=sizeLine/\Vals xs its.toList
def yfk:Value->Option V
 | .none=>some .non
 | .bool b=>some (.bl b)
 | .int i _=>some (.int i)
 | .str x _=>some (.str x)
 | .bytes b _=>some (.byt b)
 | .float b _=>some (.flt b)
 | .ref a=>some (.ref a)
 | .type n=>some (.ty n)
 |_=>none
theorem RelV.abs {x:V}{u:Value}(r:RelV x u):yfk u=some x:=by
 cases x with
 |non=>cases r;rfl
 |bl _=>cases r;rfl
 |int _=>obtain⟨t,rfl⟩:=r;rfl
 |str _=>obtain⟨t,rfl⟩:=r;rfl
 |byt _=>obtain⟨t,rfl⟩:=r;rfl
 |flt _=>obtain⟨t,rfl⟩:=r;rfl
 |ref _=>cases r;rfl
 |ty _=>cases r;rfl
theorem RelV.inj {x y:V}{u:Value}(r:RelV x u)(q:RelV y u):x=y:=Option.some.inj (r.abs.symm.trans q.abs)
theorem Vals.inj:∀{xs ys:List V} {us:List Value},Vals xs us->Vals ys us->xs=ys
 |_,_,_,.nil,.nil=>rfl
 |_,_,_,.cons r t,.cons r' t'=>by rw[r.inj r',Vals.inj t t']
section
variable {X:Cx}{pins:List (Addr×Obj)}{σ:St}{H:Hp}{s:Shared}{a:Addr}{xs ys:List V}
theorem SqL.of {K:PySem.W.Frag}(h:H a=some (.lst xs)):SqL K H a xs:=.inl (.inl h)
theorem Inv.list (I:Inv X pins σ H s)(h:SqL X.K H a xs):∃its:List Value,Vals xs its/\PlainL s.heap a its.toArray/\xs.length<=sizeLine:=by
 rcases h with h|⟨o,its,n,hk,hc,hd,hs,hz,r⟩
 ·obtain⟨z,its,n,r,e⟩:=h.ok I.hok
  exact⟨its,r,⟨_,n,e,rfl,rfl,rfl⟩,z⟩
 ·refine⟨its.toList,r,⟨o,n,I.kIn a o hk,hc,hd,by simpa using hs⟩,?_⟩
  have e:=r.length
  simp only[Array.length_toList]at e
  omega
theorem Inv.tuple (I:Inv X pins σ H s)(h:SqT X.K H a xs):∃its:List Value,Vals xs its/\IsTup s.heap a its.toArray/\xs.length<=sizeLine:=by
 rcases h with h|⟨o,its,n,hk,hc,hs,hz,r⟩
 ·obtain⟨z,its,r,p⟩:=h.ok I.hok
  exact⟨its,r,p,z⟩
 ·refine⟨its.toList,r,⟨o,I.kIn a o hk,hc,n,by simpa using hs⟩,?_⟩
  have e:=r.length
  simp only[Array.length_toList]at e
  omega
theorem Inv.list_inj (I:Inv X pins σ H s)(h:SqL X.K H a xs)(h':SqL X.K H a ys):xs=ys:=by
 obtain⟨its,r,⟨o,n,e,_,_,d⟩,_⟩:=I.list h
 obtain⟨its',r',⟨o',n',e',_,_,d'⟩,_⟩:=I.list h'
 rw[e]at e';cases e'
 rw[d]at d'
 injection d' with d1 _
 have:its=its':=by simpa using congrArg Array.toList d1
 subst this
 exact r.inj r'
theorem Inv.tuple_inj (I:Inv X pins σ H s)(h:SqT X.K H a xs)(h':SqT X.K H a ys):xs=ys:=by
 obtain⟨its,r,⟨o,e,_,n,d⟩,_⟩:=I.tuple h
 obtain⟨its',r',⟨o',e',_,n',d'⟩,_⟩:=I.tuple h'
 rw[e]at e';cases e'
 rw[d]at d'
 injection d' with d1 _
 have:its=its':=by simpa using congrArg Array.toList d1
 subst this
 exact r.inj r'
end
section
variable {X:Cx}{pins:List (Addr×Obj)}{σ:St}{H:Hp}{s:Shared}{E:Value->Shared->Prop}
end
section
variable {X:Cx}{st:Stmt}{rest:List Stmt}{t u:TS}{e:Expr}{te:TE}{pos:Pos}
def ydN:TS:=λD σ H=>D.nx σ H
def yfj (t u:TS):TS:=λD σ H=>t { D with nx:=u D } σ H
theorem ycm:PSs X [] ydN:=λ_ _ σ H _ I h=>wpAny_execs_nil ⟨σ,H,I,h⟩
theorem ziJ (h1:PS X st t)(h2:PSs X rest u):PSs X (st::rest) (yfj t u):=by
 intro pins s σ H D I h
 refine wpAny_execs_cons (thn (h1 pins s σ H { D with nx:=u D } I h) λf s1 q=>?_)
 cases f with
 |next =>
  obtain⟨σ',H',I',q⟩:=q
  exact h2 pins s1 σ' H' D I' q
 |ret v=>exact q
 |brk=>exact q
 |cont=>exact q
theorem Inv.quiet {pins:List (Addr×Obj)}{σ:St}{H:Hp}{s:Shared}(I:Inv X pins σ H s):interactive X.env=false:=by simp[interactive,I.ok.kind]
def ydx (te:TE):TS:=λD σ H=>te σ H λ_ H1=>D.nx σ H1
theorem zlh (he:PE X e te)(hs:swapsWith e none pos.line X.env=pure false:=by rfl):PS X (.Expr e pos) (ydx te):=by
 intro pins s σ H D I h
 exact wpAny_Expr_any (thn (he pins s σ H _ I h) λv s1 ⟨x,H1,I1,r1,q1⟩=>⟨σ,H1,I1,q1⟩) I.quiet hs
def yfN (te:TE):TS:=λD σ H=>te σ H D.rt
theorem znG (he:PE X e te):PS X (.Return (some e) pos) (yfN te):=by
 intro pins s σ H D I h
 exact wpAny_Return_some (thn (he pins s σ H _ I h) λv s1 ⟨x,H1,I1,r1,q1⟩=>⟨x,σ,H1,I1,r1,q1⟩)
def yd0:TS:=λD _ H=>D.rt .non H
theorem ycA:PS X (.Return none pos) yd0:=λ_ _ σ H _ I h=>wpAny_Return_none ⟨.non,σ,H,I,rfl,h⟩
def yfc (c:TT)(t u:TS):TS:=λD σ H=>c σ H λb H1=>if b=true then t D σ H1 else u D σ H1
theorem zow {c:Expr}{a b:List Stmt}{tc:TT}(hc:PT X c tc)(ha:PSs X a t)(hb:PSs X b u):PS X (.If c a b pos) (yfc tc t u):=by
 intro pins s σ H D I h
 refine wpAny_If (thn (hc pins s σ H _ I h) λd s1 ⟨H1,I1,q1⟩=>?_)
 cases d with
 |true=>exact ha pins s1 σ H1 D I1 q1
 |false=>exact hb pins s1 σ H1 D I1 q1
end
abbrev TG:=V->St->Hp->(St->Hp->Prop)->Prop
abbrev TGs:=List V->St->Hp->(St->Hp->Prop)->Prop
def PG (X:Cx)(target:Expr)(t:TG):Prop :=
 ∀(pins:List (Addr×Obj)) (s:Shared) (σ:St) (H:Hp) (v:V) (u:Value) (Q:St->Hp->Prop),Inv X pins σ H s->RelV v u->t v σ H Q ->
  wpAny (model X.prog X.w) X.A (assign target X.env u) (λ_ s'=>∃σ' H',Inv X pins σ' H' s'/\Q σ' H') X.xe s
def PGs (X:Cx)(ts:List Expr)(t:TGs):Prop :=
 ∀(pins:List (Addr×Obj)) (s:Shared) (σ:St) (H:Hp) (vs:List V) (us:List Value) (Q:St->Hp->Prop),Inv X pins σ H s->Vals vs us->t vs σ H Q ->
  wpAny (model X.prog X.w) X.A (assignInOrder ((assignEach ts X.env).map (·.2)) us) (λ_ s'=>∃σ' H',Inv X pins σ' H' s'/\Q σ' H') X.xe s
abbrev yeo:=V->V->V->Hp->(Hp->Prop)->Prop
def yeq (X:Cx)(t:yeo):Prop :=
 ∀(pins:List (Addr×Obj)) (s:Shared) (σ:St) (H:Hp) (o i v:V) (ov iv u:Value) (Q:Hp->Prop),Inv X pins σ H s->RelV o ov->RelV i iv->RelV v u->t o i v H Q ->
  wpAny (model X.prog X.w) X.A (setItem ov iv u) (λ_ s'=>∃H',Inv X pins σ H' s'/\Q H') X.xe s
abbrev TIp:=V->V->Hp->VK->Prop
def PIp (X:Cx)(op:Operator)(t:TIp):Prop :=
 ∀(pins:List (Addr×Obj)) (s:Shared) (σ:St) (H:Hp) (x y:V) (v u:Value) (Q:VK),Inv X pins σ H s->RelV x v->RelV y u->t x y H Q ->
  wpAny (model X.prog X.w) X.A (inplaceOp op v u) (EP X pins σ Q) X.xe s
section
variable {X:Cx}{pos:Pos}
def yb5 (i:Nat):TG:=λv σ H Q=>Q (σ.set i (some v)) H
theorem zhG {i:Nat}{x:Str}(hN:X.N.Nodup)(hi:X.N[i]?=some x)(hx:Loc X.env.scope x)(hf:X.fn x=true \/ X.env.scope.names.lookup x=some .local:=by first|exact .inl rfl|exact .inr rfl|assumption):PG X (.Name x pos) (yb5 i):=by
 intro pins s σ H v u Q I r h
 exact wpAny_assign_Name (zal I hN hi hx r (λs' I'=>⟨_,H,I',h⟩) hf)
def yeZ:TGs:=λvs σ H Q=>vs=[]/\Q σ H
def yeb (t:TG)(u:TGs):TGs:=λvs σ H Q=>∃v r,vs=v::r/\t v σ H λσ' H'=>u r σ' H' Q
theorem yco:PGs X [] yeZ:=by
 intro pins s σ H vs us Q I r h
 obtain⟨e,h⟩:=h
 subst e
 cases r
 exact assignInOrder_nil ⟨σ,H,I,h⟩
theorem zjo {e:Expr}{es:List Expr}{t:TG}{u:TGs}(h1:PG X e t)(h2:PGs X es u)
  (hs:(assignEach (e::es) X.env).map (·.2)=assign e X.env::(assignEach es X.env).map (·.2):=by rfl):PGs X (e::es) (yeb t u):=by
 intro pins s σ H vs us Q I r h
 obtain⟨v,vr,e1,h⟩:=h
 subst e1
 cases r with
 |cons r rr =>
  rw[hs]
  refine assignInOrder_cons (thn (h1 pins s σ H _ _ _ I r h) λ_ s1 ⟨σ1,H1,I1,q1⟩=>?_)
  exact h2 pins s1 σ1 H1 _ _ Q I1 rr q1
def ygt (K:PySem.W.Frag)(n:Nat)(t:TGs):TG:=λv σ H Q=>∃a xs,v=.ref a/\SqT K H a xs/\xs.length=n/\t xs σ H Q
theorem zm8 {es:List Expr}{k:Nat}{t:TGs}{n:Nat}(hc:X.calm=true)(h:PGs X es t)
  (hn:(assignEach es X.env).length=n:=by rfl) (hst:(assignEach es X.env).findIdx? (·.1)=none:=by rfl):PG X (.Tuple es k pos) (ygt X.K n t):=by
 intro pins s σ H v u Q I r hw
 obtain⟨a,xs,e1,hq,hl,hw⟩:=hw
 subst e1
 cases r
 obtain⟨its,rv,ht,hz⟩:=I.tuple hq
 refine assign_Tuple_tuple (I.ok.hd hc) ht (by simp[hn,<- hl,rv.length]) hst λh' hx=>?_
 have I1:Inv X pins σ H { s with heap:=h' }:=I.kept (t':=s.toks) λb o e=>hx b o (Nat.ne_of_lt (Heap.lt_size e)) e
 exact h pins _ σ H xs _ Q I1 (by simpa using rv) hw
def yey (to ti:TE)(t:yeo):TG:=λv σ H Q=>to σ H λo H1=>ti σ H1 λi H2=>t o i v H2 λH3=>Q σ H3
theorem zjX {o i:Expr}{to ti:TE}{t:yeo}(ho:PE X o to)(hi:PE X i ti)(hs:yeq X t)
  (ha:∀v,assign (.Subscript o i pos) X.env v=(do
   let ov <- holding [v] (eval o X.env)
   let iv <- holding [v,ov] (eval i X.env)
   standAt pos
   holding [v,ov,iv] (setItem ov iv v)
   release [v,ov,iv] []):=by intro _;rfl):PG X (.Subscript o i pos) (yey to ti t):=by
 intro pins s σ H v u Q I r h
 rw[ha]
 refine wpAny_bind (wpAny_holding (thn (ho pins s σ H _ I h) λov s1 ⟨x,H1,I1,r1,q1⟩=>?_))
 refine wpAny_bind (wpAny_holding (thn (hi pins s1 σ H1 _ I1 q1) λiv s2 ⟨y,H2,I2,r2,q2⟩=>?_))
 refine wpAny_bind (wpAny_standAt (wpAny_bind (wpAny_holding (thn (hs pins s2 σ H2 x y v ov iv u _ I2 r1 r2 r q2) λ_ s3 ⟨H3,I3,q3⟩=>?_))))
 exact wpAny_release ⟨σ,H3,I3,q3⟩
def yeh (te:TE)(g:TG):TS:=λD σ H=>te σ H λx H1=>g x σ H1 D.nx
theorem zjZ {tg e:Expr}{te:TE}{g:TG}(he:PE X e te)(hg:PG X tg g)(hs:swapsWithSole [tg] e pos.line X.env=pure false:=by rfl)(hw:swappedStores [tg] e X.env=pure none:=by rfl)
  (h1:(assignEach [tg] X.env).map (·.2)=[assign tg X.env]:=by rfl):PS X (.Assign [tg] e pos) (yeh te g):=by
 intro pins s σ H D I h
 refine wpAny_Assign_stores (thn (he pins s σ H _ I h) λv s1 ⟨x,H1,I1,r1,q1⟩=>?_) hs hw
 rw[h1]
 exact thn (hg pins s1 σ H1 x v _ I1 r1 q1) λ_ s2 q=>q
theorem zmY {i:Nat}{x:Str}{e:Expr}{te:TE}{pos':Pos}(hN:X.N.Nodup)(hi:X.N[i]?=some x)(hx:Loc X.env.scope x)(he:PE X e te)(hs:swapsWith e (some (.Name x pos')) pos.line X.env=pure false:=by rfl)(hf:X.fn x=true \/ X.env.scope.names.lookup x=some .local:=by first|exact .inl rfl|exact .inr rfl|assumption) :
  PS X (.Assign [.Name x pos'] e pos) (yeh te (yb5 i)):=by
 intro pins s σ H D I h
 refine wpAny_Assign_Name (thn (he pins s σ H _ I h) λv s1 ⟨y,H1,I1,r1,q1⟩=>?_) hs
 exact zal I1 hN hi hx r1 (λs2 I2=>⟨_,H1,I2,q1⟩) hf
def yeu (i j:Nat)(ta:TA):TS:=λD σ H=>ta σ H λvs H1=>∃v w,vs=[v,w]/\D.nx ((σ.set i (some v)).set j (some w)) H1
theorem zmC {i j:Nat}{x y:Str}{a b:Expr}{ta:TA}{px py pt:Pos}{kt k2 pt2}(hc:X.calm=true)(hN:X.N.Nodup)(hi:X.N[i]?=some x)(hj:X.N[j]?=some y)(hij:i≠j)
  (hx:X.env.scope.names.lookup x=some .local) (hy:X.env.scope.names.lookup y=some .local) (ha:PA X [a,b] ta)
  (hw:swappedStores [.Tuple [.Name x px,.Name y py] kt pt] (.Tuple [a,b] k2 pt2) X.env=pure (some [x,y]))
  (hs:swapsWithSole [.Tuple [.Name x px,.Name y py] kt pt] (.Tuple [a,b] k2 pt2) pos.line X.env=pure false:=by rfl) :
  PS X (.Assign [.Tuple [.Name x px,.Name y py] kt pt] (.Tuple [a,b] k2 pt2) pos) (yeu i j ta):=by
 intro pins s σ H D I h
 rw[exec_Assign_arm]
 refine wpAny_bind (wpAny_standAt ?_)
 rw[hs]
 refine wpAny_bind (wpAny_pure ?_)
 rw[if_neg (by decide)]
 refine wpAny_bind (Tuple_ (thn (ha _ pins s σ H _ I h) λus s1 ⟨vs,H1,I1,r1,q1⟩=>?_))
 obtain⟨v,w,e1,q1⟩:=q1
 subst e1
 obtain⟨u1,u2,rfl,rv,rw'⟩:∃u1 u2,us=[u1,u2]/\RelV v u1/\RelV w u2:=by
  cases r1 with
  |cons p q =>
   cases q with
   |cons p' q' =>
    cases q'
    exact⟨_,_,rfl,p,p'⟩
 refine wpAny_newObj_type ?_ (by show 2<=sizeLine;decide)
 have I2:Inv X pins σ H1 { s1 with heap:=s1.heap.push { cls:=.type "tuple",data:=.seq [u1,u2].toArray } }:=I1.kept (t':=s1.toks) λb o e=>Heap.get?_push_of_some _ e
 rw[hw]
 refine wpAny_bind (wpAny_pure ?_)
 show wpAny (model X.prog X.w) X.A (do rule "assign.swapped-stores";let items <- unpackItems (.ref s1.heap.objs.size) 2 none;assignInOrder [λv=>bindName X.env y v,λv=>bindName X.env x v] items.reverse;pure Flow.next) _ _ _
 refine wpAny_bind (wpAny_rule (wpAny_bind (unpackItems_tuple (items:=#[u1,u2]) (I.ok.hd hc) (IsTup.new s1.heap _) λh' hx'=>?_)))
 have I3:=I2.kept (h':=h') (t':=s1.toks) λb o e=>hx' b o (Nat.ne_of_lt (Heap.lt_size e)) e
 show wpAny _ _ (assignInOrder [λv=>bindName X.env y v,λv=>bindName X.env x v] [u2,u1] >>= λ_=>pure Flow.next) _ _ _
 refine wpAny_bind (assignInOrder_cons (wpAny_bindName (zal I3 hN hj (.inl hy) rw' (λs2 I4=>?_) (.inr hy))))
 refine assignInOrder_cons (wpAny_bindName (zal I4 hN hi (.inl hx) rv (λs3 I5=>assignInOrder_nil (wpAny_pure ?_)) (.inr hx)))
 rw[List.set_comm _ _ (Ne.symm hij)]at I5
 exact⟨_,H1,I5,q1⟩
def ygb (i:Nat)(te:TE)(ti:TIp):TS:=λD σ H=>∃x,σ[i]?=some (some x)/\te σ H λy H1=>ti x y H1 λz H2=>D.nx (σ.set i (some z)) H2
theorem zj9 {i:Nat}{x:Str}{e:Expr}{te:TE}{op:Operator}{ti:TIp}{pos':Pos}(hN:X.N.Nodup)(hi:X.N[i]?=some x)(hx:Loc X.env.scope x)(he:PE X e te)(ho:PIp X op ti)(hf:X.fn x=true \/ X.env.scope.names.lookup x=some .local:=by first|exact .inl rfl|exact .inr rfl|assumption) :
  PS X (.AugAssign (.Name x pos') op e pos) (ygb i te ti):=by
 intro pins s σ H D I h
 obtain⟨v,e1,h⟩:=h
 obtain⟨m,hn,hl⟩:=I.loc
 have vis:Vis X.env.scope x:=by rcases hx with k|k;exact .inl k;exact .inr (.inl k)
 obtain⟨u,r,l⟩:=hl i x v hi e1 vis
 refine wpAny_AugAssign_Name ?_
 have go:wpAny (model X.prog X.w) X.A (eval e X.env) (λw s₂=>wpAny (model X.prog X.w) X.A (inplaceOp op u w) (λr s₃=>wpAny (model X.prog X.w) X.A (storeName X.env x r) (λ_=>SP X pins D .next) X.xe s₃) X.xe s₂) X.xe s:=by
  refine thn (he pins s σ H _ I h) λw s1 ⟨y,H1,I1,r1,q1⟩=>?_
  refine thn (ho pins s1 σ H1 v y u w _ I1 r r1 q1) λz s2 ⟨zv,H2,I2,r2,q2⟩=>?_
  exact zal I2 hN hi hx r2 (λs3 I3=>⟨_,H2,I3,q2⟩) hf
 rcases l with⟨hk,hm⟩|⟨hk,c,hc,hcell⟩
 ·exact wpAny_loadName_local I.ok.kind hk hn hm go
 ·rcases hk with hk|hk
  ·exact wpAny_loadName_cell I.ok.kind hk hc hcell go
  ·rcases hx with k|k
   ·have:X.env.scope.names.lookup x=some .free:=hk
    rw[k]at this;cases this
   ·have:X.env.scope.names.lookup x=some .free:=hk
    rw[k]at this;cases this
def ipI (f:Int->Int->Int):TIp:=λx y H Q=>∃i j,x=.int i/\y=.int j/\Q (.int (f i j)) H
theorem zmt:PIp X .Add (ipI λi j=>i+j):=by
 intro pins s σ H x y v u Q I r1 r2 h
 obtain⟨i,j,e1,e2,q⟩:=h
 subst e1;subst e2
 obtain⟨t,rfl⟩:=r1
 obtain⟨t',rfl⟩:=r2
 exact iadd_int ⟨.int _,H,I.tok _,⟨_,rfl⟩,q⟩
end
section
variable {X:Cx}{pos:Pos}
def yc0 (c:TT)(tb:TS):TS:=λD σ H=>∃W:Nat->St->Hp->Prop,(∃m,W m σ H)/\∀m σ H,W m σ H ->
 c σ H λb H1=>if b=true then ∃N:St->Hp->Prop,(∀σ' H',N σ' H'->∃m',m' < m/\W m' σ' H')/\tb { D with nx:=N,ct:=N,bk:=D.nx } σ H1 else D.nx σ H1
theorem zjn {c:Expr}{body:List Stmt}{tc:TT}{tb:TS}(hp:PassesOwn (model X.prog X.w) X.A X.env X.xe)(hc:PT X c tc)(hb:PSs X body tb):PS X (.While c body [] pos) (yc0 tc tb):=by
 intro pins s σ H D I h
 obtain⟨W,⟨m0,w0⟩,turn⟩:=h
 refine wpAny_While (codeAny_whileLoop (λn s'=>∃σ' H',Inv X pins σ' H' s'/\W n σ' H') ?_ m0 ⟨σ,H,I,w0⟩)
 rintro n s1 ⟨σ1,H1,I1,w1⟩
 refine wpAny_passesOwn hp (thn (hc pins s1 σ1 H1 _ I1 (turn n σ1 H1 w1)) λb s2 ⟨H2,I2,q2⟩=>?_)
 cases b with
 |true =>
  obtain⟨N,hN,q2⟩:=q2
  rw[if_pos rfl]
  refine wpAny_passesOwn hp (thn (hb pins s2 σ1 H2 _ I2 q2) λf s3 q3=>?_)
  cases f with
  |next =>
   obtain⟨σ3,H3,I3,n3⟩:=q3
   obtain⟨m',hm,w3⟩:=hN σ3 H3 n3
   exact⟨m',hm,σ3,H3,I3,w3⟩
  |cont =>
   obtain⟨σ3,H3,I3,n3⟩:=q3
   obtain⟨m',hm,w3⟩:=hN σ3 H3 n3
   exact⟨m',hm,σ3,H3,I3,w3⟩
  |brk=>exact q3
  |ret v=>exact q3
 |false =>
  rw[if_neg Bool.false_ne_true]
  exact wpAny_execs_nil ⟨σ1,H2,I2,q2⟩
end
structure It where
 go:Nat->Hp->Prop
 yld:Nat->Hp->V->Hp->Prop
 stop:Nat->Hp->Prop
def ya9 (X:Cx)(pins:List (Addr×Obj))(H:Hp)(b:Addr):Prop :=
 H b=none/\b≠X.env.locals/\b∉X.fs/\(b∈X.ex \/ X.s₀.heap.objs.size<=b)/\(∀x c,X.env.cells.lookup x=some c->c≠b)/\∀p∈X.pn++pins,p.1≠b
theorem Inv.fpOk {X:Cx}{pins:List (Addr×Obj)}{σ:St}{H H':Hp}{s:Shared}{b:Addr}(I:Inv X pins σ H s)(hb:s.heap.objs.size<=b)(hn:H' b=none):ya9 X pins H' b:=by
 refine⟨hn,Nat.ne_of_gt (Nat.lt_of_lt_of_le I.lt hb),I.nofs hb,.inr (Nat.le_trans I.sz hb),λx c e z=>?_,λp hp z=>?_⟩
 ·obtain⟨v,q⟩:=I.cell x c e
  exact absurd (Nat.lt_of_lt_of_le q.lt (by rw[z];exact hb)) (Nat.lt_irrefl _)
 ·exact absurd (Nat.lt_of_lt_of_le (Heap.lt_size (I.pin p hp).1) (by rw[z];exact hb)) (Nat.lt_irrefl _)
structure Turn (P:Program)(w:World)(K:PySem.W.Frag)(tg:Expr)(J:It)(fp:List Addr)(it:Addr)(tn:Nat->Heap->Prop):Prop where
 mem:it∈fp
 obj:∀i h,tn i h->∀b∈fp,∃o,h.get? b=some o/\∀v,o.data ≠ .cell v
 keep:∀i h h',tn i h->(∀b∈fp,∀o,h.get? b=some o->h'.get? b=some o)->tn i h'
 item:∀(X:Cx),X.prog=P->X.w=w->X.K=K->X.calm=true->∀(i:Nat) (pins:List (Addr×Obj)) (s:Shared) (σ:St) (H:Hp) (E:Value->Shared->Prop),Inv X pins σ H s->(∀b∈fp,ya9 X pins H b)->tn i s.heap->J.go i H ->
  wpAny (model P w) X.A (pyNext (.ref it)) (λr s1=>∃u,r=some u /\
   wpAny (model P w) X.A (letOwnedTupleGo tg (.ref it) u) (λ_ s2=>∃x H',Inv X pins σ H' s2/\RelV x u/\J.yld i H x H'/\tn (i+1) s2.heap/\∀b∈fp,H' b=none) E s1) E s
 done:∀(X:Cx),X.prog=P->X.w=w->X.K=K->X.calm=true->∀(i:Nat) (pins:List (Addr×Obj)) (s:Shared) (σ:St) (H:Hp) (E:Value->Shared->Prop),Inv X pins σ H s->(∀b∈fp,ya9 X pins H b)->tn i s.heap->J.stop i H ->
  wpAny (model P w) X.A (pyNext (.ref it)) (λr s1=>r=none/\Inv X pins σ H s1) E s
 self:∀(A:Around) (i:Nat) (s:Shared) (Q:Value->Shared->Prop) (E:Value->Shared->Prop),tn i s.heap->Q (.ref it) s->wpAny (model P w) A (pyIter (.ref it)) Q E s
abbrev TI:=St->Hp->(It->Hp->Prop)->Prop
def PIE (X:Cx)(pins:List (Addr×Obj))(σ:St)(tg:Expr)(R:It->Hp->Prop)(itv:Value)(s2:Shared):Prop :=
 ∃(it:Addr) (fp:List Addr) (tn:Nat->Heap->Prop) (J:It) (H':Hp),itv=.ref it/\Inv X pins σ H' s2/\Turn X.prog X.w X.K tg J fp it tn/\tn 0 s2.heap/\(∀b∈fp,ya9 X pins H' b)/\R J H'
def PI (X:Cx)(tg iter:Expr)(wi:TI):Prop :=
 ∀(pins:List (Addr×Obj)) (s:Shared) (σ:St) (H:Hp) (R:It->Hp->Prop),Inv X pins σ H s->wi σ H R ->
  wpAny (model X.prog X.w) X.A (eval iter X.env) (λv s1=>wpAny (model X.prog X.w) X.A (pyIter v) (PIE X pins σ tg R) X.xe s1) X.xe s
theorem zje {M:Model}{A:Around}{E:Value->Shared->Prop}{s:Shared}{tg:Expr}{it:Addr}{u:Value}{o:Obj}{n:String}{vs:Array Value}{Q:Unit->Shared->Prop}(ho:s.heap.get? it=some o)(hc:o.cls=.type n)(hd:o.data=.fields vs)
  (hn:["enumerate","zip","dict_itemiterator","dict_reverseitemiterator","odict_iterator","itertools.zip_longest","itertools.pairwise"].contains n=false) (hQ:Q () s):wpAny M A (letOwnedTupleGo tg (.ref it) u) Q E s:=by
 unfold letOwnedTupleGo
 cases tg <;> first
  | exact wpAny_pure hQ
  | (cases u <;> first
    | exact wpAny_pure hQ
    | (refine wpAny_bind (wpAny_load ho ?_)
       rw[hc,hd]
       show wpAny M A (if (["enumerate","zip","dict_itemiterator","dict_reverseitemiterator","odict_iterator","itertools.zip_longest","itertools.pairwise"].contains n && vs[0]? == some (rawInt _))=true then _ else _) Q E s
       rw[if_neg (by intro h;rw[hn,Bool.false_and]at h;cases h)]
       exact wpAny_pure hQ))
def Itl (K:PySem.W.Frag)(a:Addr):It :=
 ⟨λi H=>∃xs x,SqL K H a xs/\xs[i]?=some x,λi H x H'=>H'=H/\∀xs,SqL K H a xs->xs[i]?=some x,λi H=>∃xs,SqL K H a xs/\xs.length<=i⟩
def Itt (K:PySem.W.Frag)(a:Addr):It :=
 ⟨λi H=>∃xs x,SqT K H a xs/\xs[i]?=some x,λi H x H'=>H'=H/\∀xs,SqT K H a xs->xs[i]?=some x,λi H=>∃xs,SqT K H a xs/\xs.length<=i⟩
def Itr (lo:Int)(n:Nat):It:=⟨λi _=>i<n,λi H x H'=>H'=H/\x=.int (lo+i),λi _=>n<=i⟩
theorem zhM {P:Program}{w:World}{K:PySem.W.Frag}{tg:Expr}(a it:Addr):Turn P w K tg (Itl K a) [it] it (λi h=>h.IsListIter it a i) where
 mem:=by simp
 obj:=λi h st b hb=>by
  have e:b=it:=by simpa using hb
  subst e
  obtain⟨o,e,c,d⟩:=st
  exact⟨o,e,λv z=>by rw[d]at z;cases z⟩
 keep:=λi h h' st k=>st.at λo e=>k it (by simp) o e
 item:=by
  intro X hP hw hK hc i pins s σ H E I hf st hg
  subst hP hw hK
  obtain⟨xs,x,hq,hx⟩:=hg
  obtain⟨its,rv,p,hz⟩:=I.list hq
  obtain⟨u,hu,ru⟩:=rv.get hx
  obtain⟨f0,f1,f2,f3,f4,f5⟩:=hf it (by simp)
  refine wpAny_pyNext_list_item st p.isList (x:=u) (by simpa using hu) λh' st' sb=>?_
  have I1:Inv X pins σ H { s with heap:=h' }:=I.turned (t':=s.toks) (λb o hb e=>(sb.2 b hb).trans e) f0 f1 f3 f4 f5
  obtain⟨o,e,c,d⟩:=id st'
  exact⟨u,rfl,zje (s:={ s with heap:=h' }) e c d (by decide) ⟨x,H,I1,ru,⟨rfl,λys hy=>by rw[I.list_inj hy hq];exact hx⟩,st',λb hb=>(hf b hb).1⟩⟩
 done:=by
  intro X hP hw hK hc i pins s σ H E I hf st hg
  subst hP hw hK
  obtain⟨xs,hq,hx⟩:=hg
  obtain⟨its,rv,p,hz⟩:=I.list hq
  obtain⟨f0,f1,f2,f3,f4,f5⟩:=hf it (by simp)
  have hl:=rv.length
  exact wpAny_pyNext_list_end (I.ok.hd hc) st p.isList (by simp;omega) λh' eb=>⟨rfl,I.turned (t':=s.toks) (λb o hb e=>eb b o hb e) f0 f1 f3 f4 f5⟩
 self:=λ_ _ _ _ _ st h=>wpAny_pyIter_listiter st h
theorem zgi {P:Program}{w:World}{K:PySem.W.Frag}{tg:Expr}(a it:Addr):Turn P w K tg (Itt K a) [it] it (λi h=>h.IsTupleIter it a i) where
 mem:=by simp
 obj:=λi h st b hb=>by
  have e:b=it:=by simpa using hb
  subst e
  obtain⟨o,e,c,d⟩:=st
  exact⟨o,e,λv z=>by rw[d]at z;cases z⟩
 keep:=λi h h' st k=>st.at λo e=>k it (by simp) o e
 item:=by
  intro X hP hw hK hc i pins s σ H E I hf st hg
  subst hP hw hK
  obtain⟨xs,x,hq,hx⟩:=hg
  obtain⟨its,rv,p,hz⟩:=I.tuple hq
  obtain⟨u,hu,ru⟩:=rv.get hx
  obtain⟨f0,f1,f2,f3,f4,f5⟩:=hf it (by simp)
  refine wpAny_pyNext_tuple_item st (show s.heap.IsTuple a its.toArray from p) (x:=u) (by simpa using hu) λh' st' sb=>?_
  have I1:Inv X pins σ H { s with heap:=h' }:=I.turned (t':=s.toks) (λb o hb e=>(sb.2 b hb).trans e) f0 f1 f3 f4 f5
  obtain⟨o,e,c,d⟩:=id st'
  exact⟨u,rfl,zje (s:={ s with heap:=h' }) e c d (by decide) ⟨x,H,I1,ru,⟨rfl,λys hy=>by rw[I.tuple_inj hy hq];exact hx⟩,st',λb hb=>(hf b hb).1⟩⟩
 done:=by
  intro X hP hw hK hc i pins s σ H E I hf st hg
  subst hP hw hK
  obtain⟨xs,hq,hx⟩:=hg
  obtain⟨its,rv,p,hz⟩:=I.tuple hq
  obtain⟨f0,f1,f2,f3,f4,f5⟩:=hf it (by simp)
  have hl:=rv.length
  exact wpAny_pyNext_tuple_end (I.ok.hd hc) st (show s.heap.IsTuple a its.toArray from p) (by simp;omega) λh' eb=>⟨rfl,I.turned (t':=s.toks) (λb o hb e=>eb b o hb e) f0 f1 f3 f4 f5⟩
 self:=λ_ _ _ _ _ st h=>wpAny_pyIter_tupleiter st h
theorem zf6 {P:Program}{w:World}{K:PySem.W.Frag}{tg:Expr}(it:Addr)(lo:Int)(n:Nat):Turn P w K tg (Itr lo n) [it] it (λi h=>IsRangeIter h it (lo+(i:Nat)*1) ((n:Int) - (i:Nat)) 1) where
 mem:=by simp
 obj:=λi h st b hb=>by
  have e:b=it:=by simpa using hb
  subst e
  exact⟨_,st,λv z=>by
   have z':Data.fields _=Data.cell v:=z
   cases z'⟩
 keep:=λi h h' st k=>k it (by simp) _ st
 item:=by
  intro X hP hw hK hc i pins s σ H E I hf st hg
  subst hP hw hK
  obtain⟨f0,f1,f2,f3,f4,f5⟩:=hf it (by simp)
  have W:=Walks.range (prog:=X.prog) (w:=X.w) (I.ok.hd hc) it lo 1 n
  refine W.item i s _ _ hg st λv h' tk hv st' kk=>?_
  obtain⟨t,rfl⟩:=hv
  have I1:Inv X pins σ H { s with heap:=h',toks:=tk }:=I.turned (λb o hb e=>kk b o (by simpa using hb) e) f0 f1 f3 f4 f5
  refine⟨_,rfl,zje (s:={ s with heap:=h',toks:=tk }) (n:="range_iterator") st' rfl rfl (by decide) ⟨.int (lo+i),H,I1,⟨t,?_⟩,⟨rfl,rfl⟩,st',λb hb=>(hf b hb).1⟩⟩
  rw[Int.mul_one]
 done:=by
  intro X hP hw hK hc i pins s σ H E I hf st hg
  subst hP hw hK
  obtain⟨f0,f1,f2,f3,f4,f5⟩:=hf it (by simp)
  exact wpAny_pyNext_range_end (I.ok.hd hc) st (by have:n<=i:=hg;omega) λh' eb=>⟨rfl,I.turned (t':=s.toks) (λb o hb e=>eb b o hb e) f0 f1 f3 f4 f5⟩
 self:=λ_ _ _ _ _ st h=>wpAny_pyIter_rangeiter st h
section
variable {X:Cx}{tg:Expr}
theorem zfG {pins:List (Addr×Obj)}{σ:St}{H:Hp}{s:Shared}{R:It->Hp->Prop}{E:Value->Shared->Prop}{lo hi:Int}{t u v:Tok}{tk:Nat}(I:Inv X pins σ H s)(h1:-(2^62)<=lo)(h2:lo<2^62)(h3:-(2^62)<=hi)(h4:hi<2^62)
  (q:R (Itr lo (hi - lo).toNat) H):wpAny (model X.prog X.w) X.A (pyIter (.ref s.heap.objs.size)) (PIE X pins σ tg R) E { s with heap:=s.heap.push { cls:=.type "range",data:=.fields #[.int lo t,.int hi u,.int 1 v] },toks:=tk }:=by
 refine wpAny_pyIter_range (IsRange.new ..) (small_one h1 h2 h3 h4) ?_
 have I1:Inv X pins σ H { s with heap:=s.heap.push { cls:=.type "range",data:=.fields #[.int lo t,.int hi u,.int 1 v] },toks:=tk }:=I.kept λb o e=>Heap.get?_push_of_some _ e
 refine⟨(s.heap.push { cls:=.type "range",data:=.fields #[.int lo t,.int hi u,.int 1 v] }).objs.size,[(s.heap.push { cls:=.type "range",data:=.fields #[.int lo t,.int hi u,.int 1 v] }).objs.size],_,_,H,rfl,
  I1.kept (t':=tk) λb o e=>Heap.get?_push_of_some _ e,zf6 _ lo (hi - lo).toNat,?_,λb hb=>?_,q⟩
 ·have e1:lo+((0:Nat):Int)*1=lo:=by simp
  have e2:(((hi - lo).toNat:Nat):Int) - ((0:Nat):Int)=Builtin.Range.rangeSize lo hi 1:=by rw[rangeSize_one];split <;> omega
  show IsRangeIter _ _ (lo+((0:Nat):Int)*1) ((((hi - lo).toNat:Nat):Int) - ((0:Nat):Int)) 1
  rw[e1,e2]
  exact Heap.get?_push_size _ rfl
 ·have e:b=(s.heap.push { cls:=.type "range",data:=.fields #[.int lo t,.int hi u,.int 1 v] }).objs.size:=by simpa using hb
  subst e
  exact I1.fpOk (Nat.le_refl _) (I1.hok.fresh (Nat.le_refl _))
def ydM (ta:TA):TI:=λσ H R=>ta σ H λvs H1=>∃j:Int,vs=[.int j]/\-(2^62)<=j/\j<2^62/\R (Itr 0 j.toNat) H1
def yel (ta:TA):TI:=λσ H R=>ta σ H λvs H1=>∃i j:Int,vs=[.int i,.int j]/\(-(2^62)<=i/\i<2^62/\-(2^62)<=j/\j<2^62)/\R (Itr i (j - i).toNat) H1
theorem zhE {a:Expr}{ta:TA}{p pos:Pos}(hg:Gl X "range")(hm:X.mg "range"=none)(ha:PA X [a] ta)(hs:starEach [a] X.env=[(false,eval a X.env)]:=by rfl):PI X tg (.Call (.Name "range" p) [a] [] pos) (ydM ta):=by
 intro pins s σ H R I h
 refine Call_ (zbf I hg hm boot_range (PyProof.Rows.callWith_type1 (thn (ha pos pins s σ H _ I h) λus s1 ⟨vs,H1,I1,r1,q1⟩=>?_) hs rfl))
 obtain⟨j,e,q1,q2,q⟩:=q1
 subst e
 cases r1 with
 |cons r rr =>
  cases rr
  obtain⟨t,rfl⟩:=r
  exact call_range_1 (zfG I1 (by omega) (by omega) q1 q2 (by simpa using q))
theorem zhc {a b:Expr}{ta:TA}{p pos:Pos}(hg:Gl X "range")(hm:X.mg "range"=none)(ha:PA X [a,b] ta)(hs:starEach [a,b] X.env=[(false,eval a X.env),(false,eval b X.env)]:=by rfl)(hs2:starEach [b] X.env=[(false,eval b X.env)]:=by rfl) :
  PI X tg (.Call (.Name "range" p) [a,b] [] pos) (yel ta):=by
 intro pins s σ H R I h
 refine Call_ (zbf I hg hm boot_range (PyProof.Rows.callWith_type1 (thn (ha pos pins s σ H _ I h) λus s1 ⟨vs,H1,I1,r1,q1⟩=>?_) (by rw[hs,hs2]) (by rw[hs2];rfl)))
 obtain⟨i,j,e,⟨q1,q2,q3,q4⟩,q⟩:=q1
 subst e
 cases r1 with
 |cons r rr =>
  cases rr with
  |cons r' rr =>
   cases rr
   obtain⟨t,rfl⟩:=r
   obtain⟨t',rfl⟩:=r'
   exact call_range_2 (zfG I1 q1 q2 q3 q4 q)
def yfX (wi:TI)(g:TG)(tb:TS):TS:=λD σ H=>wi σ H λJ H1=>∃W:Nat->Nat->St->Hp->Prop,(∃m,W 0 m σ H1)/\∀i m σ H,W i m σ H ->
 (J.stop i H/\D.nx σ H) \/ (J.go i H/\∃N:St->Hp->Prop,(∀σ' H',N σ' H'->∃m',m' < m/\W (i+1) m' σ' H')/\∀x H',J.yld i H x H'->g x σ H' λσ2 H2=>tb { D with nx:=N,ct:=N,bk:=D.nx } σ2 H2)
def ya6 (fp:List Addr)(h:Heap):List (Addr×Obj):=fp.filterMap λb=>(h.get? b).map λo=>(b,o)
theorem zak {fp:List Addr}{h:Heap}{b:Addr}{o:Obj}(hb:b∈fp)(e:h.get? b=some o):(b,o)∈ya6 fp h:=List.mem_filterMap.mpr ⟨b,hb,by rw[e];rfl⟩
theorem zgS {fp:List Addr}{h:Heap}{p:Addr×Obj}(hp:p∈ya6 fp h):p.1∈fp/\h.get? p.1=some p.2:=by
 obtain⟨b,hb,e⟩:=List.mem_filterMap.mp hp
 cases q:h.get? b with
 |none=>rw[q]at e;cases e
 |some o =>
  rw[q]at e
  have e':(b,o)=p:=Option.some.inj e
  subst e'
  exact⟨hb,q⟩
theorem Inv.pinned {pins:List (Addr×Obj)}{σ:St}{H:Hp}{s:Shared}{fp:List Addr}(I:Inv X pins σ H s)(hf:∀b∈fp,ya9 X pins H b)(ho:∀b∈fp,∃o,s.heap.get? b=some o/\∀v,o.data ≠ .cell v):Inv X (pins++ya6 fp s.heap) σ H s :=
 I.pins_of λp hp=>(List.mem_append.mp hp).elim (λz=>I.pin p (List.mem_append_right _ z)) λz=>by
  obtain⟨hb,e⟩:=zgS z
  obtain⟨f0,f1,f2,_⟩:=hf p.1 hb
  obtain⟨o,e',d⟩:=ho p.1 hb
  rw[e]at e';cases e'
  exact⟨e,f0,f1,f2,d⟩
theorem Inv.unpinned {pins pl:List (Addr×Obj)}{σ:St}{H:Hp}{s:Shared}(I:Inv X (pins++pl) σ H s):Inv X pins σ H s:=I.pins_of λp hp=>I.pin p (List.mem_append_right _ (List.mem_append_left _ hp))
theorem zns {iter:Expr}{body:List Stmt}{wi:TI}{g:TG}{tb:TS}{pos:Pos}(hp:PassesOwn (model X.prog X.w) X.A X.env X.xe)(hc:X.calm=true)(hi:PI X tg iter wi)(hg:PG X tg g)(hb:PSs X body tb)
  (hs:∀x,foldedSetIterable iter X.env x=pure x:=by intro _;rfl):PS X (.For tg iter body [] pos) (yfX wi g tb):=by
 intro pins s σ H D I h
 refine wpAny_For (thn (hi pins s σ H _ I h) λv s1 h1=>thn h1 λitv s2 h2=>?_) hs
 obtain⟨it,fp,tn,J,H2,e,I2,T,st2,f2,W,⟨m0,w0⟩,turn⟩:=h2
 subst e
 have stat:∀{H':Hp},(∀b∈fp,H' b=none)->∀b∈fp,ya9 X pins H' b:=λhn b hb=>⟨hn b hb,(f2 b hb).2⟩
 refine codeAny_forLoop_any (λn s'=>∃i σ' H',Inv X pins σ' H' s'/\tn i s'.heap/\(∀b∈fp,H' b=none)/\W i n σ' H') ?_ m0 ⟨0,σ,H2,I2,st2,λb hb=>(f2 b hb).1,w0⟩
 rintro n s3 ⟨i,σ3,H3,I3,st3,fr3,w3⟩
 rcases turn i n σ3 H3 w3 with⟨stop,qn⟩|⟨go,N,hN,step⟩
 ·refine wpAny_passesOwn hp (thn (T.done X rfl rfl rfl hc i pins s3 σ3 H3 X.xe I3 (stat fr3) st3 stop) λr s4 ⟨hr,I4⟩=>?_)
  subst hr
  exact wpAny_execs_nil ⟨σ3,H3,I4,qn⟩
 ·refine wpAny_passesOwn hp (thn (T.item X rfl rfl rfl hc i pins s3 σ3 H3 X.xe I3 (stat fr3) st3 go) λr s4 ⟨u,hr,h4⟩=>?_)
  subst hr
  refine wpAny_passesOwn hp (thn h4 λ_ s5 ⟨x,H5,I5,r5,y5,st5,fr5⟩=>?_)
  have I5':=I5.pinned (stat fr5) (T.obj _ _ st5)
  refine wpAny_passesOwn hp (thn (hg _ s5 σ3 H5 x u _ I5' r5 (step x H5 y5)) λ_ s6 ⟨σ6,H6,I6,q6⟩=>?_)
  refine wpAny_passesOwn hp (thn (hb _ s6 σ6 H6 _ I6 q6) λf s7 q7=>?_)
  have again:∀{σ7:St} {H7:Hp},Inv X (pins++ya6 fp s5.heap) σ7 H7 s7->N σ7 H7->∃m,m<n/\∃i σ' H',Inv X pins σ' H' s7/\tn i s7.heap/\(∀b∈fp,H' b=none)/\W i m σ' H':=λ{σ7 H7} I7 n7=>by
   obtain⟨m',hm,w7⟩:=hN σ7 H7 n7
   refine⟨m',hm,i+1,σ7,H7,I7.unpinned,T.keep _ _ _ st5 λb hb o e=>(I7.pin (b,o) (List.mem_append_right _ (List.mem_append_right _ (zak hb e)))).1,λb hb=>?_,w7⟩
   obtain⟨o,e,d⟩:=T.obj _ _ st5 b hb
   exact(I7.pin (b,o) (List.mem_append_right _ (List.mem_append_right _ (zak hb e)))).2.1
  cases f with
  |next=>obtain⟨σ7,H7,I7,n7⟩:=q7;exact again I7 n7
  |cont=>obtain⟨σ7,H7,I7,n7⟩:=q7;exact again I7 n7
  |brk=>obtain⟨σ7,H7,I7,q7⟩:=q7;exact⟨σ7,H7,I7.unpinned,q7⟩
  |ret v=>obtain⟨x7,σ7,H7,I7,r7,q7⟩:=q7;exact⟨x7,σ7,H7,I7.unpinned,r7,q7⟩
end
abbrev R2:=V->V->Hp->VK->Prop
def OpR (X:Cx)(f:Value->Value->Sem Value)(r:R2):Prop :=
 ∀(pins:List (Addr×Obj)) (s:Shared) (σ:St) (H:Hp) (x y:V) (v u:Value) (Q:VK),Inv X pins σ H s->RelV x v->RelV y u->r x y H Q ->
  wpAny (model X.prog X.w) X.A (f v u) (EP X pins σ Q) X.xe s
def UnR (X:Cx)(f:Value->Sem Value)(r:V->Hp->VK->Prop):Prop :=
 ∀(pins:List (Addr×Obj)) (s:Shared) (σ:St) (H:Hp) (x:V) (v:Value) (Q:VK),Inv X pins σ H s->RelV x v->r x H Q ->
  wpAny (model X.prog X.w) X.A (f v) (EP X pins σ Q) X.xe s
def yaa (X:Cx)(f:Value)(r:List V->Hp->VK->Prop):Prop :=
 ∀(pins:List (Addr×Obj)) (s:Shared) (σ:St) (H:Hp) (xs:List V) (us:List Value) (Q:VK),Inv X pins σ H s->Vals xs us->r xs H Q ->
  wpAny (model X.prog X.w) X.A (call f us) (EP X pins σ Q) X.xe s
def ygy (X:Cx)(r:V->Hp->(Bool->Hp->Prop)->Prop):Prop :=
 ∀(pins:List (Addr×Obj)) (s:Shared) (σ:St) (H:Hp) (x:V) (v:Value) (Q:Bool->Hp->Prop),Inv X pins σ H s->RelV x v->r x H Q ->
  wpAny (model X.prog X.w) X.A (truthy v) (TP X pins σ Q) X.xe s
def tOp (r:R2)(ta tb:TE):TE:=λσ H Q=>ta σ H λx H1=>tb σ H1 λy H2=>r x y H2 Q
def tUn (r:V->Hp->VK->Prop)(ta:TE):TE:=λσ H Q=>ta σ H λx H1=>r x H1 Q
def rI (C:Int->Int->Prop)(g:Int->Int->V):R2:=λx y H Q=>∃i j,x=.int i/\y=.int j/\C i j/\Q (g i j) H
def rI0 (g:Int->Int->V):R2:=λx y H Q=>∃i j,x=.int i/\y=.int j/\Q (g i j) H
def rU (g:Int->V):V->Hp->VK->Prop:=λx H Q=>∃i,x=.int i/\Q (g i) H
section
variable {X:Cx}{a b c:Expr}{ta tb tc:TE}{pos:Pos}
theorem yem (ha:PE X a ta)(hb:PE X b tb){pins:List (Addr×Obj)}{s:Shared}{σ:St}{H:Hp}{R:V->V->Hp->Prop}(I:Inv X pins σ H s)
  (h:ta σ H λx H1=>tb σ H1 λy H2=>R x y H2) {Q:Value->Shared->Prop} {f:Value->Value->Sem Value}
  (hf:∀v u s2 x y H2,Inv X pins σ H2 s2->RelV x v->RelV y u->R x y H2->wpAny (model X.prog X.w) X.A (f v u) Q X.xe s2) :
  wpAny (model X.prog X.w) X.A (eval a X.env) (λv s₁=>wpAny (model X.prog X.w) X.A (eval b X.env) (λu s₂=>wpAny (model X.prog X.w) X.A (f v u) Q X.xe s₂) X.xe s₁) X.xe s:=by
 refine thn (ha pins s σ H _ I h) λv s1 ⟨x,H1,I1,r1,q1⟩=>?_
 refine thn (hb pins s1 σ H1 _ I1 q1) λu s2 ⟨y,H2,I2,r2,q2⟩=>?_
 exact hf v u s2 x y H2 I2 r1 r2 q2
theorem zoB {op:Operator}{r:R2}(ho:OpR X (binaryOp op) r)(ha:PE X a ta)(hb:PE X b tb):PE X (.BinOp a op b pos) (tOp r ta tb):=by
 intro pins s σ H Q I h
 exact wpAny_BinOp (yem ha hb I h λv u s2 x y H2 I2 rx ry q=>ho pins s2 σ H2 x y v u Q I2 rx ry q)
theorem zn1 {op:UnaryOp}{r:V->Hp->VK->Prop}(ho:UnR X (unaryOp op) r)(ha:PE X a ta):PE X (.UnaryOp op a pos) (tUn r ta):=by
 intro pins s σ H Q I h
 exact UnaryOp_ (thn (ha pins s σ H _ I h) λv s1 ⟨x,H1,I1,r1,q1⟩=>ho pins s1 σ H1 x v Q I1 r1 q1)
theorem opI {f:Value->Value->Sem Value}{C:Int->Int->Prop}{g:Int->Int->Int}
  (rule:∀(i j:Int) (t u:Tok) (s:Shared) (Q:Value->Shared->Prop) (E:Value->Shared->Prop),C i j->Q (.int (g i j) s.toks) { s with toks:=s.toks+1 }->wpAny (model X.prog X.w) X.A (f (.int i t) (.int j u)) Q E s) :
  OpR X f (rI C λi j=>.int (g i j)):=by
 intro pins s σ H x y v u Q I rx ry h
 obtain⟨i,j,rfl,rfl,hc,q⟩:=h
 obtain⟨t,rfl⟩:=rx
 obtain⟨t',rfl⟩:=ry
 exact rule i j t t' s _ _ hc ⟨.int (g i j),H,I.tok _,⟨_,rfl⟩,q⟩
theorem yc8 {f:Value->Value->Sem Value}{g:Int->Int->Int}
  (rule:∀(i j:Int) (t u:Tok) (s:Shared) (Q:Value->Shared->Prop) (E:Value->Shared->Prop),Q (.int (g i j) s.toks) { s with toks:=s.toks+1 }->wpAny (model X.prog X.w) X.A (f (.int i t) (.int j u)) Q E s) :
  OpR X f (rI0 λi j=>.int (g i j)):=by
 intro pins s σ H x y v u Q I rx ry h
 obtain⟨i,j,rfl,rfl,q⟩:=h
 obtain⟨t,rfl⟩:=rx
 obtain⟨t',rfl⟩:=ry
 exact rule i j t t' s _ _ ⟨.int (g i j),H,I.tok _,⟨_,rfl⟩,q⟩
theorem yds {f:Value->Value->Sem Value}{g:Int->Int->Bool}
  (rule:∀(i j:Int) (t u:Tok) (s:Shared) (Q:Value->Shared->Prop) (E:Value->Shared->Prop),Q (.bool (g i j)) s->wpAny (model X.prog X.w) X.A (f (.int i t) (.int j u)) Q E s) :
  OpR X f (rI0 λi j=>.bl (g i j)):=by
 intro pins s σ H x y v u Q I rx ry h
 obtain⟨i,j,rfl,rfl,q⟩:=h
 obtain⟨t,rfl⟩:=rx
 obtain⟨t',rfl⟩:=ry
 exact rule i j t t' s _ _ ⟨.bl (g i j),H,I,rfl,q⟩
def yeU (i j:Int):Prop:=0<=j/\j<=1000000/\i.natAbs<2^64
def yc5 (i j:Int):Prop:=(-(2^64)<i/\i<2^64) \/ (-(2^64)<j/\j<2^64)
theorem yc5.ok {i j:Int}(h:yc5 i j):IntMulOk i j:=by
 rcases h with⟨h1,h2⟩|⟨h1,h2⟩
 ·exact .of_left (intBits_le_64 h1 h2)
 ·exact .of_right (intBits_le_64 h1 h2)
theorem zl4:OpR X (binaryOp .Add) (rI0 λi j=>.int (i+j)):=yc8 λ_ _ _ _ _ _ _ q=>add_int q
theorem znF:OpR X (binaryOp .Sub) (rI0 λi j=>.int (i - j)):=yc8 λ_ _ _ _ _ _ _ q=>sub_int q
theorem znn:OpR X (binaryOp .Mult) (rI yc5 λi j=>.int (i*j)):=opI λ_ _ _ _ _ _ _ hc q=>mul_int q hc.ok
theorem znI:OpR X (binaryOp .Mod) (rI (λ_ j=>0<j) λi j=>.int (i%j)):=opI λi j _ _ _ _ _ hc q=>by
 have h1:(0:Int)<j:=hc
 exact mod_int' (by omega) (by rw[Int.fmod_eq_emod_of_nonneg i (by omega)];exact q)
theorem znV:OpR X (binaryOp .Pow) (rI yeU λi j=>.int (i^j.toNat)):=opI λ_ _ _ _ _ _ _ hc q=>pow_int_small hc.1 hc.2.1 hc.2.2 q
theorem zmm:OpR X (binaryOp .BitAnd) (rI0 λi j=>.int (Builtin.bitAnd i j)):=yc8 λ_ _ _ _ _ _ _ q=>and_int q
theorem zoM:OpR X (binaryOp .BitOr) (rI0 λi j=>.int (Builtin.bitOr i j)):=yc8 λ_ _ _ _ _ _ _ q=>or_int q
theorem zmf:OpR X (binaryOp .BitXor) (rI0 λi j=>.int (Builtin.bitXor i j)):=yc8 λ_ _ _ _ _ _ _ q=>xor_int q
theorem unI {f:Value->Sem Value}{g:Int->Int}
  (rule:∀(i:Int) (t:Tok) (s:Shared) (Q:Value->Shared->Prop) (E:Value->Shared->Prop),Q (.int (g i) s.toks) { s with toks:=s.toks+1 }->wpAny (model X.prog X.w) X.A (f (.int i t)) Q E s) :
  UnR X f (rU λi=>.int (g i)):=by
 intro pins s σ H x v Q I rx h
 obtain⟨i,rfl,q⟩:=h
 obtain⟨t,rfl⟩:=rx
 exact rule i t s _ _ ⟨.int (g i),H,I.tok _,⟨_,rfl⟩,q⟩
theorem zkb:UnR X (unaryOp .USub) (rU λi=>.int (-i)):=unI λ_ _ _ _ _ q=>neg_int q
theorem zhh:OpR X (binaryOp .Add) (λx y H Q=>∃i k,x=.int i/\y=.bl k/\Q (.int (i+b2i k)) H):=by
 intro pins s σ H x y v u Q I rx ry h
 obtain⟨i,k,rfl,rfl,q⟩:=h
 obtain⟨t,rfl⟩:=rx
 cases ry
 exact add_int_bool ⟨.int (i+b2i k),H,I.tok _,⟨_,rfl⟩,q⟩
end
section
variable {X:Cx}{a b c:Expr}{ta tb tc:TE}{pos:Pos}
theorem zcm {pins:List (Addr×Obj)}{σ:St}{H:Hp}{s:Shared}{Q:VK}{k k':Bool}(I:Inv X pins σ H s)(q:Q (.bl k) H)(e:k=k'):EP X pins σ Q (.bool k') s:=by
 subst e
 exact⟨.bl k,H,I,rfl,q⟩
theorem zot:OpR X (compareOp .Lt) (rI0 λi j=>.bl (decide (i<j))):=yds λ_ _ _ _ _ _ _ q=>lt_int q
theorem zoI:OpR X (compareOp .LtE) (rI0 λi j=>.bl (decide (i<=j))):=yds λ_ _ _ _ _ _ _ q=>le_int q
theorem zol:OpR X (compareOp .Gt) (rI0 λi j=>.bl (decide (j<i))):=yds λ_ _ _ _ _ _ _ q=>gt_int q
theorem zoF:OpR X (compareOp .GtE) (rI0 λi j=>.bl (decide (j<=i))):=yds λ_ _ _ _ _ _ _ q=>ge_int q
theorem zht:OpR X (compareOp .Lt) (λx y H Q=>∃i j,x=.str i/\y=.str j/\Q (.bl (decide (i.cps.toList<j.cps.toList))) H):=by
 intro pins s σ H x y v u Q I rx ry h
 obtain⟨i,j,rfl,rfl,q⟩:=h
 obtain⟨t,rfl⟩:=rx
 obtain⟨t',rfl⟩:=ry
 exact lt_str (zcm I q rfl)
theorem zhR:OpR X (compareOp .In) (λx y H Q=>∃i j,x=.str i/\y=.str j/\Q (.bl (!(Builtin.Str.occurrences j i 0 j.length 1).isEmpty)) H):=by
 intro pins s σ H x y v u Q I rx ry h
 obtain⟨i,j,rfl,rfl,q⟩:=h
 obtain⟨t,rfl⟩:=rx
 obtain⟨t',rfl⟩:=ry
 exact in_str (zcm I q rfl)
theorem zn9:OpR X (compareOp .Is) (λx y H Q=>y=.non/\Q (.bl (decide (x=.non))) H):=by
 intro pins s σ H x y v u Q I rx ry h
 obtain⟨rfl,q⟩:=h
 cases ry
 refine is_none_gen (zcm I q ?_)
 cases x <;> first
  | (cases rx;rfl)
  | (obtain⟨t,rfl⟩:=rx;rfl)
theorem zdJ:OpR X (compareOp .NotIn) (λx y H Q=>∃i j,x=.str i/\y=.str j/\Q (.bl (!(!(Builtin.Str.occurrences j i 0 j.length 1).isEmpty))) H):=by
 intro pins s σ H x y v u Q I rx ry h
 obtain⟨i,j,rfl,rfl,q⟩:=h
 obtain⟨t,rfl⟩:=rx
 obtain⟨t',rfl⟩:=ry
 exact notIn_str (zcm I q rfl)
theorem zhK {op:CmpOp}{r:R2}(ho:OpR X (compareOp op) r)(ha:PE X a ta)(hb:PE X b tb)(hm:behindInMarks op b=false):PE X (.Compare a [op] [b] pos) (tOp r ta tb):=by
 intro pins s σ H Q I h
 exact wpAny_Compare1 (yem ha hb I h λv u s2 x y H2 I2 rx ry q=>ho pins s2 σ H2 x y v u Q I2 rx ry q) hm
def ydf (t:TE):TT:=λσ H Q=>t σ H λx H'=>∃k,x=.bl k/\Q k H'
theorem zk5 {op:CmpOp}{r:R2}(ho:OpR X (compareOp op) r)(ha:PE X a ta)(hb:PE X b tb)(hm:behindInMarks op b=false):PT X (.Compare a [op] [b] pos) (ydf (tOp r ta tb)):=by
 intro pins s σ H Q I h
 refine wpAny_isTrue_Compare1 (thn (ha pins s σ H _ I h) λv s1 ⟨x,H1,I1,r1,q1⟩=>thn (hb pins s1 σ H1 _ I1 q1) λu s2 ⟨y,H2,I2,r2,q2⟩ =>
  thn (ho pins s2 σ H2 x y v u _ I2 r1 r2 q2) λc s3 ⟨z,H3,I3,r3,k,e,q3⟩=>?_) hm
 subst e
 cases r3
 exact wpAny_truthy_bool ⟨H3,I3,q3⟩
def yce (r r':R2)(ta tb tc:TE):TE:=λσ H Q=>ta σ H λx H1=>tb σ H1 λy H2=>r x y H2 λz H3=>∃k,z=.bl k /\
 (if k=true then tc σ H3 λw' H4=>r' y w' H4 Q else Q (.bl false) H3)
theorem ziz {op op':CmpOp}{r r':R2}(ho:OpR X (compareOp op) r)(ho':OpR X (compareOp op') r')(ha:PE X a ta)(hb:PE X b tb)(hc:PE X c tc)
  (hm:lastMarks [op,op'] [b,c]=false:=by ac_rfl):PE X (.Compare a [op,op'] [b,c] pos) (yce r r' ta tb tc):=by
 intro pins s σ H Q I h
 refine Compare_chain (thn (ha pins s σ H _ I h) λv s1 ⟨x,H1,I1,r1,q1⟩=>chain_link (thn (hb pins s1 σ H1 _ I1 q1) λu s2 ⟨y,H2,I2,r2,q2⟩ =>
  thn (ho pins s2 σ H2 x y v u _ I2 r1 r2 q2) λd s3 ⟨z,H3,I3,r3,k,e,q3⟩=>?_)) hm
 subst e
 cases r3
 refine wpAny_truthy_bool ?_
 cases k with
 |false=>exact ite_ff ⟨.bl false,H3,I3,rfl,q3⟩
 |true=>exact ite_tt (chain_last (thn (hc pins s3 σ H3 _ I3 q3) λw' s4 ⟨z',H4,I4,r4,q4⟩=>ho' pins s4 σ H4 y z' u w' Q I4 r2 r4 q4))
theorem zjM {op op':CmpOp}{r r':R2}(ho:OpR X (compareOp op) r)(ho':OpR X (compareOp op') r')(ha:PE X a ta)(hb:PE X b tb)(hc:PE X c tc)
  (hm:lastMarks [op,op'] [b,c]=false:=by ac_rfl):PT X (.Compare a [op,op'] [b,c] pos) (ydf (yce r r' ta tb tc)):=by
 intro pins s σ H Q I h
 refine isTrue_chain (thn (ha pins s σ H _ I h) λv s1 ⟨x,H1,I1,r1,q1⟩=>test_link (thn (hb pins s1 σ H1 _ I1 q1) λu s2 ⟨y,H2,I2,r2,q2⟩ =>
  thn (ho pins s2 σ H2 x y v u _ I2 r1 r2 q2) λd s3 ⟨z,H3,I3,r3,k,e,q3⟩=>?_)) hm
 subst e
 cases r3
 refine wpAny_truthy_bool ?_
 cases k with
 |false =>
  obtain⟨k',e',q'⟩:=q3
  cases e'
  exact ite_ff ⟨H3,I3,q'⟩
 |true =>
  refine ite_tt (test_last (thn (hc pins s3 σ H3 _ I3 q3) λw' s4 ⟨z',H4,I4,r4,q4⟩=>thn (ho' pins s4 σ H4 y z' u w' _ I4 r2 r4 q4) λd' s5 ⟨z2,H5,I5,r5,k2,e2,q5⟩=>?_))
  subst e2
  cases r5
  exact wpAny_truthy_bool ⟨H5,I5,q5⟩
def ydC (K:PySem.W.Frag)(x:V)(H:Hp)(k:Bool):Prop :=
 match x with
 | .non=>k=false
 | .bl b=>k=b
 | .int i=>k=(i != 0)
 | .str y=>y.length<=sizeLine/\k=((y.length:Int) != 0)
 | .byt y=>y.size<=sizeLine/\k=((y.size:Int) != 0)
 | .ref p=>(∃xs,SqL K H p xs/\k=!xs.isEmpty) \/ (∃xs,SqT K H p xs/\k=!xs.isEmpty) \/ ∃kvs,H p=some (.dK kvs)/\k=!kvs.isEmpty
 |_=>False
theorem zfY {κ:Type}{kvs:List (κ×V)}{vs:List (κ×Value)}(r:KV kvs vs):(!vs.isEmpty)=!kvs.isEmpty:=by
 cases r <;> rfl
theorem zcI {xs:List V}{its:List Value}(r:Vals xs its):(!its.toArray.isEmpty)=!xs.isEmpty:=by
 cases r <;> simp
theorem yaJ:(sizeLine:Nat)<2^63:=by rw[sizeLine_eq];decide
theorem zmT:ygy X (λx H Q=>∃k,ydC X.K x H k/\Q k H):=by
 intro pins s σ H x v Q I rx h
 obtain⟨k,e,q⟩:=h
 have hl:=yaJ
 have hs:sizeLine=16777216:=sizeLine_eq
 cases x with
 |non =>
  cases rx
  have e':k=false:=e
  subst e'
  exact truthy_none ⟨H,I,q⟩
 |bl b =>
  cases rx
  have e':k=b:=e
  subst e'
  exact wpAny_truthy_bool ⟨H,I,q⟩
 |int i =>
  obtain⟨t,rfl⟩:=rx
  have e':k=(i != 0):=e
  subst e'
  exact PySem.P.truthy_int ⟨H,I,q⟩
 |str y =>
  obtain⟨t,rfl⟩:=rx
  obtain⟨hy,e'⟩:y.length<=sizeLine/\k=((y.length:Int) != 0):=e
  subst e'
  exact PySem.P.truthy_str (by omega) ⟨H,I.tok _,q⟩
 |byt y =>
  obtain⟨t,rfl⟩:=rx
  obtain⟨hy,e'⟩:y.size<=sizeLine/\k=((y.size:Int) != 0):=e
  subst e'
  exact PySem.W.truthy_bytes (by omega) ⟨H,I.tok _,q⟩
 |ref p =>
  cases rx
  have e':(∃xs,SqL X.K H p xs/\k=!xs.isEmpty) \/ (∃xs,SqT X.K H p xs/\k=!xs.isEmpty) \/ ∃kvs,H p=some (.dK kvs)/\k=!kvs.isEmpty:=e
  rcases e' with⟨xs,hx,e'⟩|⟨xs,hx,e'⟩|⟨kvs,hx,e'⟩
  ·subst e'
   obtain⟨its,r,pl,hz⟩:=I.list hx
   have hlen:=r.length
   exact wpAny_truthy_list pl.isList (by simp only[List.size_toArray];omega) ⟨H,I.tok _,by rw[zcI r];exact q⟩
  ·subst e'
   obtain⟨its,r,pl,hz⟩:=I.tuple hx
   have hlen:=r.length
   exact truthy_tuple pl (by simp only[List.size_toArray];omega) ⟨H,I.tok _,by rw[zcI r];exact q⟩
  ·subst e'
   obtain⟨hz,hS,vs,r,m⟩:kvs.length<=sizeLine/\(p == sysModules)=false/\∃vs,KV kvs vs/\s.heap.DictOf (yF X.prog X.w) p vs:=I.hok p _ hx
   have hlen:kvs.length=vs.length:=Paired.length r
   exact wpAny_truthy_dict hS m (by omega) ⟨H,I.tok _,by rw[zfY r];exact q⟩
 |_=>exact(show False from e).elim
theorem zjG (ha:PE X a ta)(he:∀whole,isTrue a X.env whole=(do let v <- whole;standAt a.pos;holding [v] (truthy v))) :
  PT X a (λσ H Q=>ta σ H λx H'=>∃k,ydC X.K x H' k/\Q k H'):=by
 intro pins s σ H Q I h
 exact isTrue_plain (thn (ha pins s σ H _ I h) λv s1 ⟨x,H1,I1,r1,q1⟩=>zmT pins s1 σ H1 x v Q I1 r1 q1) (he _)
theorem zgb:OpR X (binaryOp .Add) (λx y H Q=>∃i j,x=.str i/\y=.str j/\i.length+j.length<=sizeLine/\Q (.str (i++j)) H):=by
 intro pins s σ H x y v u Q I rx ry h
 obtain⟨i,j,rfl,rfl,hz,q⟩:=h
 obtain⟨t,rfl⟩:=rx
 obtain⟨t',rfl⟩:=ry
 exact add_str (λt' tk=>⟨.str (i++j),H,I.tok _,⟨_,rfl⟩,q⟩) hz
theorem vals1 {x:V}{us:List Value}(r:Vals [x] us):∃u,us=[u]/\RelV x u:=by
 cases r with
 |cons r1 r2=>cases r2;exact⟨_,rfl,r1⟩
theorem vals2 {x y:V}{us:List Value}(r:Vals [x,y] us):∃u w',us=[u,w']/\RelV x u/\RelV y w':=by
 cases r with
 |cons r1 r2 =>
  cases r2 with
  |cons r3 r4=>cases r4;exact⟨_,_,rfl,r1,r3⟩
theorem zjk:yaa X (.builtin "abs") (λxs H Q=>∃i,xs=[.int i]/\Q (.int (if i<0 then -i else i)) H):=by
 intro pins s σ H xs us Q I r h
 obtain⟨i,rfl,q⟩:=h
 obtain⟨u,rfl,t,rfl⟩:=vals1 r
 exact call_abs_int λu tk=>⟨.int (if i<0 then -i else i),H,I.tok _,⟨_,rfl⟩,q⟩
theorem zgN (hc:X.calm=true):yaa X (.builtin "max") (λxs H Q=>∃i j,xs=[.int i,.int j]/\Q (.int (if j > i then j else i)) H):=by
 intro pins s σ H xs us Q I r h
 obtain⟨i,j,rfl,q⟩:=h
 obtain⟨u,w',rfl,⟨t,rfl⟩,⟨t',rfl⟩⟩:=vals2 r
 refine max_two_ints (I.ok.hd hc) λh' tk k=>⟨_,H,I.kept k,?_,q⟩
 by_cases hj:j > i
 ·rw[if_pos hj,if_pos hj];exact⟨_,rfl⟩
 ·rw[if_neg hj,if_neg hj];exact⟨_,rfl⟩
theorem zhn (hc:X.calm=true):yaa X (.builtin "min") (λxs H Q=>∃i j,xs=[.int i,.int j]/\Q (.int (if j<i then j else i)) H):=by
 intro pins s σ H xs us Q I r h
 obtain⟨i,j,rfl,q⟩:=h
 obtain⟨u,w',rfl,⟨t,rfl⟩,⟨t',rfl⟩⟩:=vals2 r
 refine min_two_ints (I.ok.hd hc) λh' tk k=>⟨_,H,I.kept k,?_,q⟩
 by_cases hj:j<i
 ·rw[if_pos hj,if_pos hj];exact⟨_,rfl⟩
 ·rw[if_neg hj,if_neg hj];exact⟨_,rfl⟩
theorem zdM:yaa X (.type "int") (λxs H Q=>(∃i,xs=[.int i]/\Q (.int i) H) \/ ∃k,xs=[.bl k]/\Q (.int (if k then 1 else 0)) H):=by
 intro pins s σ H xs us Q I r h
 rcases h with⟨i,rfl,q⟩|⟨k,rfl,q⟩
 ·obtain⟨u,rfl,t,rfl⟩:=vals1 r
  exact call_int_int ⟨.int i,H,I,⟨_,rfl⟩,q⟩
 ·obtain⟨u,rfl,r1⟩:=vals1 r
  cases r1
  exact call_int_bool ⟨.int (if k then 1 else 0),H,I.tok _,⟨_,rfl⟩,q⟩
end
structure ycn (h:Heap)(x dx C:Addr)(mA:Str->Option Value):Prop where
 obj:h.get? x=some (PySem.W.instObj C dx)
 ns:h.Ns1 dx mA
 ne:dx≠x
theorem zgM {h:Heap}{dx:Addr}{mA:Str->Option Value}(n:h.Ns1 dx mA):∃od,h.get? dx=some od/\∀name,PySem.W.lookIn name od=some (mA name):=by
 obtain⟨o,es,ep,ho,hd,hk,_,hm⟩:=n
 refine⟨o,ho,λname=>?_⟩
 have e:=hm name
 unfold nsFind findBy at e
 rw[<- Array.find?_toList]at e
 unfold PySem.W.lookIn
 rw[hd]
 dsimp only
 split
 ·rename_i y q
  rw[q]at e
  exact congrArg some e
 ·rename_i q
  rw[q]at e
  have a:es.toList.any (·.refKey)=false:=by
   rw[List.any_eq_false]
   intro y hy
   obtain⟨z,t,hkey⟩:=hk y (Array.mem_toList_iff.mp hy)
   simp[DictEntry.refKey,hkey]
  have a':¬es.toList.any (·.refKey)=true:=by rw[a];exact Bool.false_ne_true
  rw[if_neg a']
  exact congrArg some e
theorem ycn.look {h:Heap}{x dx C:Addr}{mA:Str->Option Value}(I:ycn h x dx C mA):∃od,PySem.W.InstAt h x (PySem.W.instObj C dx) C (some od)/\∀name,PySem.W.lookIn name od=some (mA name) :=
 let ⟨od,ho,hl⟩:=zgM I.ns
 ⟨od,⟨I.obj,rfl,rfl,ho⟩,hl⟩
section
variable {prog:Program}{w:World}{A:Around}{E:Value->Shared->Prop}{s:Shared}{K:PySem.W.Frag}{x dx C f:Addr}{mA:Str->Option Value}{name:Str}{v:Value}
theorem zlG {expr:Bool}{Q:Value->Shared->Prop}(X:K.In s.heap)(I:ycn s.heap x dx C mA)(hg:PySem.W.plainGet K C name=true)(hh:PySem.W.hasDictIn K C=true)
  (ha:PySem.W.findIn K (.ref C) name=some none) (hv:mA name=some v) (hv':PySem.W.handedIn v=true) (h:Q v { s with toks:=s.toks+1 }) :
  wpAny (model prog w) A (getAttr (.ref x) name expr) Q E s:=by
 obtain⟨od,J,hl⟩:=I.look
 exact PySem.W.get_value X J (PySem.W.plainGet_of hg).1 (PySem.W.findObj_own hh ha rfl (by rw[hl,hv])) hv' h
theorem zjr {pl:Sem Bool}{Q:Value×List Value->Shared->Prop}(X:K.In s.heap)(I:ycn s.heap x dx C mA)(hg:PySem.W.plainGet K C name=true)
  (hf:PySem.W.findIn K (.ref C) name=some (some (.ref f))) (ht:PySem.W.isFn K (.ref f)=true) (hv:mA name=none) (h:Q (.ref f,[.ref x]) s) :
  wpAny (model prog w) A (getMethod (.ref x) name pl) Q E s:=by
 obtain⟨od,J,hl⟩:=I.look
 exact PySem.W.method_fn X J (PySem.W.plainGet_of hg).1 (PySem.W.plainGet_of hg).2 hf (beq_iff_eq.mp ht) (by show (PySem.W.lookIn name od).map (·.isSome)=some false;rw[hl,hv];rfl) h
theorem zlV {ns:List Str}{Q:Unit->Shared->Prop}(X:K.In s.heap)(I:ycn s.heap x dx C mA)
  (hs:PySem.W.findIn K (.ref C) "__setattr__"=some (some (.builtin "object.__setattr__"))) (hp:PySem.W.plainOver K C=true) (ht:PySem.W.takerIn K C name=some none) (hh:PySem.W.hasDictIn K C=true)
  (hw:PySem.Within mA ns) (hsz:ns.length<=sizeLine)
  (h:∀h',ycn h' x dx C (λy=>if y=name then some v else mA y)->Heap.SameBut dx s.heap h'->Q () { s with heap:=h',toks:=s.toks+2 }) :
  wpAny (model prog w) A (setAttr (.ref x) name v) Q E s:=by
 obtain⟨od,J,hl⟩:=I.look
 refine PySem.W.set_plain X J hs (PySem.W.osa_open (s:={ s with toks:=s.toks+1 }) (r:=none) X J hp ht λb=>?_)
 obtain⟨cd,hc,hd'⟩:=PySem.W.any_some hh
 have hx:s.heap.get? x=some ⟨.ref C,some dx,.plain,#[]⟩:=I.obj
 refine wpAny_bind (wpAny_pure (wpAny_bind (wpAny_bind (wpAny_loadPart hx (wpAny_bind (PySem.W.Looks.here (s:={ s with toks:=s.toks+1 }) (PySem.W.looks_clsIn X hc) ?_))))))
 rw[hd']
 refine wpAny_pure (a:=some dx) (wpAny_bind (wpAny_pure (wpAny_bind ?_)))
 refine wpAny_nsSet1 (s:={ s with toks:=s.toks+1 }) I.ns λh' hn2 hs2=>?_
 obtain⟨oD,esD,epD,hoD,hdD,hcD⟩:=hn2.count (PySem.Within.cons name v hw)
 refine wpAny_bind (wpAny_lookBehind hoD (by rw[hdD];exact pastItsLine_dict (Nat.le_trans hcD (by rw[List.length_cons];omega))) ?_)
 exact wpAny_pure (h _ ⟨(hs2.2 _ (Ne.symm I.ne)).trans I.obj,hn2,I.ne⟩ hs2)
theorem zjc {R:Result->Shared->Prop}{vs:List Value}{kw:List (Str×Value)}(X:K.In s.heap)(hm:PySem.W.makesIn K C=true)
  (hi:PySem.W.findIn K (.ref C) "__init__"=some (some (.ref f))) (hf:PySem.W.typeIn K (.ref f)=some (.type "function"))
  (h:codeAny (model prog w) (A.under (.builtin "type.__call__" ⟨.ref C::vs,kw⟩)) (.call (.ref f) ⟨.ref (s.heap.objs.size+1)::vs,kw⟩) (PySem.W.InitBack (s.heap.objs.size+1) R)
   { s with heap:=(s.heap.push PySem.W.emptyDict).push (PySem.W.instObj C s.heap.objs.size) }) :
  codeAny (model prog w) A (.call (.ref C) ⟨vs,kw⟩) R s:=by
 obtain⟨hh,g,d,t,os⟩:=s
 exact PySem.W.make_core (PySem.W.makes_of X hm) (PySem.W.looks_findIn X hi) (λself=>PySem.W.bind_fn X self hf) (.inl rfl) h
end
def yaR (f:Str)(v:V):List (Str×V)->List (Str×V)
 | []=>[(f,v)]
 | (g,x)::r=>if g=f then(g,v)::r else(g,x)::yaR f v r
theorem zbH (f g:Str)(v:V):∀fs:List (Str×V),(yaR f v fs).lookup g=if g=f then some v else fs.lookup g
 | []=>by
  show List.lookup g [(f,v)]=_
  by_cases h:g=f
  ·have hb:(g == f)=true:=beq_iff_eq.mpr h
   simp only[List.lookup,hb,if_pos h]
  ·have hb:(g == f)=false:=beq_eq_false_iff_ne.mpr h
   simp only[List.lookup,hb,if_neg h]
 | (k,x)::r=>by
  have ih:=zbH f g v r
  rw[show yaR f v ((k,x)::r)=(if k=f then(k,v)::r else(k,x)::yaR f v r)from rfl]
  by_cases hk:k=f
  ·rw[if_pos hk]
   by_cases h:g=k
   ·have hb:(g == k)=true:=beq_iff_eq.mpr h
    simp only[List.lookup,hb,if_pos (h.trans hk)]
   ·have hb:(g == k)=false:=beq_eq_false_iff_ne.mpr h
    simp only[List.lookup,hb,if_neg (λe:g=f=>h (e.trans hk.symm))]
  ·rw[if_neg hk]
   by_cases h:g=k
   ·have hb:(g == k)=true:=beq_iff_eq.mpr h
    simp only[List.lookup,hb,if_neg (λe:g=f=>hk (h.symm.trans e))]
   ·have hb:(g == k)=false:=beq_eq_false_iff_ne.mpr h
    simp only[List.lookup,hb]
    exact ih
theorem zbQ (f:Str)(v:V):∀fs:List (Str×V),f∈(yaR f v fs).map (·.1)/\∀g,g∈fs.map (·.1)->g∈(yaR f v fs).map (·.1)
 | []=>⟨by simp[yaR],λg h=>by simp at h⟩
 | (k,x)::r=>by
  obtain⟨i1,i2⟩:=zbQ f v r
  rw[show yaR f v ((k,x)::r)=(if k=f then(k,v)::r else(k,x)::yaR f v r)from rfl]
  by_cases hk:k=f
  ·rw[if_pos hk]
   subst hk
   exact⟨by simp,λg h=>by simpa using h⟩
  ·rw[if_neg hk]
   refine⟨?_,λg h=>?_⟩
   ·rw[List.map_cons]
    exact List.mem_cons_of_mem _ i1
   ·rw[List.map_cons]at h ⊢
    rcases List.mem_cons.mp h with e|e
    ·exact List.mem_cons.mpr (.inl e)
    ·exact List.mem_cons_of_mem _ (i2 g e)
theorem zbZ (f:Str)(v:V):∀fs:List (Str×V),(yaR f v fs).length<=fs.length+1
 | []=>by simp[yaR]
 | (k,x)::r=>by
  have ih:=zbZ f v r
  rw[show yaR f v ((k,x)::r)=(if k=f then(k,v)::r else(k,x)::yaR f v r)from rfl]
  by_cases hk:k=f
  ·rw[if_pos hk,List.length_cons,List.length_cons];omega
  ·rw[if_neg hk,List.length_cons,List.length_cons];omega
theorem ya7.some_of {v:V}{o:Option Value}(r:ya7 (some v) o):∃u,o=some u/\RelV v u:=by
 cases o with
 |none=>exact(show False from r).elim
 |some u=>exact⟨u,rfl,r⟩
theorem ya7.none_of {o:Option Value}(r:ya7 none o):o=none:=by
 cases o with
 |none=>rfl
 |some u=>exact(show False from r).elim
theorem zhA {v:V}{u:Value}(r:RelV v u):PySem.W.handedIn u=true:=by
 cases v with
 |non=>cases (show u=Value.none from r);rfl
 |bl b=>cases (show u=Value.bool b from r);rfl
 |int i=>obtain⟨t,e⟩:=(show ∃t,u=Value.int i t from r);cases e;rfl
 |str x=>obtain⟨t,e⟩:=(show ∃t,u=Value.str x t from r);cases e;rfl
 |byt b=>obtain⟨t,e⟩:=(show ∃t,u=Value.bytes b t from r);cases e;rfl
 |flt b=>obtain⟨t,e⟩:=(show ∃t,u=Value.float b t from r);cases e;rfl
 |ref a=>cases (show u=Value.ref a from r);rfl
 |ty n=>cases (show u=Value.type n from r);rfl
section
variable {P:Program}{w:World}{H H':Hp}{h h':Heap}{a C dx:Addr}{fs fs':List (Str×V)}
theorem ze1 (hok:HOk P w H h)(e:H a=some (.ins C dx fs)):∃mA,ycn h a dx C mA/\(∀f,ya7 (fs.lookup f) (mA f))/\PySem.Within mA (fs.map (·.1))/\fs.length<=1000/\H dx=some (.own a):=by
 obtain⟨d,z,ne,ob,mA,n,r,q⟩:=(show yN P w H h a (.ins C dx fs)from hok a _ e)
 exact⟨mA,⟨ob,n,ne⟩,r,q,z,d⟩
end
structure Cls (K:PySem.W.Frag)(C:Addr):Prop where
 pg:PySem.W.plainGet K C Str.empty=true
 hd:PySem.W.hasDictIn K C=true
 po:PySem.W.plainOver K C=true
 sa:PySem.W.findIn K (.ref C) "__setattr__"=some (some (.builtin "object.__setattr__"))
theorem Cls.get {K:PySem.W.Frag}{C:Addr}(c:Cls K C)(f:Str):PySem.W.plainGet K C f=true:=c.pg
def yaf (K:PySem.W.Frag)(C:Addr)(f:Str):Prop:=PySem.W.findIn K (.ref C) f=some none
theorem yaf.taker {K:PySem.W.Frag}{C:Addr}{f:Str}(n:yaf K C f):PySem.W.takerIn K C f=some none:=by
 unfold PySem.W.takerIn
 rw[show PySem.W.findIn K (.ref C) f=some none from n]
 rfl
structure Con (K:PySem.W.Frag)(C:Addr)(f:Str)(v:V)(u:Value):Prop where
 at_:PySem.W.findIn K (.ref C) f=some (some u)
 rel:RelV v u
 get:PySem.W.specialIn K u "__get__"=some none
 cp:PySem.W.copiedNames.contains f=false
structure Meth (K:PySem.W.Frag)(C:Addr)(m:Str)(f:Addr):Prop where
 at_:PySem.W.findIn K (.ref C) m=some (some (.ref f))
 fn:PySem.W.isFn K (.ref f)=true
 kp:PySem.W.keepIn K (.ref f)=true
section
variable {X:Cx}{pins:List (Addr×Obj)}{σ:St}{H:Hp}{s:Shared}{a C dx:Addr}{fs:List (Str×V)}{f:Str}{v:V}{A:Around}{E:Value->Shared->Prop}
theorem zcu {b:Bool}{Q:Value->Shared->Prop}(I:Inv X pins σ H s)(e:H a=some (.ins C dx fs))(c:Cls X.K C)(n:yaf X.K C f)(l:fs.lookup f=some v)
  (h:∀u s',Inv X pins σ H s'->RelV v u->Q u s'):wpAny (model X.prog X.w) A (getAttr (.ref a) f b) Q E s:=by
 obtain⟨mA,O,r,_,_,_⟩:=ze1 I.hok e
 obtain⟨u,hu,ru⟩:=ya7.some_of (v:=v) (o:=mA f) (by rw[<- l];exact r f)
 exact zlG I.kIn O (c.get f) c.hd n hu (zhA ru) (h u _ (I.tok _) ru)
theorem zcH {m:Str}{g:Addr}{pl:Sem Bool}{Q:Value×List Value->Shared->Prop}(I:Inv X pins σ H s)(e:H a=some (.ins C dx fs))(c:Cls X.K C)(k:Meth X.K C m g)(l:fs.lookup m=none)
  (h:Q (.ref g,[.ref a]) s):wpAny (model X.prog X.w) A (getMethod (.ref a) m pl) Q E s:=by
 obtain⟨mA,O,r,_,_,_⟩:=ze1 I.hok e
 have hn:mA m=none:=ya7.none_of (by rw[<- l];exact r m)
 exact zjr I.kIn O (c.get m) k.at_ k.fn hn h
theorem zcz {y:V}{u:Value}{Q:Unit->Shared->Prop}(I:Inv X pins σ H s)(e:H a=some (.ins C dx fs))(c:Cls X.K C)(n:yaf X.K C f)(hl:fs.length<1000)(ry:RelV y u)
  (h:∀s',Inv X pins σ (upd H a (.ins C dx (yaR f y fs))) s'->Q () s'):wpAny (model X.prog X.w) A (setAttr (.ref a) f u) Q E s:=by
 obtain⟨mA,O,r,wi,_,ho⟩:=ze1 I.hok e
 have hz:(fs.map (·.1)).length<=sizeLine:=by rw[List.length_map,sizeLine_eq];omega
 refine zlV I.kIn O c.sa c.po n.taker c.hd wi hz λh' O' sb=>h _ ?_
 have hd:∃o,h'.get? dx=some o:=let ⟨o,_,_,e',_⟩:=O'.ns;⟨o,e'⟩
 refine I.write (x:=a) (e:=dx) (by rw[e];exact True.intro) (.inr ho) (λb q hb z=>(sb.2 b hb).trans z) hd ?_
 refine⟨by rw[zd O.ne];exact ho,?_,O.ne,O'.obj,_,O'.ns,λg=>?_,λg hg=>?_⟩
 ·have:=zbZ f y fs;omega
 ·show ya7 ((yaR f y fs).lookup g) (if g=f then some u else mA g)
  rw[zbH]
  by_cases q:g=f
  ·rw[if_pos q,if_pos q];exact ry
  ·rw[if_neg q,if_neg q];exact r g
 ·by_cases q:g=f
  ·rw[q];exact(zbQ f y fs).1
  ·refine(zbQ f y fs).2 g (wi g λz=>hg ?_)
   show (if g=f then some u else mA g)=none
   rw[if_neg q];exact z
theorem Inv.made (I:Inv X pins σ H s):Inv X pins σ (upd (upd H s.heap.objs.size (.own (s.heap.objs.size+1))) (s.heap.objs.size+1) (.ins C s.heap.objs.size []))
  { s with heap:=(s.heap.push PySem.W.emptyDict).push (PySem.W.instObj C s.heap.objs.size) }:=by
 have e1:(s.heap.push PySem.W.emptyDict).get? s.heap.objs.size=some PySem.W.emptyDict:=Heap.get?_push_size s.heap rfl
 have e2:((s.heap.push PySem.W.emptyDict).push (PySem.W.instObj C s.heap.objs.size)).get? (s.heap.objs.size+1)=some (PySem.W.instObj C s.heap.objs.size):=by
  have:=Heap.get?_push_size (s.heap.push PySem.W.emptyDict) (o:=PySem.W.instObj C s.heap.objs.size) rfl
  rwa [Heap.size_push]at this
 have e3:(s.heap.push PySem.W.emptyDict).Ns s.heap.objs.size (λ_=>none):=⟨PySem.W.emptyDict,#[],_,e1,rfl,(λe he=>absurd he (by simp)),λ_=>rfl⟩
 have I1:=I.laid (a:=s.heap.objs.size) (o:=.own (s.heap.objs.size+1)) (h':=s.heap.push PySem.W.emptyDict) (t':=s.toks) (λb u q=>Heap.get?_push_of_some _ q) (Nat.le_refl _) ⟨_,e1⟩
 refine I1.laid (a:=s.heap.objs.size+1) (o:=.ins C s.heap.objs.size []) (t':=s.toks) (λb u q=>Heap.get?_push_of_some _ q) (Nat.le_of_eq (Heap.size_push _ _)) ?_
 have ne:s.heap.objs.size≠s.heap.objs.size+1:=Nat.ne_of_lt (Nat.lt_succ_self _)
 refine⟨by rw[zd ne,zj],Nat.zero_le _,ne,e2,λ_=>none,(Heap.Ns1.of_empty e3).at λo q=>Heap.get?_push_of_some _ q,λ_=>True.intro,λy hy=>absurd rfl hy⟩
theorem zlJ {prog:Program}{w:World}{env:Env}{e:Expr}{f:Str}{pos:Pos}{s:Shared}{Q:Value->Shared->Prop}(hb:attributeBase e f env (eval e env)=eval e env)
  (h:wpAny (model prog w) A (eval e env) (λo s₁=>wpAny (model prog w) A (getAttr o f true) Q E s₁) E s):wpAny (model prog w) A (eval (.Attribute e f pos) env) Q E s :=
 Attribute_any_ h (by rw[arm_eval_Attribute,hb])
end
def ygf (K:PySem.W.Frag)(ta:TE)(f:Str):TE:=λσ H Q=>ta σ H λx H1=>∃a C dx fs v,x=.ref a/\H1 a=some (.ins C dx fs)/\Cls K C/\yaf K C f/\fs.lookup f=some v/\Q v H1
def yff (K:PySem.W.Frag)(ta tv:TE)(f:Str):TS:=λD σ H=>tv σ H λy H1=>ta σ H1 λx H2=>∃a C dx fs,x=.ref a/\H2 a=some (.ins C dx fs)/\Cls K C/\yaf K C f/\fs.length<1000 /\
 D.nx σ (upd H2 a (.ins C dx (yaR f y fs)))
def yeR (X:Cx)(op:Operator)(rd:V->V->Hp->VK->Prop):Prop :=
 ∀(pins:List (Addr×Obj)) (s:Shared) (σ:St) (H:Hp) (x y:V) (u v:Value) (Q:VK),Inv X pins σ H s->RelV x u->RelV y v->rd x y H Q->wpAny (model X.prog X.w) X.A (inplaceOp op u v) (EP X pins σ Q) X.xe s
def ycy (K:PySem.W.Frag)(ta tv:TE)(rd:V->V->Hp->VK->Prop)(f:Str):TS:=λD σ H=>ta σ H λx H1=>∃a C dx fs v,x=.ref a/\H1 a=some (.ins C dx fs)/\Cls K C/\yaf K C f/\fs.lookup f=some v /\
 tv σ H1 λy H2=>rd v y H2 λz H3=>∃dx' fs',H3 a=some (.ins C dx' fs')/\fs'.length<1000/\D.nx σ (upd H3 a (.ins C dx' (yaR f z fs')))
section
variable {X:Cx}{o e value:Expr}{f:Str}{pos pos' tpos:Pos}{ta tv:TE}
theorem znP (he:PE X e ta)(hb:attributeBase e f X.env (eval e X.env)=eval e X.env):PE X (.Attribute e f pos) (ygf X.K ta f):=by
 intro pins s σ H Q I h
 refine zlJ hb (thn (he pins s σ H _ I h) λu s1 ⟨x,H1,I1,rx,a,C,dx,fs,v,ex,ea,c,n,l,q⟩=>?_)
 subst ex
 obtain rfl:u=Value.ref a:=rx
 exact zcu I1 ea c n l λu' s2 I2 ru=>⟨v,H1,I2,ru,q⟩
theorem zl7 (ha:PE X o ta)(hv:PE X value tv)(hs:swapsWith value (some (.Attribute o f pos')) pos.line X.env=pure false):PS X (.Assign [.Attribute o f pos'] value pos) (yff X.K ta tv f):=by
 intro pins s σ H D I h
 refine plainObj_wpAny_Assign_Attribute (thn (hv pins s σ H _ I h) λu s1 ⟨y,H1,I1,ry,q⟩=>thn (ha pins s1 σ H1 _ I1 q) λov s2 ⟨x,H2,I2,rx,a,C,dx,fs,ex,ea,c,n,l,q2⟩=>?_) hs
 subst ex
 obtain rfl:ov=Value.ref a:=rx
 exact zcz I2 ea c n l ry λs3 I3=>⟨σ,_,I3,q2⟩
theorem zhp {op:Operator}{rd:V->V->Hp->VK->Prop}(ha:PE X o ta)(hv:PE X value tv)(hop:yeR X op rd):PS X (.AugAssign (.Attribute o f tpos) op value pos) (ycy X.K ta tv rd f):=by
 intro pins s σ H D I h
 refine wpAny_AugAssign_AttributeAny (thn (ha pins s σ H _ I h) λov s1 ⟨x,H1,I1,rx,a,C,dx,fs,v,ex,ea,c,n,l,q⟩=>?_)
 subst ex
 obtain rfl:ov=Value.ref a:=rx
 refine zcu I1 ea c n l λu s2 I2 ru=>thn (hv pins s2 σ H1 _ I2 q) λw3 s3 ⟨y,H2,I3,ry,q3⟩=>thn (hop pins s3 σ H2 v y u w3 _ I3 ru ry q3) λw4 s4 ⟨z,H3,I4,rz,dx',fs',ea',l',q4⟩=>?_
 exact zcz I4 ea' c n l' rz λs5 I5=>⟨σ,_,I5,q4⟩
def yfO:V->V->Hp->VK->Prop:=λx y H Q=>∃i j,x=.int i/\y=.int j/\Q (.int (i+j)) H
theorem znH:yeR X .Add yfO:=by
 rintro pins s σ H x y u v Q I rx ry ⟨i,j,rfl,rfl,q⟩
 obtain⟨t,rfl⟩:=(show ∃t,u=Value.int i t from rx)
 obtain⟨t',rfl⟩:=(show ∃t',v=Value.int j t' from ry)
 exact PyProof.Rows.iadd_int ⟨.int (i+j),H,I.tok _,⟨_,rfl⟩,q⟩
end
section
variable {X:Cx}{pins:List (Addr×Obj)}{σ:St}{H:Hp}{s:Shared}{A:Around}{E:Value->Shared->Prop}{Q:Value->Shared->Prop}{c:Value}{b:Bool}
end
structure yai (k:Nat)(A:Around):Prop where
 hd:A.handled=none
 dp:A.depth+3*k+5<recursionLimit
 un:A.units+16*k+200<cLine
theorem yai.mono {j k:Nat}{A:Around}(r:yai k A)(h:j<=k):yai j A:=⟨r.hd,by have:=r.dp;omega,by have:=r.un;omega⟩
theorem yai.deeper {k:Nat}{A:Around}(r:yai (k+1) A)(env:Env):yai k (A.deeper env) :=
 ⟨r.hd,by have:=r.dp;show A.depth+1+3*k+5<_;omega,by have:=r.un;show A.units+3+16*k+200<_;omega⟩
theorem zgD {A:Around}{C:Addr}{us:List Value}{kw:List (Str×Value)}:(A.under (.builtin "type.__call__" ⟨.ref C::us,kw⟩)).depth=A.depth+1:=by
 first|rfl|simp[Around.under,Code.weight,Code.isCreation,Code.isGuard,Code.isCaller,Code.frames,Code.isFrame,guardIds]
theorem zgg {A:Around}{C:Addr}{us:List Value}{kw:List (Str×Value)}:(A.under (.builtin "type.__call__" ⟨.ref C::us,kw⟩)).units=A.units+1:=by
 first|rfl|simp[Around.under,Code.cUnits,Code.frames,Code.isFrame]
theorem yai.make {k:Nat}{A:Around}(r:yai (k+1) A)(C:Addr)(us:List Value)(kw:List (Str×Value)):yai k (A.under (.builtin "type.__call__" ⟨.ref C::us,kw⟩)) :=
 ⟨r.hd,by have:=r.dp;rw[zgD];omega,by have:=r.un;rw[zgg];omega⟩
theorem yai.depth {k:Nat}{A:Around}(r:yai k A):A.depth<recursionLimit:=by have:=r.dp;omega
theorem yai.units {k:Nat}{A:Around}(r:yai k A):A.units+64<cLine:=by have:=r.un;omega
def ycG:TA:=λ_ H Q=>Q [] H
def ybP (ta:TE)(tr:TA):TA:=λσ H Q=>ta σ H λx H1=>tr σ H1 λxs H2=>Q (x::xs) H2
section
variable {X:Cx}{e:Expr}{es:List Expr}{te:TE}{t:TA}{pos:Pos}
theorem yaO:PA X [] ycG:=λ_ _ _ _ H Q I h=>Calls.spliced_nil ⟨[],H,I,.nil,h⟩
theorem zO (ha:PE X e te)(hr:PA X es t)(hs:starEach (e::es) X.env=(false,eval e X.env)::starEach es X.env:=by rfl):PA X (e::es) (ybP te t):=by
 intro pos pins s σ H Q I h
 rw[hs]
 show wpAny _ _ (spliced ((false,eval e X.env)::backTo pos (starEach es X.env))) _ _ s
 refine Calls.spliced_cons (thn (ha pins s σ H _ I h) λu s1 ⟨x,H1,I1,r1,q1⟩=>?_)
 exact thn (hr pos pins s1 σ H1 _ I1 q1) λus s2 ⟨xs,H2,I2,r2,q2⟩=>⟨x::xs,H2,I2,.cons r1 r2,q2⟩
def yfR (t:TA):TE:=λσ H Q=>t σ H λxs H1=>xs.length<=sizeLine/\∀p,H1 p=none->Q (.ref p) (upd H1 p (.tup xs))
def yfB (t:TA):TE:=λσ H Q=>t σ H λxs H1=>xs.length<=sizeLine/\∀p,H1 p=none->Q (.ref p) (upd H1 p (.lst xs))
theorem znE {x1}(h:PA X es t):PE X (.Tuple es x1 pos) (yfR t):=by
 intro pins s σ H Q I hq
 refine wpAny_Tuple_spliced (thn (h pos pins s σ H _ I hq) λus s1 ⟨xs,H1,I1,r,z,q⟩=>⟨by rw[<- r.length];exact z,?_⟩)
 have hf:H1 s1.heap.objs.size=none:=I1.hok.fresh (Nat.le_refl _)
 refine⟨.ref s1.heap.objs.size,upd H1 s1.heap.objs.size (.tup xs),I1.laid (t':=s1.toks) (λb u e=>Heap.get?_push_of_some _ e) (Nat.le_refl _) ?_,rfl,q _ hf⟩
 exact⟨z,us,r,⟨_,Heap.get?_push_size _ rfl,rfl,_,rfl⟩⟩
theorem zkk (h:PA X es t):PE X (.List es pos) (yfB t):=by
 intro pins s σ H Q I hq
 refine wpAny_List_spliced (thn (h pos pins s σ H _ I hq) λus s1 ⟨xs,H1,I1,r,z,q⟩=>⟨by rw[<- r.length];exact z,?_⟩)
 have hf:H1 s1.heap.objs.size=none:=I1.hok.fresh (Nat.le_refl _)
 refine⟨.ref s1.heap.objs.size,upd H1 s1.heap.objs.size (.lst xs),I1.laid (t':=s1.toks) (λb u e=>Heap.get?_push_of_some _ e) (Nat.le_refl _) ?_,rfl,q _ hf⟩
 exact⟨z,us,0,r,Heap.get?_push_size _ rfl⟩
end
abbrev Sp:=List V->Hp->VK->XK->Prop
abbrev CXT:=List Env->Hp->Shared->XK->Value->Shared->Prop
structure ycp (P:Program)(w:World)(K:PySem.W.Frag)(mg:Str->Option Value)(base:Heap)(A:Around)(outer:List Env)(s:Shared)(H:Hp):Prop where
 frames:A.frames=some outer
 mod:Mod K mg base
 bs:∀b o,base.get? b=some o->s.heap.get? b=some o/\H b=none
 bsz:base.objs.size<=s.heap.objs.size
 funs:s.heap.FunFrames base outer
 frf:∀b∈frs outer,H b=none
 hok:HOk P w H s.heap
 bare:AllBare s.gens
def CE (outer:List Env)(P:Program)(w:World)(H:Hp)(s:Shared)(Q:VK)(u:Value)(s':Shared):Prop :=
 ∃v H',s'.os=s.os/\AllBare s'.gens/\Un (frs outer) [] H H' s.heap s'.heap/\HOk P w H' s'.heap/\RelV v u/\Q v H'
def CR (CX:CXT)(outer:List Env)(P:Program)(w:World)(H:Hp)(s:Shared)(Q:VK)(E:XK)(r:Result)(s':Shared):Prop :=
 match r with
 | .ok (.ret u)=>CE outer P w H s Q u s'
 | .ok _=>False
 | .error e=>CX outer H s E e s'
structure yax (P:Program)(w:World)(K:PySem.W.Frag)(mg:Str->Option Value)(base:Heap)(CX:CXT)(k:Nat)(f:Addr)(fd:FuncData)(ps:List Str)(sp:Sp):Prop where
 len:∀vs H Q E,sp vs H Q E->vs.length=ps.length
 run:∀(A:Around) (outer:List Env) (s:Shared) (H:Hp) (args:Args) (us:List Value) (vs:List V) (Q:VK) (E:XK),yai k A->ycp P w K mg base A outer s H->BindsTo s fd args (ps.zip us)->Vals vs us->sp vs H Q E ->
  codeAny (model P w) A (.call (.ref f) args) (CR CX outer P w H s Q E) s
theorem yax.imp {P:Program}{w:World}{K:PySem.W.Frag}{mg:Str->Option Value}{base:Heap}{CX:CXT}{k:Nat}{f:Addr}{fd:FuncData}{ps:List Str}{sp sp':Sp}(F:yax P w K mg base CX k f fd ps sp)
  (h:∀vs H Q E,sp' vs H Q E->sp vs H Q E):yax P w K mg base CX k f fd ps sp' :=
 ⟨λvs H Q E q=>F.len vs H Q E (h _ _ _ _ q),λA outer s H args us vs Q E hr he hb hv hs=>F.run A outer s H args us vs Q E hr he hb hv (h _ _ _ _ hs)⟩
theorem ycp.make {P:Program}{w:World}{K:PySem.W.Frag}{mg:Str->Option Value}{base:Heap}{A:Around}{outer:List Env}{s:Shared}{H:Hp}(e:ycp P w K mg base A outer s H)(C:Addr)(us:List Value)(kw:List (Str×Value)) :
  ycp P w K mg base (A.under (.builtin "type.__call__" ⟨.ref C::us,kw⟩)) outer s H:=⟨by first|exact e.frames|(simpa [Around.under,Code.envs,Code.isFrame,pushEnvs] using e.frames),e.mod,e.bs,e.bsz,e.funs,e.frf,e.hok,e.bare⟩
section
variable {X:Cx}{pins:List (Addr×Obj)}{σ:St}{H:Hp}{s s':Shared}
theorem Inv.env0 (I:Inv X pins σ H s):ycp X.prog X.w X.K X.mg X.base X.A X.stack s H :=
 ⟨I.ok.frames,I.ok.mod,I.bs,Nat.le_trans I.ok.bsz I.sz,I.stack,I.stkFree,I.hok,I.bare⟩
theorem Inv.after {Q:VK}{u:Value}(I:Inv X pins σ H s)(h:CE X.stack X.prog X.w H s Q u s'):EP X pins σ Q u s':=by
 obtain⟨v,H',os,bare,un,hok,r,q⟩:=h
 obtain⟨hh,g,d,t,os'⟩:=s'
 obtain rfl:os'=s.os:=os
 exact⟨v,H',I.call (h':=hh) (g':=g) (d':=d) (t':=t) (ch:=[]) un hok bare (λb z=>absurd z (by simp)),r,q⟩
end
def yed (C:Addr)(sp:Sp)(dvs:List V)(E:XK)(t:TA):TE:=λσ H Q=>t σ H λvs H1=>∀x dx,H1 x=none->H1 dx=none->dx≠x ->
 sp (.ref x::(vs++dvs)) (upd (upd H1 dx (.own x)) x (.ins C dx [])) (λv H2=>v=.non/\Q (.ref x) H2) E
def Binds (K:PySem.W.Frag)(fd:FuncData)(ps:List Str)(ds:List Value):Prop :=
 ∀(s:Shared) (us:List Value),K.In s.heap->(us++ds).length=ps.length->BindsTo s fd ⟨us,[]⟩ (ps.zip (us++ds))
theorem Binds.all {K:PySem.W.Frag}{fd:FuncData}{ps:List Str}(h:∀us:List Value,us.length=ps.length->bindArgs fd ⟨us,[]⟩=pure (ps.zip us)):Binds K fd ps []:=λs us _ hl=>by
 rw[List.append_nil]at hl ⊢
 exact .of_eq (h us hl)
def ybp (CX:CXT)(X:Cx)(E:XK):Prop:=∀(pins:List (Addr×Obj)) (σ:St) (H:Hp) (s:Shared) (e:Value) (s':Shared),Inv X pins σ H s->CX X.stack H s E e s'->X.xe e s'
section
variable {X:Cx}{CX:CXT}{k:Nat}{f C:Addr}{fd:FuncData}{ps:List Str}{sp:Sp}{dvs:List V}{ds:List Value}{E:XK}{x m:Str}{p pos apos:Pos}{e o:Expr}{es:List Expr}{ta:TE}{t:TA}
structure Mk (K:PySem.W.Frag)(C f:Addr):Prop where
 makes:PySem.W.makesIn K C=true
 init:PySem.W.findIn K (.ref C) "__init__"=some (some (.ref f))
 fn:PySem.W.isFn K (.ref f)=true
 kp:PySem.W.keepIn K (.ref C)=true
theorem zjP {pins:List (Addr×Obj)}{σ:St}{H:Hp}{s:Shared}{Q:VK}{us:List Value}{vs:List V}(M:Mk X.K C f)(F:yax X.prog X.w X.K X.mg X.base CX k f fd ps sp)(hr:yai (k+1) X.A)(hb:Binds X.K fd ps ds)(hd:Vals dvs ds)
  (hx:ybp CX X E) (I:Inv X pins σ H s) (r:Vals vs us)
  (h:∀x dx,H x=none->H dx=none->dx≠x->sp (.ref x::(vs++dvs)) (upd (upd H dx (.own x)) x (.ins C dx [])) (λv H2=>v=.non/\Q (.ref x) H2) E) :
  wpAny (model X.prog X.w) X.A (call (.ref C) us) (EP X pins σ Q) X.xe s:=by
 have hq:=h (s.heap.objs.size+1) s.heap.objs.size (I.hok.fresh (Nat.le_succ _)) (I.hok.fresh (Nat.le_refl _)) (Nat.ne_of_lt (Nat.lt_succ_self _))
 have I2:=Inv.made (C:=C) I
 have r2:Vals (V.ref (s.heap.objs.size+1)::(vs++dvs)) (Value.ref (s.heap.objs.size+1)::(us++ds)):=.cons rfl (r.append hd)
 have hl:(Value.ref (s.heap.objs.size+1)::us++ds).length=ps.length:=by
  have e:=r2.length
  rw[F.len _ _ _ _ hq]at e
  exact e.symm
 refine wpAny_call (zjc (f:=f) I.kIn M.makes M.init (beq_iff_eq.mp M.fn) (codeAny_mono (F.run _ X.stack _ _ ⟨Value.ref (s.heap.objs.size+1)::us,[]⟩ (Value.ref (s.heap.objs.size+1)::(us++ds)) _ _ E (hr.make C us [])
  (I2.env0.make C us []) (hb _ (Value.ref (s.heap.objs.size+1)::us) I2.kIn hl) r2 hq) λr s' hq'=>?_))
 cases r with
 |error e=>exact hx pins σ _ _ e s' I2 hq'
 |ok fl =>
  cases fl with
  |ret u =>
   obtain⟨v,H',I3,rv,ev,q3⟩:=I2.after hq'
   subst ev
   exact⟨rv,⟨V.ref (s.heap.objs.size+1),H',I3,rfl,q3⟩⟩
  |next=>exact False.elim hq'
  |brk=>exact False.elim hq'
  |cont=>exact False.elim hq'
theorem zlI (M:Mk X.K C f)(F:yax X.prog X.w X.K X.mg X.base CX k f fd ps sp)(hr:yai (k+1) X.A)(hg:Gl X x)(hm:X.mg x=some (.ref C))(hb:Binds X.K fd ps ds)(hd:Vals dvs ds)(hx:ybp CX X E)
  (ha:PA X (e::es) t) (hdb:(x == ("__debug__":Str))=false:=by decide) (he:starEach (e::es) X.env=(false,eval e X.env)::starEach es X.env:=by rfl) (hpl:(backTo pos (starEach es X.env)).any (·.1)=false:=by rfl) :
  PE X (.Call (.Name x p) (e::es) [] pos) (yed C sp dvs E t):=by
 intro pins s σ H Q I h
 refine wpAny_Call_Name_kw (zbP I hg hm ?_ hdb)
 refine PySem.W.callWith_K (h₀:=X.base) I.ok.mod.kin M.kp (thn (ha pos pins s σ H _ I h) λus s1 ⟨vs,H1,I1,r,q⟩=>⟨I1.kIn,?_⟩) he hpl
 exact zjP M F hr hb hd hx I1 r q
end
def PK (X:Cx)(kws:List Keyword)(t:TA):Prop :=
 ∀(pos:Pos) (pins:List (Addr×Obj)) (s:Shared) (σ:St) (H:Hp) (Q:List V->Hp->Prop),Inv X pins σ H s->t σ H Q->wpAny (model X.prog X.w) X.A (evalAll ((backToKw pos (keywordEach kws X.env)).map (·.2))) (AP X pins σ Q) X.xe s
section
variable {X:Cx}{CX:CXT}{k:Nat}{f C:Addr}{fd:FuncData}{ps ks:List Str}{sp:Sp}{E:XK}{x m:Str}{p pos apos kpos:Pos}{e o:Expr}{es:List Expr}{kws:List Keyword}{te ta:TE}{t tk:TA}{nm:Option Str}
theorem ydb:PK X [] ycG:=λ_ _ _ _ H Q I h=>wpAny_evalAll_nil ⟨[],H,I,.nil,h⟩
theorem zkp (ha:PE X e te)(hr:PK X kws t):PK X (⟨nm,e,kpos⟩ :: kws) (ybP te t):=by
 intro pos pins s σ H Q I h
 show wpAny _ _ (evalAll ((do let v <- eval e X.env;standAt pos;pure v)::(backToKw pos (keywordEach kws X.env)).map (·.2))) _ _ s
 refine wpAny_evalAll_cons (wpAny_bind (thn (ha pins s σ H _ I h) λu s1 ⟨x,H1,I1,r1,q1⟩=>wpAny_bind (wpAny_standAt (wpAny_pure ?_))))
 exact thn (hr pos pins s1 σ H1 _ I1 q1) λus s2 ⟨xs,H2,I2,r2,q2⟩=>⟨x::xs,H2,I2,.cons r1 r2,q2⟩
structure ybo (K:PySem.W.Frag)(fd:FuncData)(ps ks:List Str)(g:List Value->List Value->List Value)(gV:List V->List V->List V):Prop where
 to:∀(s:Shared) (us ws:List Value),K.In s.heap->(g us ws).length=ps.length->BindsTo s fd ⟨us,ks.zip ws⟩ (ps.zip (g us ws))
 rel:∀{vs:List V} {us:List Value} {zs:List V} {ws:List Value},Vals vs us->Vals zs ws->Vals (gV vs zs) (g us ws)
variable {g:List Value->List Value->List Value}{gV:List V->List V->List V}
end
structure yaZ (N P:List Str)(sc:Scope):Prop where
 kind:sc.kind=.function
 co:sc.isCoroutine=false
 gen:sc.isGenerator=false
 nd:N.Nodup
 pre:N.take P.length=P
 par:∀x∈P,sc.names.lookup x=some .local \/ sc.names.lookup x=some .cell
 nofree:∀y∈sc.names,y.2 ≠ .free
theorem zei {kindOf:Str->Option NameKind}{x:Str}:∀{binds:List (Str×Value)} {m:Str->Option Value},(∀v,(x,v)∉binds)->bindL kindOf binds m x=m x
 | [],_,_=>rfl
 | (n,v)::r,m,h=>by
  unfold bindL
  rw[zei λw hw=>h w (List.mem_cons_of_mem _ hw)]
  split
  ·have:x≠n:=by rintro rfl;exact h v List.mem_cons_self
   simp[this]
  ·rfl
theorem zdo {kindOf:Str->Option NameKind}{x:Str}:∀{binds:List (Str×Value)} {m:Str->Option Value},(∀v,(x,v)∉binds)->bindC kindOf binds m x=m x
 | [],_,_=>rfl
 | (n,v)::r,m,h=>by
  unfold bindC
  rw[zdo λw hw=>h w (List.mem_cons_of_mem _ hw)]
  split
  ·rfl
  ·have:x≠n:=by rintro rfl;exact h v List.mem_cons_self
   simp[this]
theorem zd2 {kindOf:Str->Option NameKind}{x:Str}{v:Value}:∀{P:List Str} {vs:List Value} {i:Nat} {m:Str->Option Value},P.Nodup->P[i]?=some x->vs[i]?=some v->kindOf x=some .local ->
  bindL kindOf (P.zip vs) m x=some v
 | [],_,_,_,_,h,_,_=>by simp at h
 |_::_,[],_,_,_,_,h,_=>by simp at h
 |p::P,w::vs,0,m,nd,h1,h2,hk=>by
  simp at h1 h2;subst h1;subst h2
  show bindL kindOf ((p,w)::P.zip vs) m p=_
  unfold bindL
  rw[zei λv hv=>(List.nodup_cons.mp nd).1 (List.of_mem_zip hv).1,if_pos hk]
  simp
 |p::P,w::vs,i+1,m,nd,h1,h2,hk=>by
  show bindL kindOf ((p,w)::P.zip vs) m x=_
  unfold bindL
  exact zd2 (i:=i) (List.nodup_cons.mp nd).2 (by simpa using h1) (by simpa using h2) hk
theorem zdl {kindOf:Str->Option NameKind}{x:Str}{v:Value}:∀{P:List Str} {vs:List Value} {i:Nat} {m:Str->Option Value},P.Nodup->P[i]?=some x->vs[i]?=some v->kindOf x≠some .local ->
  bindC kindOf (P.zip vs) m x=some v
 | [],_,_,_,_,h,_,_=>by simp at h
 |_::_,[],_,_,_,_,h,_=>by simp at h
 |p::P,w::vs,0,m,nd,h1,h2,hk=>by
  simp at h1 h2;subst h1;subst h2
  show bindC kindOf ((p,w)::P.zip vs) m p=_
  unfold bindC
  rw[zdo λv hv=>(List.nodup_cons.mp nd).1 (List.of_mem_zip hv).1,if_neg hk]
  simp
 |p::P,w::vs,i+1,m,nd,h1,h2,hk=>by
  show bindC kindOf ((p,w)::P.zip vs) m x=_
  unfold bindC
  exact zdl (i:=i) (List.nodup_cons.mp nd).2 (by simpa using h1) (by simpa using h2) hk
def start (N:List Str)(vs:List V):St:=vs.map some++List.replicate (N.length - vs.length) none
def yaP (CX:CXT)(P:Program)(w:World)(K:PySem.W.Frag)(mg:Str->Option Value)(base:Heap)(N:List Str)(qual:Str)(scope:Scope)(f:Addr)(cd:Value)(A:Around)(outer:List Env)(s:Shared)(H:Hp)(E:XK):Cx where
 prog:=P
 w:=w
 K:=K
 mg:=mg
 base:=base
 A:=A.deeper (envOfC qual scope s.heap.objs.size f cd)
 N:=N
 s₀:=s
 H₀:=H
 env:=envOfC qual scope s.heap.objs.size f cd
 outer:=outer
 stack:=envOfC qual scope s.heap.objs.size f cd::outer
 ex:=[]
 calm:=true
 fn:=λ_=>true
 pn:=[]
 xe:=λe s'=>wpAny (model P w) (A.deeper (envOfC qual scope s.heap.objs.size f cd)) (leaving (envOfC qual scope s.heap.objs.size f cd) e) (λ_ s''=>CX outer H s E e s'') (λe' s''=>CX outer H s E e' s'') s'
theorem zfF {sc:Scope}{n:Nat}{x:Str}(h:sc.names.lookup x=some .cell):∃c,(cellsFrom n sc.names []).lookup x=some c:=by
 have q:=PySem.W.cellsFrom_some sc.names n [] (.inl h)
 exact Option.isSome_iff_exists.mp q
theorem zhT {CX:CXT}{P:Program}{w:World}{K:PySem.W.Frag}{mg:Str->Option Value}{base:Heap}{N ps:List Str}{qual:Str}{scope:Scope}{f:Addr}{cd:Value}{A:Around}{outer:List Env}{s s1:Shared}{H:Hp}{E:XK}{us:List Value}{vs:List V}
  (S:yaZ N ps scope) (hd:A.handled=none) (e0:ycp P w K mg base A outer s H) (hl:vs.length=ps.length) (r:Vals vs us)
  (x:InCallC s s.heap.objs.size (bindL (envOfC qual scope s.heap.objs.size f cd).kindOf (ps.zip us) λ_=>none) (cellsFrom (s.heap.objs.size+1) scope.names []) (bindC (envOfC qual scope s.heap.objs.size f cd).kindOf (ps.zip us) λ_=>none) s1) :
  Inv (yaP CX P w K mg base N qual scope f cd A outer s H E) [] (start N vs) H s1:=by
 have hpl:ps.length<=N.length:=by have:=congrArg List.length S.pre;rw[List.length_take]at this;omega
 obtain⟨h1,tk,rfl,hk⟩:=x.done
 have noA:∀b:Addr,b∉(yaP CX P w K mg base N qual scope f cd A outer s H E).ex:=λb z=>absurd (show b∈([]:List Addr)from z) (by simp)
 refine⟨⟨e0.mod,S.kind,rfl,rfl,Nat.le_refl _,λy z c h1 h2=>?_,λy hy=>?_,λy c _ h=>?_,λ_=>hd,Around.frames_deeper e0.frames,.inr ⟨rfl,rfl⟩,λb z=>absurd z (noA b),e0.bs,e0.bsz,λb _ _=>noA b,λb z=>absurd z (noA b),e0.funs,e0.frf⟩,
  rfl,e0.bare,Un.kept hk,⟨_,x.toInCall.ns,λi y v h1 h2 h3=>?_⟩,λy c h=>⟨_,x.cell y c h⟩,e0.hok.fresh (Nat.le_refl _),λy c h=>?_,λp hp=>absurd (show p∈([]:List (Addr×Obj))from hp) (by simp),e0.hok.kept hk,?_⟩
 ·exact name_of_addr x.apart (PySem.mem_of_lookup h1) (PySem.mem_of_lookup h2)
 ·have hy:scope.names.lookup y=some .cell \/ scope.names.lookup y=some .free:=hy
  rcases hy with hy|hy
  ·exact zfF hy
  ·exact absurd rfl (S.nofree _ (PySem.mem_of_lookup hy))
 ·exact Nat.le_of_lt (x.above y c (PySem.mem_of_lookup h))
 ·have hi:i<vs.length:=by
   unfold start at h2
   by_cases hi:i<vs.length
   ·exact hi
   ·rw[List.getElem?_append_right (by simpa using hi)]at h2
    rw[List.getElem?_replicate]at h2
    split at h2 <;> cases h2
  have ha:vs[i]?=some v:=by
   unfold start at h2
   rw[List.getElem?_append_left (by simpa using hi),List.getElem?_map]at h2
   cases e:vs[i]? with
   |none=>rw[e]at h2;cases h2
   |some a=>rw[e]at h2;cases h2;rfl
  obtain⟨u,hu,rv⟩:=r.get ha
  have hp:ps[i]?=some y:=by
   rw[<- S.pre,List.getElem?_take_of_lt (by omega)];exact h1
  have ndP:ps.Nodup:=by rw[<- S.pre];exact S.nd.sublist (List.take_sublist _ _)
  refine⟨u,rv,?_⟩
  rcases S.par y (List.mem_of_getElem? hp)with k|k
  ·exact .inl ⟨k,zd2 ndP hp hu k⟩
  ·obtain⟨c,e⟩:=zfF (n:=s.heap.objs.size+1) k
   refine .inr ⟨.inl k,c,e,?_⟩
   have q:=x.cell y c e
   rw[zdl ndP hp hu (by show scope.names.lookup y≠_;rw[k];decide)]at q
   exact q
 ·exact e0.hok.fresh (Nat.le_of_lt (x.above y c (PySem.mem_of_lookup h)))
 ·unfold start
  show _=N.length
  rw[List.length_append,List.length_map,List.length_replicate]
  omega
theorem zoK {CX:CXT}{P:Program}{w:World}{K:PySem.W.Frag}{mg:Str->Option Value}{base:Heap}{k:Nat}{f:Addr}{name qual:Str}{params:Arguments}{body:List Stmt}{scope:Scope}{dV kV doc pm cdv ct oc:Value}{an od:Option Addr}
  {osl:Array (Option Value)} {N ps:List Str} {sp:Sp} (lk:K.lookup f=some ⟨oc,od,.func (PySem.W.fnOf name qual params body scope dV kV doc pm an cdv ct),osl⟩) (hcd:PySem.W.codeIn K cdv qual=true) (S:yaZ N ps scope)
  (len:∀vs H Q E,sp vs H Q E->vs.length=ps.length)
  (hbody:∀(A:Around) (outer:List Env) (s:Shared) (H:Hp) (vs:List V) (Q:VK) (E:XK),yai k (A.deeper (envOfC qual scope s.heap.objs.size f cdv))->sp vs H Q E ->
   ∃t,PSs (yaP CX P w K mg base N qual scope f cdv A outer s H E) body t/\t { nx:=λ_ H'=>Q .non H',rt:=Q } (start N vs) H) :
  yax P w K mg base CX (k+1) f (PySem.W.fnOf name qual params body scope dV kV doc pm an cdv ct) ps sp:=by
 refine⟨len,λA outer s H args us vs Q E hr e0 hb r hsp=>?_⟩
 have hl:=len _ _ _ _ hsp
 have KX:K.In s.heap:=e0.mod.kin.keeps λb o e=>(e0.bs b o e).1
 have lim:s.heap.NoLimit:=e0.mod.nolimit.keeps λb o e=>(e0.bs b o e).1
 have hkind:∀y∈ps.zip us,scope.names.lookup y.1=some .local \/ (scope.names.lookup y.1=some .cell/\((cellsFrom (s.heap.objs.size+1) scope.names []).lookup y.1).isSome=true):=λ⟨n,v⟩ hy=>by
  rcases S.par n (List.of_mem_zip hy).1 with q|q
  ·exact .inl q
  ·exact .inr ⟨q,PySem.W.cellsFrom_some _ _ _ (.inl q)⟩
 refine codeAny_call_function hr.depth (KX _ _ lk) rfl S.co S.gen rfl (PySem.W.codeRec_of KX hcd) (hb _ _ _ _ ?_)
 refine wpAny_newFunctionEnv_cells S.kind hkind λenv he s1 x=>?_
 subst he
 refine⟨lim.keeps x.toInCall.keep,codeAny_func ?_⟩
 obtain⟨t,ht,hq⟩:=hbody A outer s H vs Q E (hr.deeper _) hsp
 have I:Inv (yaP CX P w K mg base N qual scope f cdv A outer s H E) [] (start N vs) H s1:=zhT S hr.hd e0 hl r x
 refine wpAny_mono (ht [] s1 (start N vs) H _ I hq) (λfl s' hs=>?_) λe s' hs=>hs
 have fin:∀{σ':St} {H':Hp} {v:V} {u:Value},Inv (yaP CX P w K mg base N qual scope f cdv A outer s H E) [] σ' H' s'->RelV v u->Q v H'->CE outer P w H s Q u s' :=
  λ{σ' H' v u} J rv q=>⟨v,H',J.os,J.bare,J.base,J.hok,rv,q⟩
 cases fl with
 |ret u =>
  obtain⟨v,σ',H',J,rv,q⟩:=hs
  exact fin J rv q
 |next =>
  obtain⟨σ',H',J,q⟩:=hs
  exact fin (v:=V.non) (u:=Value.none) J rfl q
 |brk =>
  obtain⟨_,_,_,q⟩:=hs
  exact False.elim q
 |cont =>
  obtain⟨_,_,_,q⟩:=hs
  exact False.elim q
section
variable {X:Cx}{x:Str}{p pos:Pos}{e:Expr}{es:List Expr}{t:TA}{id T:String}{r:List V->Hp->VK->Prop}
def tCB (r:List V->Hp->VK->Prop)(t:TA):TE:=λσ H Q=>t σ H λvs H1=>r vs H1 Q
theorem zfy (hc:yaa X (.builtin id) r)(hg:Gl X x)(hm:X.mg x=none)(hv:bootBuiltins x=some (.builtin id))(ha:PA X (e::es) t)(hn:x ≠ "__name__":=by decide)(hdb:(x == ("__debug__":Str))=false:=by decide)
  (he:starEach (e::es) X.env=(false,eval e X.env)::starEach es X.env:=by rfl) (hpl:(backTo pos (starEach es X.env)).any (·.1)=false:=by rfl):PE X (.Call (.Name x p) (e::es) [] pos) (tCB r t):=by
 intro pins s σ H Q I h
 refine wpAny_Call_Name_kw (zbf I hg hm hv ?_ hn hdb)
 exact PyProof.Rows.callWith_builtin1 (thn (ha pos pins s σ H _ I h) λus s1 ⟨vs,H1,I1,r1,q1⟩=>hc pins s1 σ H1 vs us Q I1 r1 q1) he hpl
theorem zir (hc:yaa X (.type T) r)(hg:Gl X x)(hm:X.mg x=none)(hv:bootBuiltins x=some (.type T))(ha:PA X (e::es) t)(hn:x ≠ "__name__":=by decide)(hdb:(x == ("__debug__":Str))=false:=by decide)
  (he:starEach (e::es) X.env=(false,eval e X.env)::starEach es X.env:=by rfl) (hpl:(backTo pos (starEach es X.env)).any (·.1)=false:=by rfl):PE X (.Call (.Name x p) (e::es) [] pos) (tCB r t):=by
 intro pins s σ H Q I h
 refine wpAny_Call_Name_kw (zbf I hg hm hv ?_ hn hdb)
 exact PyProof.Rows.callWith_type1 (thn (ha pos pins s σ H _ I h) λus s1 ⟨vs,H1,I1,r1,q1⟩=>hc pins s1 σ H1 vs us Q I1 r1 q1) he hpl
end
end L2
namespace HT
open PySem PyProof.Rows
section
open PySem.SeqAt
open PySem.AutoSeq1 (wpAny_loadPart')
open PySem.MeetsSeq PySem.MeetsSeq2 PySem.MeetsSeq3
end
section
variable {prog:Program}{w:World}{A:Around}{E:Value->Shared->Prop}{s:Shared}
theorem cat_tup {t b:Addr}{vs ws:List Value}{Q:Value->Shared->Prop}(ht:IsTup s.heap t vs.toArray)(hb:IsTup s.heap b ws.toArray)(hv:vs≠[])
  (h1:ws=[]->Q (.ref t) s) (h2:ws≠[]->Q (.ref s.heap.objs.size) { s with heap:=s.heap.push { cls:=.type "tuple",data:=.seq (vs++ws).toArray } })
  (hsz:vs.length+ws.length<=sizeLine):wpAny (model prog w) A (binaryOp .Add (.ref t) (.ref b)) Q E s:=by
 obtain⟨⟨cls,dd,data,sl⟩,ho,hc,n,hd⟩:=id ht
 obtain⟨⟨cls2,dd2,data2,sl2⟩,ho2,hc2,n2,hd2⟩:=id hb
 simp only at hc hd hc2 hd2
 subst hc hd hc2 hd2
 have e:vs.toArray++ws.toArray=(vs++ws).toArray:=by simp
 by_cases hw:ws=[]
 ·exact concat_meets ⟨_,ho,rfl⟩ ⟨_,ho2,rfl⟩ noFill_tuple_add seq_tuple_add PySem.F.slot_tuple_add PySem.F.entry_tuple_add (PySem.F.args_tuple_add_2 _ _)
   (tuple_addW1 t b vs.toArray ws.toArray n n2 dd dd2 sl sl2 (by simpa using hv) (by simp[hw])) ⟨ho,ho2,h1 hw⟩
 ·refine concat_meets ⟨_,ho,rfl⟩ ⟨_,ho2,rfl⟩ noFill_tuple_add seq_tuple_add PySem.F.slot_tuple_add PySem.F.entry_tuple_add (PySem.F.args_tuple_add_2 _ _)
   (tuple_addW2 t b vs.toArray ws.toArray n n2 dd dd2 sl sl2 (by simpa using hv) (by simpa using hw) (by rw[List.size_toArray,List.size_toArray];exact hsz)) ⟨ho,ho2,?_⟩
  rw[e]
  exact h2 hw
def sIx (n d:Nat):Option Int->Nat
 |none=>d
 |some v=>if v<0 then(v+(n:Int)).toNat else min v.toNat n
theorem sIx_le (n d:Nat)(hd:d<=n)(o:Option Int):sIx n d o<=n:=by
 cases o with
 |none=>exact hd
 |some v =>
  show (if v<0 then(v+(n:Int)).toNat else min v.toNat n)<=n
  by_cases hv:v<0
  ·rw[if_pos hv];omega
  ·rw[if_neg hv];exact Nat.min_le_right _ _
theorem zgX (v:Int)(n d:Nat):(if v<0 then max (v+(n:Int)) 0 else min v (n:Int))=((sIx n d (some v):Nat):Int):=by
 show (if v<0 then max (v+(n:Int)) 0 else min v (n:Int))=(((if v<0 then(v+(n:Int)).toNat else min v.toNat n):Nat):Int)
 by_cases hv:v<0
 ·simp only[if_pos hv];omega
 ·simp only[if_neg hv];omega
theorem zgj (lo hi:Option Int)(n:Nat):Builtin.Slice.sliceAdjust lo hi 1 (n:Int)=(((sIx n 0 lo:Nat):Int),((sIx n n hi:Nat):Int)):=by
 have h1:¬((1:Int)<0):=by omega
 unfold Builtin.Slice.sliceAdjust
 simp only[h1,if_false]
 refine Prod.ext ?_ ?_
 ·cases lo with
  |none=>rfl
  |some v=>exact zgX v n 0
 ·cases hi with
  |none=>rfl
  |some v=>exact zgX v n n
theorem zfZ (i j:Nat):Builtin.Slice.slicePlaces (i:Int) (j:Int) 1=j - i:=by
 unfold Builtin.Slice.slicePlaces
 have h1:(1:Int) > 0:=by omega
 simp only[h1,if_true,Int.ediv_one]
 split <;> omega
theorem zcA {v:Value}{o:Option Int}{Q:Option Int->Shared->Prop}(p:IsPart v o)(h:Q o s):wpAny (model prog w) A (Builtin.Slice.slicePartIndex v) Q E s:=by
 cases p with
 |none=>exact slicePart_none h
 |int i t=>exact slicePart_int h
theorem sliceApplied_gen {sl:Addr}{vl vu:Value}{lo hi:Option Int}{n:Nat}{Q:Int×Int×Nat->Shared->Prop}(hs:s.heap.IsSliceOf sl vl vu .none)(pl:IsPart vl lo)(pu:IsPart vu hi)
  (h:Q (((sIx n 0 lo:Nat):Int),1,sIx n n hi - sIx n 0 lo) s):wpAny (model prog w) A (Builtin.Slice.sliceApplied (.ref sl) (pure (n:Int))) Q E s:=by
 obtain⟨os,hos,hcs,hds⟩:=id hs
 unfold Builtin.Slice.sliceApplied Builtin.Slice.sliceFields
 refine wpAny_bind (wpAny_bind (wpAny_field hos hds (x:=vl) rfl (wpAny_bind (wpAny_field hos hds (x:=vu) rfl (wpAny_bind (wpAny_field hos hds (x:=.none) rfl (wpAny_pure ?_)))))))
 refine wpAny_bind (slicePart_none ?_)
 show wpAny _ _ (if ((1:Int) == 0)=true then _ else _) _ _ s
 rw[if_neg (by decide)]
 refine wpAny_bind (zcA pl (wpAny_bind (zcA pu (wpAny_bind (wpAny_pure ?_)))))
 show wpAny _ _ (match Builtin.Slice.sliceAdjust lo hi 1 (n:Int)with|(lo,hi)=>pure (lo,(1:Int),Builtin.Slice.slicePlaces lo hi 1)) _ _ s
 rw[zgj lo hi n]
 show wpAny _ _ (pure (((sIx n 0 lo:Nat):Int),(1:Int),Builtin.Slice.slicePlaces ((sIx n 0 lo:Nat):Int) ((sIx n n hi:Nat):Int) 1)) _ _ s
 rw[zfZ]
 exact wpAny_pure h
theorem ziC (xs:Array Value)(i k:Nat):((List.range k).filterMap λ(m:Nat)=>xs[((i:Int)+(m:Int)*1).toNat]?).toArray=((xs.toList.drop i).take k).toArray:=by
 have e:(λ(m:Nat)=>xs[((i:Int)+(m:Int)*1).toNat]?)=λm=>xs[i+m]?:=by
  funext m
  have:((i:Int)+(m:Int)*1).toNat=i+m:=by omega
  rw[this]
 rw[e]
 have:=pick_run xs i k
 rw[List.filterMap_map]at this
 have e2:((λx=>xs[x]?) ∘ λx=>i+x)=λm=>xs[i+m]?:=rfl
 rw[e2]at this
 rw[this]
theorem getItem_tuple_cut {t sl:Addr}{items:Array Value}{vl vu:Value}{lo hi:Option Int}{Q:Value->Shared->Prop}(ht:IsTup s.heap t items)(hs:s.heap.IsSliceOf sl vl vu .none)(pl:IsPart vl lo)(pu:IsPart vu hi)
  (hw:¬(sIx items.size 0 lo=0/\sIx items.size items.size hi=items.size))
  (h:Q (.ref s.heap.objs.size) { s with heap:=s.heap.push { cls:=.type "tuple",data:=.seq ((items.toList.drop (sIx items.size 0 lo)).take (sIx items.size items.size hi - sIx items.size 0 lo)).toArray } })
  (hsz:items.size<=sizeLine):wpAny (model prog w) A (getItem (.ref t) (.ref sl)) Q E s:=by
 have htake:sizeOk (.seq ((items.toList.drop (sIx items.size 0 lo)).take (sIx items.size items.size hi - sIx items.size 0 lo)).toArray):=by
  show ((items.toList.drop (sIx items.size 0 lo)).take (sIx items.size items.size hi - sIx items.size 0 lo)).toArray.size<=sizeLine
  rw[List.size_toArray,List.length_take,List.length_drop,Array.length_toList]
  omega
 have hj:sIx items.size items.size hi<=items.size:=sIx_le _ _ (Nat.le_refl _) hi
 obtain⟨os,hos,hcs,hds⟩:=id hs
 have hTs:s.TypeIs (.ref sl) "slice":=⟨os,hos,hcs⟩
 unfold getItem
 try with_reducible refine wpAny_holding ?_
 first|refine wpAny_bind (wpAny_pure ?_)|skip
 refine wpAny_bind (wpAny_sequenceKey ht.typeIs (by decide) ?_)
 refine wpAny_bind (wpAny_callSpecial?_slot (name:=Str.ofString "__getitem__") ht.typeIs PyProof.Rows.slot_tuple_getitem
  (wpAny_call_entry PyProof.Rows.slot_tuple_getitem ht.typeIs entry_tuple_getitem ?_ (args_tuple_getitem _ _)))
 show wpAny _ _ (Builtin.Tuple.tupleItemsOf (.ref t) >>= _) _ _ s
 refine wpAny_bind (tupleItemsOf_ ht ?_)
 refine wpAny_bind (wpAny_typeOf hTs ?_)
 rw[if_pos (by decide)]
 refine wpAny_bind (sliceApplied_gen hs pl pu ?_)
 have hno:¬((((sIx items.size 0 lo:Nat):Int) == 0 && (1:Int) == 1 && (sIx items.size items.size hi - sIx items.size 0 lo) == items.size)=true):=by
  intro q
  rw[Bool.and_eq_true,Bool.and_eq_true]at q
  have q1:((sIx items.size 0 lo:Nat):Int)=0:=eq_of_beq q.1.1
  have q2:sIx items.size items.size hi - sIx items.size 0 lo=items.size:=eq_of_beq q.2
  exact hw ⟨by omega,by omega⟩
 show wpAny _ _ (if (((sIx items.size 0 lo:Nat):Int) == 0 && (1:Int) == 1 && (sIx items.size items.size hi - sIx items.size 0 lo) == items.size)=true then _ else _) _ _ s
 rw[if_neg hno,ziC]
 first
  | exact wpAny_bind (m:=Builtin.Tuple.tupleExact _) (wpAny_newObj_type (wpAny_pure ⟨_,rfl,wpAny_pure h⟩) htake)
  | exact wpAny_bind (m:=Builtin.Tuple.tupleExact _) (wpAny_newObj_type (wpAny_bind (wpAny_pure (wpAny_pure ⟨_,rfl,wpAny_pure h⟩))) htake)
  | exact wpAny_bind (wpAny_bind (m:=Builtin.Tuple.tupleExact _) (wpAny_newObj_type (wpAny_pure (wpAny_pure ⟨_,rfl,wpAny_pure h⟩)) htake))
  | exact wpAny_bind (wpAny_bind (m:=Builtin.Tuple.tupleExact _) (wpAny_newObj_type (wpAny_pure ⟨_,rfl,wpAny_pure h⟩) htake))
end
end HT
namespace L2
open PySem PySem.Spec PyProof.Rows
abbrev TO:=St->Hp->(Option Int->Hp->Prop)->Prop
def PO (X:Cx)(e:Option Expr)(t:TO):Prop :=
 ∀(pins:List (Addr×Obj)) (s:Shared) (σ:St) (H:Hp) (Q:Option Int->Hp->Prop),Inv X pins σ H s->t σ H Q ->
  wpAny (model X.prog X.w) X.A (evalPart e X.env) (λu s'=>∃o H',Inv X pins σ H' s'/\IsPart u o/\Q o H') X.xe s
def ycx:TO:=λ_ H Q=>Q none H
theorem zgA {ns:List Int}:∀{us:List Value},Vals (ns.map V.int) us->IntsAre us ns:=by
 induction ns with
 |nil=>intro us r;rw[List.map_nil]at r;cases r;exact .nil
 |cons n ns ih =>
  intro us r
  rw[List.map_cons]at r
  cases r with
  |cons r1 r2 =>
   obtain⟨t,e⟩:=r1
   subst e
   exact .cons n t (ih r2)
section
variable {X:Cx}{e:Expr}{te:TE}{lo hi:Option Expr}{tl th:TO}{pos p2:Pos}
theorem zk6:PO X none ycx:=by
 intro pins s σ H Q I h
 rw[evalPart_none]
 exact wpAny_pure ⟨none,H,I,.none,h⟩
def SlR (X:Cx)(r:V->Option Int->Option Int->Hp->VK->Prop):Prop :=
 ∀(pins:List (Addr×Obj)) (s:Shared) (σ:St) (H:Hp) (x:V) (v vl vu:Value) (lo hi:Option Int) (sl:Addr) (Q:VK),Inv X pins σ H s->RelV x v->s.heap.IsSliceOf sl vl vu .none->IsPart vl lo->IsPart vu hi->r x lo hi H Q ->
  ∃T id,typeLookup (.type T) "__getitem__"=pure (some (.builtin id))/\s.TypeIs v T/\wpAny (model X.prog X.w) X.A (getItem v (.ref sl)) (EP X pins σ Q) X.xe s
def tSl (r:V->Option Int->Option Int->Hp->VK->Prop)(te:TE)(tl th:TO):TE:=λσ H Q=>te σ H λx H1=>tl σ H1 λl H2=>th σ H2 λu H3=>r x l u H3 Q
theorem zi7 {r:V->Option Int->Option Int->Hp->VK->Prop}(hr:SlR X r)(he:PE X e te)(hl:PO X lo tl)(hu:PO X hi th):PE X (.Subscript e (.Slice lo hi none p2) pos) (tSl r te tl th):=by
 intro pins s σ H Q I h
 refine Subscript_ (thn (he pins s σ H _ I h) λv s1 ⟨x,H1,I1,r1,q1⟩=>?_)
 refine wpAny_Slice (thn (hl pins s1 σ H1 _ I1 q1) λvl s2 ⟨l,H2,I2,pl,q2⟩=>thn (hu pins s2 σ H2 _ I2 q2) λvu s3 ⟨u,H3,I3,pu,q3⟩=>?_)
 rw[evalPart_none]
 refine wpAny_pure ?_
 have I4:Inv X pins σ H3 { s3 with heap:=s3.heap.push { cls:=.type "slice",data:=.fields #[vl,vu,.none] } }:=I3.kept (t':=s3.toks) λb ob q=>Heap.get?_push_of_some _ q
 obtain⟨T,id,hT,ht,hg⟩:=hr pins { s3 with heap:=s3.heap.push { cls:=.type "slice",data:=.fields #[vl,vu,.none] } } σ H3 x v vl vu l u s3.heap.objs.size Q I4 r1 (Heap.IsSliceOf.new ..) pl pu q3
 show wpAny (model X.prog X.w) X.A (subscriptTail e (.Slice lo hi none p2) v (.ref s3.heap.objs.size)) (EP X pins σ Q) X.xe { s3 with heap:=s3.heap.push { cls:=.type "slice",data:=.fields #[vl,vu,.none] } }
 exact tail_any (ops:=[.ref s3.heap.objs.size,v]) ht hT hg (by ac_rfl)
def yca (xs:List V)(lo hi:Option Int):List V:=(xs.drop (HT.sIx xs.length 0 lo)).take (HT.sIx xs.length xs.length hi - HT.sIx xs.length 0 lo)
theorem zcd (xs:List V)(lo hi:Option Int):(yca xs lo hi).length<=xs.length:=by
 unfold yca
 rw[List.length_take,List.length_drop]
 omega
def yfT (K:PySem.W.Frag):V->Option Int->Option Int->Hp->VK->Prop:=λx lo hi H Q=>∃a xs,x=.ref a/\SqT K H a xs /\
 ¬(HT.sIx xs.length 0 lo=0/\HT.sIx xs.length xs.length hi=xs.length)/\∀p,H p=none->Q (.ref p) (upd H p (.tup (yca xs lo hi)))
theorem zoj:SlR X (yfT X.K):=by
 intro pins s σ H x v vl vu lo hi sl Q I rx hs pl pu h
 obtain⟨a,xs,rfl,hx,hw,q⟩:=h
 cases rx
 obtain⟨its,r,ht,hz⟩:=I.tuple hx
 have hlen:its.toArray.size=xs.length:=by rw[List.size_toArray];exact r.length.symm
 refine⟨"tuple",_,PyProof.Rows.slot_tuple_getitem.lookup,ht.typeIs,?_⟩
 refine HT.getItem_tuple_cut ht hs pl pu (by rw[hlen];exact hw) ?_ (by rw[hlen];exact hz)
 rw[hlen]
 refine⟨.ref s.heap.objs.size,_,I.laid (t':=s.toks) (o:=.tup (yca xs lo hi)) (λb ob q=>Heap.get?_push_of_some _ q) (Nat.le_refl _) ?_,rfl,q _ (I.hok.fresh (Nat.le_refl _))⟩
 exact⟨Nat.le_trans (zcd xs lo hi) hz,_,(r.drop (HT.sIx xs.length 0 lo)).take (HT.sIx xs.length xs.length hi - HT.sIx xs.length 0 lo),IsTup.new _ _⟩
def yen (K:PySem.W.Frag):R2:=λx y H Q=>∃a b xs ys,x=.ref a/\y=.ref b/\SqT K H a xs/\SqT K H b ys/\xs≠[]/\xs.length+ys.length<=sizeLine /\
 (ys=[]->Q (.ref a) H)/\(ys≠[]->∀p,H p=none->Q (.ref p) (upd H p (.tup (xs++ys))))
theorem Vals.nil_iff {xs:List V}{us:List Value}(r:Vals xs us):us=[] ↔ xs=[]:=by
 cases r with
 |nil=>simp
 |cons _ _=>simp
theorem zlY:OpR X (binaryOp .Add) (yen X.K):=by
 intro pins s σ H x y v u Q I rx ry h
 obtain⟨a,b,xs,ys,rfl,rfl,ha,hb,hx,hz,q1,q2⟩:=h
 cases rx
 cases ry
 obtain⟨its,r1,p1,_⟩:=I.tuple ha
 obtain⟨its2,r2,p2,_⟩:=I.tuple hb
 refine HT.cat_tup p1 p2 (λz=>hx (r1.nil_iff.mp z)) (λz=>⟨.ref a,H,I,rfl,q1 (r2.nil_iff.mp z)⟩) (λz=>?_) (by rw[<- r1.length,<- r2.length];exact hz)
 refine⟨.ref s.heap.objs.size,_,I.laid (t':=s.toks) (o:=.tup (xs++ys)) (λb ob q=>Heap.get?_push_of_some _ q) (Nat.le_refl _) ?_,rfl,q2 (λw=>z (r2.nil_iff.mpr w)) _ (I.hok.fresh (Nat.le_refl _))⟩
 exact⟨by rw[List.length_append];exact hz,_,r1.append r2,IsTup.new _ _⟩
end
def ixN (n:Nat)(i:Int):Option Nat:=if 0<=i then(if i<n then some i.toNat else none)else if -(n:Int)<=i then some (i+n).toNat else none
def atI {α:Type}(xs:List α)(i:Int):Option α:=(ixN xs.length i).bind λj=>xs[j]?
theorem zg5 {n:Nat}{i:Int}{j:Nat}(h:ixN n i=some j):seqIndex? i n=some j/\j<n/\-(n:Int)<=i/\i<n:=by
 unfold ixN at h
 by_cases h0:0<=i
 ·rw[if_pos h0]at h
  by_cases h1:i<n
  ·rw[if_pos h1]at h
   have e:i.toNat=j:=Option.some.inj h
   exact⟨by rw[seqIndex_of h0 h1,e],by omega,by omega,h1⟩
  ·rw[if_neg h1]at h;cases h
 ·rw[if_neg h0]at h
  by_cases h1:-(n:Int)<=i
  ·rw[if_pos h1]at h
   have e:(i+n).toNat=j:=Option.some.inj h
   exact⟨by rw[seqIndex_neg (by omega) h1,e],by omega,h1,by omega⟩
  ·rw[if_neg h1]at h;cases h
theorem zfa {α:Type}{xs:List α}{i:Int}{v:α}(h:atI xs i=some v):∃j,seqIndex? i xs.length=some j/\xs[j]?=some v/\j<xs.length/\-(xs.length:Int)<=i/\i<xs.length:=by
 unfold atI at h
 cases e:ixN xs.length i with
 |none=>rw[e]at h;cases h
 |some j =>
  rw[e]at h
  obtain⟨h1,h2,h3,h4⟩:=zg5 e
  exact⟨j,h1,h,h2,h3,h4⟩
def ybf (b:Expr):Prop:=∀o i,subscripted b false o i=operate [o,i] (getItem o i)
def IxR (X:Cx)(r:R2):Prop :=
 ∀(value slice:Expr) (pins:List (Addr×Obj)) (s:Shared) (σ:St) (H:Hp) (x y:V) (v u:Value) (Q:VK),Inv X pins σ H s->RelV x v->RelV y u->r x y H Q ->
  subscripted slice false v u=operate [v,u] (getItem v u)->wpAny (model X.prog X.w) X.A (subscriptTail value slice v u) (EP X pins σ Q) X.xe s
def MtR (X:Cx)(id:String)(r:V->List V->Hp->VK->Prop):Prop :=
 ∀(pins:List (Addr×Obj)) (s:Shared) (σ:St) (H:Hp) (x:V) (xs:List V) (v:Value) (us:List Value) (Q:VK),Inv X pins σ H s->RelV x v->Vals xs us->r x xs H Q ->
  wpAny (model X.prog X.w) X.A (call (.builtin id) (v::us)) (EP X pins σ Q) X.xe s
section
variable {X:Cx}{a b:Expr}{ta tb:TE}{pos:Pos}
theorem IxR.or {r r':R2}(h:IxR X r)(h':IxR X r'):IxR X (λx y H Q=>r x y H Q \/ r' x y H Q):=by
 intro value slice pins s σ H x y v u Q I rx ry q hs
 rcases q with q|q
 ·exact h value slice pins s σ H x y v u Q I rx ry q hs
 ·exact h' value slice pins s σ H x y v u Q I rx ry q hs
theorem zoP {r:R2}(hr:IxR X r)(ha:PE X a ta)(hb:PE X b tb)(hs:ybf b):PE X (.Subscript a b pos) (tOp r ta tb):=by
 intro pins s σ H Q I h
 exact Subscript_ (yem ha hb I h λv u s2 x y H2 I2 rx ry q=>hr a b pins s2 σ H2 x y v u Q I2 rx ry q (hs _ _))
def yeE (K:PySem.W.Frag):R2:=λx y H Q=>∃p xs i v,x=.ref p/\y=.int i/\SqL K H p xs/\atI xs i=some v/\Q v H
def yeB (K:PySem.W.Frag):R2:=λx y H Q=>∃p xs i v,x=.ref p/\y=.int i/\SqT K H p xs/\atI xs i=some v/\Q v H
def yeA:R2:=λx y H Q=>∃z i c,x=.str z/\y=.int i/\z.length<=sizeLine/\atI z.cps.toList i=some c/\Q (.str ⟨#[c]⟩) H
theorem ycz:IxR X (yeE X.K):=by
 intro value slice pins s σ H x y v u Q I rx ry h hs
 obtain⟨p,xs,i,z,rfl,rfl,hq,he,q⟩:=h
 cases rx
 obtain⟨t,rfl⟩:=ry
 obtain⟨its,r,pl,hz⟩:=I.list hq
 obtain⟨j,h1,h2,h3,h4,h5⟩:=zfa he
 obtain⟨w,ew,rw'⟩:=r.get h2
 have hl:=r.length
 have hn:=yaJ
 have fin:EP X pins σ Q w s:=⟨z,H,I,rw',q⟩
 by_cases h0:0<=i
 ·have hj:i.toNat=j:=by
   rw[seqIndex_of h0 h5]at h1
   exact Option.some.inj h1
  exact item_listR pl.isList h0 (by omega) (by rw[hj];simpa using ew) fin hs
 ·have hj:(i+(its.toArray.size:Int)).toNat=j:=by
   rw[seqIndex_neg (by omega) h4]at h1
   rw[List.size_toArray,<- hl]
   exact Option.some.inj h1
  exact subscriptTail_builtinR (x:=w) pl.isList.typeIs slot_list_getitem.lookup
   (wpAny_getItem_list_neg (Q:=λr s'=>r=w/\EP X pins σ Q r s') pl.isList (by omega) (by rw[List.size_toArray] <;> omega) (by omega) (by rw[hj];simpa using ew) ⟨rfl,fin⟩) hs
theorem ydj:IxR X (yeB X.K):=by
 intro value slice pins s σ H x y v u Q I rx ry h hs
 obtain⟨p,xs,i,z,rfl,rfl,hq,he,q⟩:=h
 cases rx
 obtain⟨t,rfl⟩:=ry
 obtain⟨its,r,pl,hz⟩:=I.tuple hq
 obtain⟨j,h1,h2,h3,h4,h5⟩:=zfa he
 obtain⟨w,ew,rw'⟩:=r.get h2
 have hl:=r.length
 have hn:=yaJ
 have fin:EP X pins σ Q w s:=⟨z,H,I,rw',q⟩
 exact subscriptTail_builtinR (x:=w) pl.typeIs slot_tuple_getitem.lookup
  (getItem_tuple (j:=j) (Q:=λr s'=>r=w/\EP X pins σ Q r s') pl (by omega) (by omega) (by rw[List.size_toArray,<- hl];exact h1) (by simpa using ew) ⟨rfl,fin⟩) hs
theorem zm4:IxR X yeA:=by
 intro value slice pins s σ H x y v u Q I rx ry h hs
 obtain⟨z,i,c,rfl,rfl,hz,he,q⟩:=h
 obtain⟨t,rfl⟩:=rx
 obtain⟨t',rfl⟩:=ry
 obtain⟨j,h1,h2,h3,h4,h5⟩:=zfa he
 have hl:z.cps.toList.length=z.length:=by simp[Str.length]
 rw[hl]at h1 h4 h5
 have hn:=yaJ
 exact tail_any (typeIs_str s z t) slot_str_getitem.lookup (getItem_str (c:=c) (by
  have e1:decide (i < -(2^63:Int))=false:=decide_eq_false (by omega)
  have e2:decide (i ≥ 2^63)=false:=decide_eq_false (by omega)
  rw[e1,e2,Bool.or_false]) (by rw[h1];simpa using h2) ⟨.str ⟨#[c]⟩,H,I.tok _,⟨_,rfl⟩,q⟩) hs
def rIx (K:PySem.W.Frag):R2:=λx y H Q=>yeE K x y H Q \/ yeB K x y H Q \/ yeA x y H Q
theorem zfU:IxR X (rIx X.K):=ycz.or (ydj.or zm4)
theorem zge (its:List Value)(n j:Nat)(u:Value):Obj.mapSeq (·.setIfInBounds j u) { cls:=.type "list",data:=.seq its.toArray n }={ cls:=.type "list",data:=.seq (its.set j u).toArray n }:=by
 simp[Obj.mapSeq]
theorem Inv.lst {pins:List (Addr×Obj)}{σ:St}{H:Hp}{s:Shared}{p:Addr}{xs:List V}(I:Inv X pins σ H s)(h:H p=some (.lst xs)) :
  ∃(its:List Value) (n:Nat),Vals xs its/\s.heap.get? p=some { cls:=.type "list",data:=.seq its.toArray n }/\xs.length<=sizeLine:=by
 obtain⟨z,its,n,r,e⟩:=I.hok p _ h
 exact⟨its,n,r,e,z⟩
theorem Inv.lstUpd {pins:List (Addr×Obj)}{σ:St}{H:Hp}{s:Shared}{p:Addr}{xs ys:List V}{its its':List Value}{n n':Nat}{f:Obj->Obj}(I:Inv X pins σ H s)(h:H p=some (.lst xs))
  (ho:s.heap.get? p=some { cls:=.type "list",data:=.seq its.toArray n }) (hf:f { cls:=.type "list",data:=.seq its.toArray n }={ cls:=.type "list",data:=.seq its'.toArray n' }) (r:Vals ys its') (hz:ys.length<=sizeLine) (t:Nat) :
  Inv X pins σ (upd H p (.lst ys)) { s with heap:=s.heap.update p f,toks:=t }:=by
 have e:(s.heap.update p f).get? p=some { cls:=.type "list",data:=.seq its'.toArray n' }:=by
  rw[Heap.get?_update_self f ho (by rw[hf] <;> rfl),hf]
 refine I.write (x:=p) (e:=p) (by rw[h];trivial) (.inl rfl) (λb u hb q=>(Heap.get?_update_other _ _ (Ne.symm hb)).trans q) ⟨_,e⟩ ?_
 exact⟨hz,its',n',r,e⟩
def ycR:V->V->V->Hp->(Hp->Prop)->Prop:=λo i v H Q=>∃p xs k j,o=.ref p/\i=.int k/\H p=some (.lst xs)/\ixN xs.length k=some j/\Q (upd H p (.lst (xs.set j v)))
theorem zfp:yeq X ycR:=by
 intro pins s σ H o i v ov iv u Q I ro ri rv h
 obtain⟨p,xs,k,j,rfl,rfl,hp,hj,q⟩:=h
 cases ro
 obtain⟨t,rfl⟩:=ri
 obtain⟨its,n,r,ho,hz⟩:=I.lst hp
 obtain⟨h1,h2,h3,h4⟩:=zg5 hj
 have hl:=r.length
 have hn:=yaJ
 have I':Inv X pins σ (upd H p (.lst (xs.set j v))) { s with heap:=s.heap.update p (Obj.mapSeq (·.setIfInBounds j u)) } :=
  I.lstUpd hp ho (zge its n j u) (r.set rv j) (by rw[List.length_set];exact hz) s.toks
 by_cases h0:0<=k
 ·have hk:k.toNat=j:=by
   rw[seqIndex_of h0 h4]at h1
   exact Option.some.inj h1
  exact PySem.W.ki_setAt ho h0 (by omega) (by rw[List.size_toArray,<- hl];exact h4) (by rw[hk];exact⟨_,I',q⟩)
 ·have hk:(k+(its.toArray.size:Int)).toNat=j:=by
   rw[seqIndex_neg (by omega) h3]at h1
   rw[List.size_toArray,<- hl]
   exact Option.some.inj h1
  exact PySem.W.ki_setBack ho (by omega) (by rw[List.size_toArray,<- hl];exact h3) (by omega) (by rw[hk];exact⟨_,I',q⟩)
theorem zdQ (lo hi:Option Int)(n:Nat):(sliceBounds lo hi none n).1=((HT.sIx n 0 lo:Nat):Int)/\(sliceBounds lo hi none n).2.1=((HT.sIx n n hi:Nat):Int)/\(sliceBounds lo hi none n).2.2=1:=by
 refine⟨?_,?_,rfl⟩
 ·cases lo with
  |none=>simp[sliceBounds,HT.sIx]
  |some i =>
   simp only[sliceBounds,HT.sIx,Option.getD_none,show (1:Int) > 0 by decide,if_true]
   by_cases h:i<0
   ·simp only[h,if_true] <;> omega
   ·simp only[h,if_false] <;> omega
 ·cases hi with
  |none=>simp[sliceBounds,HT.sIx]
  |some i =>
   simp only[sliceBounds,HT.sIx,Option.getD_none,show (1:Int) > 0 by decide,if_true]
   by_cases h:i<0
   ·simp only[h,if_true] <;> omega
   ·simp only[h,if_false] <;> omega
theorem zc5 (its:List Value)(lo hi:Option Int):slicePick its.toArray lo hi none=((its.drop (HT.sIx its.length 0 lo)).take (HT.sIx its.length its.length hi - HT.sIx its.length 0 lo)).toArray:=by
 obtain⟨h1,h2,h3⟩:=zdQ lo hi its.toArray.size
 unfold slicePick
 rw[h1,h2,h3]
 simp only[sliceRange_one,pick_run,List.size_toArray] <;> rfl
def yfs (K:PySem.W.Frag):V->Option Int->Option Int->Hp->VK->Prop:=λx lo hi H Q=>∃a xs,x=.ref a/\SqL K H a xs/\∀p,H p=none->Q (.ref p) (upd H p (.lst (yca xs lo hi)))
theorem zhW:SlR X (yfs X.K):=by
 intro pins s σ H x v vl vu lo hi sl Q I rx hs pl pu h
 obtain⟨a,xs,rfl,hx,q⟩:=h
 cases rx
 obtain⟨its,r,ht,hz⟩:=I.list hx
 have hlen:=r.length
 refine⟨"list",_,slot_list_getitem.lookup,ht.isList.typeIs,?_⟩
 refine wpAny_getItem_list_slice ht.isList hs pl pu .none (by simp) ?_ (by rw[List.size_toArray] <;> omega)
 rw[zc5,<- hlen]
 refine⟨.ref s.heap.objs.size,_,I.laid (t':=s.toks) (o:=.lst (yca xs lo hi)) (λb ob q=>Heap.get?_push_of_some _ q) (Nat.le_refl _) ?_,rfl,q _ (I.hok.fresh (Nat.le_refl _))⟩
 exact⟨Nat.le_trans (zcd xs lo hi) hz,_,0,(r.drop (HT.sIx xs.length 0 lo)).take (HT.sIx xs.length xs.length hi - HT.sIx xs.length 0 lo),Heap.get?_push_size _ rfl⟩
def yaT:V->Bool
 | .non=>true
 | .bl _=>true
 | .int _=>true
 | .str _=>true
 |_=>false
def eqV:V->V->Bool
 | .non,.non=>true
 | .bl a,.bl b=>a == b
 | .bl a,.int b=>(if a then 1 else 0) == b
 | .int a,.bl b=>a == (if b then 1 else 0)
 | .int a,.int b=>a == b
 | .str a,.str b=>a == b
 |_,_=>false
theorem zl8 {A:Around}{s:Shared}{y x:V}{u v:Value}(ry:RelV y u)(rx:RelV x v)(fy:yaT y=true)(fx:yaT x=true):SeqAt.EqAt A s u v (eqV y x):=by
 cases y with
 |non =>
  cases ry
  cases x with
  |non=>cases rx;exact SeqAt.EqAt.same _
  |bl b=>cases rx;exact SeqAt.EqAt.none_bool b
  |int b=>obtain⟨t,rfl⟩:=rx;exact SeqAt.EqAt.none_int b t
  |str b=>obtain⟨t,rfl⟩:=rx;exact SeqAt.EqAt.none_str b t
  |_=>exact absurd (show false=true from fx) Bool.false_ne_true
 |bl a =>
  cases ry
  cases x with
  |non=>cases rx;exact SeqAt.EqAt.bool_none a
  |bl b=>cases rx;exact SeqAt.EqAt.bool_bool a b
  |int b=>obtain⟨t,rfl⟩:=rx;exact SeqAt.EqAt.bool_int a b t
  |str b=>obtain⟨t,rfl⟩:=rx;exact SeqAt.EqAt.bool_str a b t
  |_=>exact absurd (show false=true from fx) Bool.false_ne_true
 |int a =>
  obtain⟨t',rfl⟩:=ry
  cases x with
  |non=>cases rx;exact SeqAt.EqAt.int_none a t'
  |bl b=>cases rx;exact SeqAt.EqAt.int_bool a t' b
  |int b=>obtain⟨t,rfl⟩:=rx;exact SeqAt.EqAt.int_int a t' b t
  |str b=>obtain⟨t,rfl⟩:=rx;exact SeqAt.EqAt.int_str a t' b t
  |_=>exact absurd (show false=true from fx) Bool.false_ne_true
 |str a =>
  obtain⟨t',rfl⟩:=ry
  cases x with
  |non=>cases rx;exact SeqAt.EqAt.str_none a t'
  |bl b=>cases rx;exact SeqAt.EqAt.str_bool a t' b
  |int b=>obtain⟨t,rfl⟩:=rx;exact SeqAt.EqAt.str_int a t' b t
  |str b=>obtain⟨t,rfl⟩:=rx;exact SeqAt.EqAt.str_str a t' b t
  |_=>exact absurd (show false=true from fx) Bool.false_ne_true
 |_=>exact absurd (show false=true from fy) Bool.false_ne_true
def eqU (x:V)(u:Value):Bool:=match u with
 | .none=>eqV .non x
 | .bool b=>eqV (.bl b) x
 | .int i _=>eqV (.int i) x
 | .str z _=>eqV (.str z) x
 |_=>false
theorem zkf {x y:V}{u:Value}(r:RelV y u)(f:yaT y=true):eqU x u=eqV y x:=by
 cases y with
 |non=>cases r;rfl
 |bl b=>cases r;rfl
 |int i=>obtain⟨t,rfl⟩:=r;rfl
 |str z=>obtain⟨t,rfl⟩:=r;rfl
 |_=>exact absurd (show false=true from f) Bool.false_ne_true
theorem zcc {x:V}:∀{xs:List V} {us:List Value},Vals xs us->xs.all yaT=true->us.any (eqU x)=xs.any λy=>eqV y x
 |_,_,.nil,_=>rfl
 |y::xs,u::us,.cons r t,f=>by
  rw[List.all_cons,Bool.and_eq_true]at f
  rw[List.any_cons,List.any_cons,zkf r f.1,zcc t f.2]
theorem zaK {A:Around}{s:Shared}{x:V}{v:Value}(rx:RelV x v)(fx:yaT x=true):∀{xs:List V} {us:List Value},Vals xs us->xs.all yaT=true->∀u∈us,SeqAt.EqAt A s u v (eqU x u)
 |_,_,.nil,_=>λu hu=>by cases hu
 |y::xs,u::us,.cons r t,f=>λu' hu=>by
  rw[List.all_cons,Bool.and_eq_true]at f
  rcases List.mem_cons.mp hu with rfl|hu
  ·rw[zkf r f.1];exact zl8 r rx f.1 fx
  ·exact zaK rx fx t f.2 u' hu
def inV (x:V)(xs:List V):Bool:=xs.any λy=>eqV y x
def rIn (K:PySem.W.Frag)(neg:Bool):R2:=λx y H Q=>∃p xs,y=.ref p/\(SqL K H p xs \/ SqT K H p xs)/\yaT x=true/\xs.all yaT=true/\Q (.bl (if neg then !inV x xs else inV x xs)) H
theorem zdU:OpR X (compareOp .In) (rIn X.K false):=by
 intro pins s σ H x y v u Q I rx ry h
 obtain⟨p,xs,rfl,hq,fx,fs,q⟩:=h
 cases ry
 rcases hq with hq|hq
 ·obtain⟨its,r,pl,hz⟩:=I.list hq
  refine SeqAt.in_listAt (eqU x) pl.isList (λw hw=>zaK rx fx r fs w (by simpa using hw)) ⟨.bl _,H,I,rfl,?_⟩
  rw[show its.toArray.any (eqU x)=its.any (eqU x)by simp,zcc r fs]
  exact q
 ·obtain⟨its,r,pl,hz⟩:=I.tuple hq
  refine SeqAt.in_tupleAt (eqU x) pl (λw hw=>zaK rx fx r fs w (by simpa using hw)) ⟨.bl _,H,I,rfl,?_⟩
  rw[show its.toArray.any (eqU x)=its.any (eqU x)by simp,zcc r fs]
  exact q
theorem zbk:OpR X (compareOp .NotIn) (rIn X.K true):=by
 intro pins s σ H x y v u Q I rx ry h
 obtain⟨p,xs,rfl,hq,fx,fs,q⟩:=h
 cases ry
 rcases hq with hq|hq
 ·obtain⟨its,r,pl,hz⟩:=I.list hq
  refine SeqAt.notIn_listAt (eqU x) pl.isList (λw hw=>zaK rx fx r fs w (by simpa using hw)) ⟨.bl _,H,I,rfl,?_⟩
  rw[show its.toArray.any (eqU x)=its.any (eqU x)by simp,zcc r fs]
  exact q
 ·obtain⟨its,r,pl,hz⟩:=I.tuple hq
  refine SeqAt.notIn_tupleAt (eqU x) pl (λw hw=>zaK rx fx r fs w (by simpa using hw)) ⟨.bl _,H,I,rfl,?_⟩
  rw[show its.toArray.any (eqU x)=its.any (eqU x)by simp,zcc r fs]
  exact q
theorem zdm:yaa X (.builtin "len") (λxs H Q=>∃p ys,xs=[.ref p]/\(SqL X.K H p ys \/ SqT X.K H p ys)/\Q (.int ys.length) H):=by
 intro pins s σ H xs us Q I r h
 obtain⟨p,ys,rfl,hq,q⟩:=h
 obtain⟨u,rfl,rx⟩:=vals1 r
 cases rx
 have hn:=yaJ
 rcases hq with hq|hq
 ·obtain⟨its,r',pl,hz⟩:=I.list hq
  have hlen:=r'.length
  exact Calls.call_len_list pl.isList (by simp only[List.size_toArray] <;> omega) ⟨.int ys.length,H,I.tok _,⟨s.toks+1,by rw[List.size_toArray,hlen]⟩,q⟩
 ·obtain⟨its,r',pl,hz⟩:=I.tuple hq
  have hlen:=r'.length
  exact len_tuple pl (by simp only[List.size_toArray] <;> omega) ⟨.int ys.length,H,I.tok _,⟨s.toks+1,by rw[List.size_toArray,hlen]⟩,q⟩
theorem zd3:yaa X (.builtin "len") (λxs H Q=>∃z,xs=[.str z]/\z.length<=sizeLine/\Q (.int z.length) H):=by
 intro pins s σ H xs us Q I r h
 obtain⟨z,rfl,hz,q⟩:=h
 obtain⟨u,rfl,t,rfl⟩:=vals1 r
 have hn:=yaJ
 exact len_str (by omega) ⟨.int z.length,H,I.tok _,⟨_,rfl⟩,q⟩
theorem zaC:yaa X (.type "tuple") (λxs H Q=>∃p ys,xs=[.ref p]/\((SqL X.K H p ys/\∀l,H l=none->Q (.ref l) (upd H l (.tup ys))) \/ (SqT X.K H p ys/\Q (.ref p) H))):=by
 intro pins s σ H xs us Q I r h
 obtain⟨p,ys,rfl,h⟩:=h
 obtain⟨u,rfl,rx⟩:=vals1 r
 cases rx
 rcases h with⟨hq,q⟩|⟨hq,q⟩
 ·obtain⟨its,r',pl,hz⟩:=I.list hq
  have hlen:=r'.length
  refine call_tuple_list pl.isList (λh' kp=>?_) (by simp only[List.size_toArray] <;> omega)
  have I1:Inv X pins σ H { s with heap:=h' }:=I.kept (t':=s.toks) kp
  have I2:Inv X pins σ (upd H h'.objs.size (.tup ys)) { s with heap:=h'.push { cls:=.type "tuple",data:=.seq its.toArray } } :=
   I1.laid (t':=s.toks) (λb o e=>Heap.get?_push_of_some _ e) (Nat.le_refl _) (show yN X.prog X.w _ _ _ (.tup ys)from ⟨hz,its,r',IsTup.new _ _⟩)
  exact⟨.ref h'.objs.size,_,I2,rfl,q _ (I1.hok.fresh (Nat.le_refl _))⟩
 ·obtain⟨its,r',pl,hz⟩:=I.tuple hq
  exact call_tuple_same pl ⟨.ref p,H,I,rfl,q⟩
def tyV (K:PySem.W.Frag)(T:String)(x:V)(H:Hp):Prop:=match x with
 | .str _=>T="str"
 | .int _=>T="int"
 | .ref p=>(T="list"/\∃xs,SqL K H p xs) \/ (T="tuple"/\∃o,K.lookup p=some o/\o.cls=.type "tuple"/\o.dict=none) \/
   (T="dict"/\((∃kvs,H p=some (.dK kvs)) \/ ∃kvs,H p=some (.dT kvs))) \/ (T="set"/\∃S n,H p=some (.set S n))
 |_=>False
theorem zmk {pins:List (Addr×Obj)}{σ:St}{H:Hp}{s:Shared}{T:String}{x:V}{v:Value}(I:Inv X pins σ H s)(r:RelV x v)(ty:tyV X.K T x H) :
  s.TypeIs v T/\∀a,v=.ref a->∃ob,s.heap.get? a=some ob/\ob.dict=none:=by
 cases x with
 |str z =>
  obtain⟨t,rfl⟩:=r
  cases (show T="str" from ty)
  exact⟨typeIs_str s z t,λ_ e=>nomatch e⟩
 |int i =>
  obtain⟨t,rfl⟩:=r
  cases (show T="int" from ty)
  exact⟨typeIs_int s i t,λ_ e=>nomatch e⟩
 |ref p =>
  cases r
  rcases ty with⟨rfl,xs,hq⟩|⟨rfl,o,hk,hc,hd⟩|⟨rfl,hk⟩|⟨rfl,S,n,hk⟩
  ·obtain⟨its,_,pl,_⟩:=I.list hq
   refine⟨pl.isList.typeIs,λa e=>?_⟩
   cases e
   obtain⟨o,n,e,c,hd,_⟩:=pl
   exact⟨o,e,hd⟩
  ·refine⟨⟨o,I.kIn p o hk,hc⟩,λa e=>?_⟩
   cases e
   exact⟨o,I.kIn _ o hk,hd⟩
  ·have z:∃o,s.heap.get? p=some o/\o.ExactDict:=by
    rcases hk with⟨kvs,hk⟩|⟨kvs,hk⟩
    ·obtain⟨_,_,_,_,o,_,_,e,ex,_⟩:=I.hok p _ hk
     exact⟨o,e,ex⟩
    ·obtain⟨_,_,_,_,o,_,_,e,ex,_⟩:=I.hok p _ hk
     exact⟨o,e,ex⟩
   obtain⟨o,e,ex⟩:=z
   refine⟨⟨o,e,ex.1⟩,λa e2=>?_⟩
   cases e2
   exact⟨o,e,ex.2.1⟩
  ·obtain⟨o,_,_,_,e,ex,_⟩:=I.hok p _ hk
   refine⟨⟨o,e,ex.1⟩,λa e2=>?_⟩
   cases e2
   exact⟨o,e,ex.2.1⟩
 |_=>exact False.elim ty
def tBM (K:PySem.W.Frag)(T:String)(r:V->List V->Hp->VK->Prop)(to:TE)(t:TA):TE:=λσ H Q=>to σ H λx H1=>tyV K T x H1/\t σ H1 λxs H2=>r x xs H2 Q
variable {o e:Expr}{es:List Expr}{to:TE}{t:TA}{name:Str}{apos cpos:Pos}{T id:String}{r:V->List V->Hp->VK->Prop}
theorem zmZ (pa:PlainAttrs T)(slot:Slot T name id)(hty:typeOf (.builtin id)=pure (.type "method_descriptor"))(hm:MtR X id r)(ho:PE X o to)(ha:PA X (e::es) t)
  (hbase:attributeBase o name X.env (eval o X.env)=eval o X.env:=by rfl)
  (hfew:((backTo cpos (starEach (e::es) X.env)).all (λx=>!x.1) && (backToKw cpos (keywordEach [] X.env)).all (λx=>x.1.isSome)
   && decide ((e::es).length+([]:List Keyword).length+(if ([]:List Keyword).isEmpty then 0 else 1)<30))=true:=by rfl)
  (hline:(apos.endLine == cpos.line)=true:=by rfl) (hs:starEach (e::es) X.env=(false,eval e X.env)::starEach es X.env:=by rfl) (hplain:(backTo cpos (starEach es X.env)).any (·.1)=false:=by rfl) :
  PE X (.Call (.Attribute o name apos) (e::es) [] cpos) (tBM X.K T r to t):=by
 intro pins s σ H Q I h
 refine wpAny_Call_method_late hbase hfew hline rfl (thn (ho pins s σ H _ I h) λv s1 ⟨x,H1,I1,r1,ty,q1⟩=>?_)
 obtain⟨h1,h2⟩:=zmk I1 r1 ty
 refine⟨T,id,pa,slot,hty,h1,h2,?_⟩
 have hA:=ha cpos pins s1 σ H1 _ I1 q1
 rw[hs]at hA ⊢
 refine Calls.callWith_builtin (by show (false || (backTo cpos (starEach es X.env)).any (·.1))=false;rw[hplain] <;> rfl) (Calls.evalArgs_plain ?_)
 exact thn hA λus s2 ⟨vs,H2,I2,r2,q2⟩=>hm pins s2 σ H2 x vs v us Q I2 r1 r2 q2
/- xs.append(e),list.index on a module's tuple .. are MtR facts of 06m -/
end
def MtM (X:Cx)(id:String)(r:V->List V->Hp->VK->Prop):Prop :=
 ∀(pins:List (Addr×Obj)) (s:Shared) (σ:St) (H:Hp) (x:V) (xs:List V) (v:Value) (us:List Value) (Q:VK),Inv X pins σ H s->RelV x v->Vals xs us->r x xs H Q ->
  wpAny (model X.prog X.w) X.A (call (.builtin id) (v::us)) (EP X pins σ Q) X.xe s
theorem Vals.one:∀{x:V} {us:List Value},Vals [x] us->∃u,us=[u]/\RelV x u
 |_,_,.cons r .nil=>⟨_,rfl,r⟩
theorem Vals.reverse {xs:List V}{us:List Value}(h:Vals xs us):Vals xs.reverse us.reverse:=by
 induction h with
 |nil=>exact .nil
 |cons r t ih=>rw[List.reverse_cons,List.reverse_cons];exact Vals.append ih (.cons r .nil)
section
variable {X:Cx}{pins:List (Addr×Obj)}{σ:St}{H:Hp}{s:Shared}{l b:Addr}{xs ys zs:List V}
theorem Inv.lset {its its':List Value}{n:Nat}{f:Array Value->Array Value}{t':Nat}(I:Inv X pins σ H s)(hH:H l=some (.lst xs))
  (e:s.heap.get? l=some { cls:=.type "list",data:=.seq its.toArray n }) (hf:f its.toArray=its'.toArray) (hv:Vals ys its') (hz:ys.length<=sizeLine) :
  Inv X pins σ (upd H l (.lst ys)) { s with heap:=s.heap.update l (Obj.mapSeq f),toks:=t' }:=by
 have q:=PySem.IsL.update e f
 rw[hf]at q
 refine I.write (x:=l) (e:=l) (by rw[hH];exact trivial) (.inl rfl) (λb' u hb hu=>(Heap.get?_update_other s.heap (Obj.mapSeq f) (Ne.symm hb)).trans hu) ⟨_,q⟩ ?_
 exact⟨hz,its',_,hv,q⟩
theorem Inv.lnew {its:List Value}{t':Nat}(I:Inv X pins σ H s)(hv:Vals ys its)(hz:ys.length<=sizeLine) :
  Inv X pins σ (upd H s.heap.objs.size (.lst ys)) { s with heap:=s.heap.push { cls:=.type "list",data:=.seq its.toArray },toks:=t' } :=
 I.laid (λ_ _ q=>Heap.get?_push_of_some _ q) (Nat.le_refl _) ⟨hz,its,0,hv,Heap.get?_push_size _ rfl⟩
theorem Inv.fresh (I:Inv X pins σ H s):H s.heap.objs.size=none:=I.hok.fresh (Nat.le_refl _)
theorem Inv.lstM (I:Inv X pins σ H s)(hH:H l=some (.lst xs)):xs.length<=sizeLine/\∃(its:List Value) (n:Nat),Vals xs its/\xs.length=its.length/\s.heap.get? l=some { cls:=.type "list",data:=.seq its.toArray n }:=by
 obtain⟨z,its,n,r,e⟩:=I.hok l _ hH
 exact⟨z,its,n,r,r.length,e⟩
theorem ybY {n:Nat}(h:n<=sizeLine):Builtin.List.listTooLong n=false:=by
 unfold Builtin.List.listTooLong
 exact decide_eq_false (by omega)
end
section
variable {X:Cx}
def ycC:V->List V->Hp->VK->Prop:=λx vs H Q=>∃l xs y,x=.ref l/\vs=[y]/\H l=some (.lst xs)/\xs.length<sizeLine/\Q .non (upd H l (.lst (xs++[y])))
theorem zd1:MtM X "list.append" ycC:=by
 intro pins s σ H x vs v us Q I rx rv h
 obtain⟨l,xs,y,rfl,rfl,hH,hz,q⟩:=h
 cases rx
 obtain⟨u,rfl,ru⟩:=rv.one
 obtain⟨z,its,n,r,hl,e⟩:=I.lstM hH
 refine call_meets F.slot_list_append ⟨_,e,rfl⟩ F.entry_list_append (F.args_list_append_2 _ _) (PySem.list_append l its.toArray n u (by rw[List.size_toArray];omega)) ⟨e,?_⟩
 refine⟨.non,_,I.lset (its':=its++[u]) hH e (by simp) (r.append (.cons ru .nil)) ?_,rfl,q⟩
 rw[List.length_append,List.length_singleton]
 omega
def ycr:V->List V->Hp->VK->Prop:=λx vs H Q=>∃l b xs zs,x=.ref l/\vs=[.ref b]/\H l=some (.lst xs)/\H b=some (.lst zs)/\xs.length+zs.length<=sizeLine/\Q .non (upd H l (.lst (xs++zs)))
theorem zh7:MtM X "list.extend" ycr:=by
 intro pins s σ H x vs v us Q I rx rv h
 obtain⟨l,b,xs,zs,rfl,rfl,hH,hB,hz,q⟩:=h
 cases rx
 obtain⟨u,rfl,ru⟩:=rv.one
 cases ru
 obtain⟨z,its,n,r,hl,e⟩:=I.lstM hH
 obtain⟨z2,its2,n2,r2,hl2,e2⟩:=I.lstM hB
 have hsz:its.toArray.size+its2.toArray.size<=sizeLine:=by rw[List.size_toArray,List.size_toArray];omega
 have hlong:¬(!its.toArray.isEmpty && Builtin.List.listTooLong (its.toArray.size+its2.toArray.size))=true:=by
  rw[ybY hsz,Bool.and_false]
  exact Bool.false_ne_true
 refine call_meets F.slot_list_extend ⟨_,e,rfl⟩ F.entry_list_extend (F.args_list_extend_2 _ _)
  (AutoSeq1.list_extend_list_list_0 l its.toArray n b its2.toArray n2 hlong (by rw[List.size_toArray];omega) (by omega)) ⟨e,e2,?_⟩
 refine⟨.non,_,I.lset (its':=its++its2) hH e (by simp) (r.append r2) ?_,rfl,q⟩
 rw[List.length_append]
 omega
def ye4:R2:=λx y H Q=>∃l b xs zs,x=.ref l/\y=.ref b/\H l=some (.lst xs)/\H b=some (.lst zs)/\xs.length+zs.length<=sizeLine/\∀p,H p=none->Q (.ref p) (upd H p (.lst (xs++zs)))
theorem zl9:OpR X (binaryOp .Add) ye4:=by
 intro pins s σ H x y v u Q I rx ry h
 obtain⟨l,b,xs,zs,rfl,rfl,hH,hB,hz,q⟩:=h
 cases rx
 cases ry
 obtain⟨z,its,n,r,hl,e⟩:=I.lstM hH
 obtain⟨z2,its2,n2,r2,hl2,e2⟩:=I.lstM hB
 refine PySem.P.add_list e e2 ?_ (by rw[List.size_toArray,List.size_toArray];omega)
 have ea:its.toArray++its2.toArray=(its++its2).toArray:=by simp
 rw[ea]
 exact⟨.ref _,_,I.lnew (t':=s.toks) (r.append r2) (by rw[List.length_append];omega),rfl,q _ I.fresh⟩
end
section
variable {prog:Program}{w:World}{A:Around}{E:Value->Shared->Prop}{s:Shared}
end
section
variable {X:Cx}
end
end L2
namespace Att
open PySem PySem.W PySem.Calls PyProof.Rows
theorem zb4 {P:Params}{h:Heap}:∀(ns:List Int) (vs:List Value),WellAll P h vs (ns.map WData.int)->IntsAre vs ns:=by
 intro ns
 induction ns with
 |nil =>
  intro vs w
  rw[List.map_nil]at w
  cases w
  exact .nil
 |cons n ns ih =>
  intro vs w
  rw[List.map_cons]at w
  cases w with
  |cons a b =>
   cases a
   exact .cons _ _ (ih _ b)
theorem zh6 {l:OpenLaw}{n:Nat}(hn:l.most=some n){P:Params}{h:Heap}{args:List WData}{vals:List Value}
  (hpre:l.row.toRowW.claim.pre args=true) (hwl:WellAll P h vals args) :
  ∃a vs ns,vals=[Value.ref a]/\args=[WData.list (ns.map WData.int)]/\h.get? a=some { cls:=.type "list",data:=.seq vs.toArray }/\IntsAre vs ns/\ns.length<=n:=by
 have hsh:WShape.hasAll [] args [.list .int]=true:=(pre_splitW hpre).1
 have hc:l.pre.holds [] { args:=args }=true:=(pre_splitW hpre).2
 obtain⟨d,r,rfl,h1,h2⟩:=hasAllW_cons hsh
 obtain rfl:=hasAllW_nil h2
 obtain⟨xs,rfl,h3⟩:=hasW_list h1
 obtain⟨ns,rfl⟩:=items_int h3
 have hlen:ns.length<=n:=by
  unfold OpenLaw.pre at hc
  have h4:(WTm.not (.lt (.lit (.int (n:Int))) (.len (.arg 0)))).holds [] { args:=[.list (ns.map .int)] }=true:=by
   have h4:=(holds_andW hc).1
   rw[hn]at h4
   exact h4
  have h5:=condW_of h4 (w_not (w_lt w_lit (w_len_list (w_arg rfl))))
  rw[List.length_map]at h5
  refine Nat.le_of_not_lt λq=>?_
  have q':(n:Int)<((ns.length:Nat):Int):=by omega
  first
   | (rw[decide_eq_true q']at h5;exact absurd h5 (by decide))
   | (simp at h5;omega)
 cases hwl with
 |cons w1 w2 =>
  cases w2
  cases w1 with
  |list ho hall=>exact⟨_,_,ns,rfl,rfl,ho,zb4 ns _ hall,hlen⟩
theorem zhf (l:OpenLaw)(args:List WData):l.row.toRowW.claim.post args (.bool true) args=true :=
 postW_of (r:=l.row.toRowW) (X:=(true == true))
  (show WShape.has [] (.bool true) .bool=true by first|rfl|decide|simp[WShape.has,WShape.arms,WShape.armsAll])
  (show (WTm.eq .res (.lit (.bool true))).value [] { args:=args,res:=some (.bool true),after:=args }=some (.bool (true == true))from w_eq_bool (w_res rfl) w_lit) rfl
theorem attach_call {l:OpenLaw}{n:Nat}{q:Program}{loose:List Str}{XP:(Str->Option Value)->Heap->Prop}{YP:World->Heap->Prop}{d:DefRec}
  (hn:l.most=some n) (hdf:d.params.defaults=[])
  (call:∀(w:World) (s₀ s₁:Shared) (mg mb:Str->Option Value) (fa:Addr) (o:Obj) (pm cd doc:Value) (a:Addr) (vs:List Value) (ns:List Int),
   Ground q loose [] XP w s₀ mg mb s₁.heap->YP w s₁.heap ->
   s₁.heap.get? fa=some o->o.data=.func (docDef d.name d.params d.body d.scope pm cd doc)->s₁.heap.CodeRec cd d.name->mg d.name=some (.ref fa) ->
   s₁.heap.get? a=some { cls:=.type "list",data:=.seq vs.toArray }->IntsAre vs ns->ns.length<=n->s₁.gens=#[] ->
   codeAny (model l.prog w) callerA (.call (.ref fa) ⟨[.ref a],[]⟩) (λr s'=>r=.ok (.ret (.bool true))/\OldK s₁.heap s'.heap/\s'.os=s₁.os/\AllBare s'.gens) s₁) :
  WalkO q loose XP YP l.row.toRowW d [] (λf vs=>PySem.call f vs):=by
 intro w s₀ s₁ mg mb G Y fa o pm cd doc dV kV ho hd hcd hD hmg hg args vals as hpre hlay hrd hwl hlo
 obtain rfl:dV=.none:=Dflts.none hD hdf
 obtain rfl:kV=.none:=Dflts.noKw hD
 obtain⟨a,vs,ns,rfl,rfl,hobj,hints,hlen⟩:=zh6 hn hpre hwl
 refine enter_call (codeAny_mono (call w s₀ s₁ mg mb fa o pm cd doc a vs ns G Y ho (fd_plain hd) hcd hmg hobj hints hlen hg) λr s' hq=>?_)
 obtain⟨rfl,h2,h3,h4⟩:=hq
 exact⟨.inl ⟨.bool true,.bool true,[],rfl,λ_=>rfl,.bool true,zhf l _,λ_=>⟨List.Pairwise.nil,λ_ hm=>(nomatch hm)⟩⟩,h2,h3,h4⟩
section
variable {prog:Program}{w:World}{A:Around}{E:Value->Shared->Prop}{s:Shared}{K:Frag}
end
end Att
namespace L2
open PySem PySem.Spec PyProof.Rows
theorem zdu:∀{vs:List Value} {ns:List Int},IntsAre vs ns->Vals (ns.map V.int) vs
 |_,_,.nil=>.nil
 |_,_,.cons n t h=>.cons ⟨t,rfl⟩ (zdu h)
def Only (H:Hp):Prop:=∀b,H b=none \/ ∃o xs,H b=some (.frz o (.lst xs))
theorem zjR {P:Program}{w:World}{K:PySem.W.Frag}{mg mb:Str->Option Value}{CX:CXT}{k:Nat}{fa a:Addr}{fd:FuncData}{x:Str}{sp:Sp}{s₁:Shared}{vs:List Value}{ns:List Int}
  (KX:K.In s₁.heap) (hns:s₁.heap.Ns mainGlobals mg) (hb:s₁.heap.Ns builtinsNs mb) (hbb:∀x:Str,x ≠ "__name__"->mb x=bootBuiltins x) (hlim:s₁.heap.NoLimit) (hg:s₁.gens=#[])
  (ha:s₁.heap.get? a=some { cls:=.type "list",data:=.seq vs.toArray }) (hi:IntsAre vs ns) (hl:ns.length<=sizeLine) (hr:yai k callerA)
  (F:∀base:Heap,K.In base->base.Ns mainGlobals mg->yax P w K mg base CX k fa fd [x] sp) (hbind:∀(s:Shared) (u:Value),BindsTo s fd ⟨[u],[]⟩ [(x,u)])
  (hsp:∀H:Hp,Only H->SqL K H a (ns.map V.int)->sp [.ref a] H (λv _=>v=.bl true) λ_ _ _=>False)
  (hCX:∀H e s',CX [] H s₁ (λ_ _ _=>False) e s'->False) :
  codeAny (model P w) callerA (.call (.ref fa) ⟨[.ref a],[]⟩) (λr s'=>r=.ok (.ret (.bool true))/\OldK s₁.heap s'.heap/\s'.os=s₁.os/\AllBare s'.gens) s₁:=by
 have rv:=zdu hi
 have lenV:=hi.length
 have core:∀H:Hp,Only H->SqL K H a (ns.map V.int)->HOk P w H s₁.heap->(∀b,H b≠none->b=a)->(H a≠none->K.lookup a=none) ->
   codeAny (model P w) callerA (.call (.ref fa) ⟨[.ref a],[]⟩) (λr s'=>r=.ok (.ret (.bool true))/\OldK s₁.heap s'.heap/\s'.os=s₁.os/\AllBare s'.gens) s₁:=by
  intro H hO hS hok hA hK
  have base_of:∀{b:Addr} {o:Obj},s₁.heap.get? b=some o->H b=none->(yb0 s₁.heap H).get? b=some o:=λe n=>zjp e n
  have noA:∀{b:Addr} {o:Obj} {es:Array DictEntry} {ep:Nat},s₁.heap.get? b=some o->o.data=.dict es ep->H b=none:=λ{b o es ep} e d=>by
   cases q:H b with
   |none=>rfl
   |some u =>
    have e':b=a:=hA b (by rw[q];simp)
    subst e'
    rw[ha]at e;cases e
    have d':Data.seq vs.toArray _=Data.dict es ep:=d
    cases d'
  have nsK:∀{b:Addr} {m:Str->Option Value},s₁.heap.Ns b m->(yb0 s₁.heap H).Ns b m:=λ{b m} ⟨o,es,ep,e,d,r⟩=>⟨o,es,ep,base_of e (noA e d),d,r⟩
  have hKb:K.In (yb0 s₁.heap H):=λb o e=>base_of (KX b o e) (by
   cases q:H b with
   |none=>rfl
   |some u =>
    have e':b=a:=hA b (by rw[q];simp)
    subst e'
    rw[hK (by rw[q];simp)]at e;cases e)
  have hM:Mod K mg (yb0 s₁.heap H):=⟨hKb,nsK hns,⟨mb,nsK hb,hbb⟩,let ⟨mc,h1,h2⟩:=hlim;⟨mc,nsK h1,h2⟩⟩
  have e0:ycp P w K mg (yb0 s₁.heap H) callerA [] s₁ H:=⟨rfl,hM,λb o e=>zls e,Nat.le_of_eq (zhy _ _),trivial,λb hb=>absurd (show b∈([]:List Addr)from hb) (by simp),hok,.of_eq hg⟩
  refine codeAny_mono ((F _ hKb (nsK hns)).run callerA [] s₁ H ⟨[.ref a],[]⟩ [.ref a] [.ref a] _ _ hr e0 (hbind s₁ (.ref a)) (.cons rfl .nil) (hsp H hO hS)) λr s' h=>?_
  cases r with
  |error e=>exact(hCX H e s' h).elim
  |ok fl =>
   cases fl with
   |next=>exact False.elim h
   |brk=>exact False.elim h
   |cont=>exact False.elim h
   |ret u =>
    obtain⟨v,H',os,bare,un,hok',r',q⟩:=h
    have q':v=.bl true:=q
    subst q'
    obtain rfl:u=Value.bool true:=r'
    refine⟨rfl,OldK.of_keep λb o e=>?_,os,bare⟩
    cases q:H b with
    |none=>exact un.keep b o e q (by intro z;exact absurd (show b∈([]:List Addr)from z) (by simp)) (by simp)
    |some u =>
     rcases hO b with z|⟨ob,xs,z⟩
     ·rw[q]at z;cases z
     ·have z2:=un.frzs b ob _ z
      obtain⟨e1,_⟩:=hok b _ z
      obtain⟨e2,_⟩:=hok' b _ z2
      rw[e]at e1;cases e1
      exact e2
 cases hk:K.lookup a with
 |some o =>
  have e:=KX a o hk
  rw[ha]at e
  cases e
  refine core (λ_=>none) (λ_=>.inl rfl) (.inr ⟨_,vs.toArray,_,hk,rfl,rfl,rfl,by rw[List.size_toArray,lenV];exact hl,by simpa using rv⟩) (λb u z=>by have z':(none:Option HO)=some u:=z;cases z') (λb z=>absurd rfl z) λz=>absurd rfl z
 |none =>
  refine core (λb=>if b=a then some (.frz { cls:=.type "list",data:=.seq vs.toArray } (.lst (ns.map V.int)))else none) (λb=>?_) (.inl (.inr ⟨{ cls:=.type "list",data:=.seq vs.toArray },if_pos rfl⟩)) (λb u z=>?_) (λb z=>?_) λ_=>hk
  ·by_cases hb:b=a
   ·exact .inr ⟨_,_,if_pos hb⟩
   ·exact .inl (if_neg hb)
  ·by_cases hb:b=a
   ·have z':=(if_pos hb).symm.trans z
    cases z'
    subst hb
    exact⟨ha,by rw[List.length_map];exact hl,vs,_,rv,ha⟩
   ·have z':=(if_neg hb).symm.trans z
    cases z'
  ·by_cases hb:b=a
   ·exact hb
   ·exact absurd (if_neg hb) z
theorem walk_of {l:PySem.W.OpenLaw}{n k:Nat}{q:Program}{loose:List Str}{XP:(Str->Option Value)->Heap->Prop}{YP:World->Heap->Prop}{d:DefRec}{K:Params->PySem.W.Frag}{CX:World->CXT}{sp:World->Sp}{x:Str}
  (hn:l.most=some n) (hn2:n<=sizeLine) (hdf:d.params.defaults=[]) (hr:yai k callerA)
  (hY:∀(w:World) (h:Heap),YP w h->(K w.params).In h)
  (F:∀(w:World) (mg:Str->Option Value) (fa:Addr) (h:Heap),(K w.params).In h->h.Ns mainGlobals mg->mg d.name=some (.ref fa) ->
   ∃fd:FuncData,(∀(s:Shared) (u:Value),BindsTo s fd ⟨[u],[]⟩ [(x,u)]) /\
    ∀base:Heap,(K w.params).In base->base.Ns mainGlobals mg->yax l.prog w (K w.params) mg base (CX w) k fa fd [x] (sp w))
  (hsp:∀(w:World) (H:Hp) (a:Addr) (ns:List Int),ns.length<=n->Only H->SqL (K w.params) H a (ns.map V.int)->sp w [.ref a] H (λv _=>v=.bl true) λ_ _ _=>False)
  (hCX:∀(w:World) (H:Hp) (s:Shared) (e:Value) (s':Shared),CX w [] H s (λ_ _ _=>False) e s'->False) :
  PySem.W.WalkO q loose XP YP l.row.toRowW d [] (λf vs=>PySem.call f vs):=by
 refine Att.attach_call hn hdf λw s₀ s₁ mg mb fa o pm cd doc a vs ns G Y ho hd hcd hmg hobj hints hlen hg=>?_
 have KX:=hY w _ Y
 obtain⟨fd,hb,hF⟩:=F w mg fa _ KX G.T.g hmg
 exact zjR KX G.T.g G.T.b G.T.builtins G.T.nolimit hg hobj hints (Nat.le_trans hlen hn2) hr hF hb (λH hO hS=>hsp w H a ns hlen hO hS) λH e s'=>hCX w H s₁ e s'
def inClass (s:Stmt)(j:Nat):Stmt:=match s with
 | .ClassDef _ _ _ body _ _ _ _ _ _ _=>body.getD j (.Pass ⟨0,0,0,0⟩)
 |_=>.Pass ⟨0,0,0,0⟩
def yX (s:Stmt):Arguments:=match s with
 | .FunctionDef _ a _ _ _ _ _ _ _ _=>a
 |_=>{ posonlyargs:=[],args:=[],vararg:=none,kwonlyargs:=[],kw_defaults:=[],kwarg:=none,defaults:=[] }
def yS (s:Stmt):List Stmt:=match s with
 | .FunctionDef _ _ b _ _ _ _ _ _ _=>b
 |_=>[]
def yt (s:Stmt):Scope:=match s with
 | .FunctionDef _ _ _ _ _ _ sc _ _ _=>sc
 |_=>{ kind:=.function,names:=[],isGenerator:=false,isCoroutine:=false }
structure Fun (K:PySem.W.Frag)(x qual:Str)(st:Stmt)(f:Addr)(fd:FuncData):Prop where
 ex:∃(oc:Value) (od:Option Addr) (kV doc pm:Value) (an:Option Addr) (cdv ct:Value) (osl:Array (Option Value)),
  fd=PySem.W.fnOf x qual (yX st) (yS st) (yt st) .none kV doc pm an cdv ct/\K.lookup f=some ⟨oc,od,.func fd,osl⟩/\PySem.W.codeIn K cdv qual=true
 kp:PySem.W.keepIn K (.ref f)=true
section
variable {P:Program}{w:World}{K:PySem.W.Frag}{mg:Str->Option Value}{base:Heap}
theorem Fun.binds {x qual:Str}{st:Stmt}{f:Addr}{fd:FuncData}{ps:List Str}(F:Fun K x qual st f fd)
  (h:∀(kV doc pm:Value) (an:Option Addr) (cdv ct:Value) (us:List Value),us.length=ps.length->bindArgs (PySem.W.fnOf x qual (yX st) (yS st) (yt st) .none kV doc pm an cdv ct) ⟨us,[]⟩=pure (ps.zip us)):Binds K fd ps []:=by
 obtain⟨oc,od,kV,doc,pm,an,cdv,ct,osl,rfl,lk,hcd⟩:=F.ex
 exact .all (h kV doc pm an cdv ct)
end
theorem zkD {A:Around}{k:Nat}(hr:yai k A):A.units+1<cLine:=Nat.lt_of_le_of_lt (Nat.add_le_add_left (by decide:1<=64) _) hr.units
section
variable {X:Cx}
end
end L2
namespace WE
open PySem PySem.Spec PyProof.Rows
open AutoSeq1 (wpAny_loadPart')
section
variable {pg:Program}{wd:World}{A:Around}{Er:Value->Shared->Prop}{s:Shared}
theorem za5 {it t:Addr}{i:Nat}{xs:Array Value}{x:Value}{Q:Value->Shared->Prop}(hi:s.heap.IsTupleIter it t i)(ht:s.heap.IsTuple t xs)(hx:xs[i]?=some x)
  (k:∀h',h'.IsTupleIter it t (i+1)->Heap.SameBut it s.heap h'->Q x { s with heap:=h' }):wpAny (model pg wd) A (Builtin.SmallTypes.nextOf (.ref it)) Q Er s:=by
 obtain⟨oi,gi,ci,di⟩:=id hi
 obtain⟨ot,gt,_,nt,dt⟩:=ht
 unfold Builtin.SmallTypes.nextOf
 refine wpAny_bind (wpAny_callSpecial?_slot (name:=Str.ofString "__next__") hi.typeIs F.slot_tuple_iterator_next (wpAny_call_entry F.slot_tuple_iterator_next hi.typeIs F.entry_tuple_iterator_next ?_ (F.args_tuple_iterator_next_1 _)))
 show wpAny _ _ (field (.ref it) 0 >>= _) _ _ _
 refine wpAny_bind (wpAny_field gi di (x:=.ref t) rfl ?_);show wpAny _ _ (if (Value.ref t == Value.none)=true then _ else _) _ _ _
 rw[if_neg (show ¬((Value.ref t == Value.none)=true)from λz=>Bool.false_ne_true z)];show wpAny _ _ (field (.ref it) 1 >>= _) _ _ _
 refine wpAny_bind (wpAny_field gi di (x:=.int i 0) rfl ?_);show wpAny _ _ (seqItems? (.ref t) >>= _) _ _ _
 refine wpAny_bind (wpAny_seqItems gt dt ?_)
 simp only[Int.toNat_natCast,hx]
 refine wpAny_bind (wpAny_setField gi di (by simp) (wpAny_pure ⟨x,rfl,wpAny_pure (k _ ?_ (Heap.SameBut.update ..))⟩))
 refine⟨_,Heap.get?_update_self _ gi (Obj.isFreed_of_fields (Obj.data_mapFields di _)),(Obj.cls_mapFields ..).trans ci,?_⟩
 rw[Obj.data_mapFields di];simp[rawInt]
theorem zdB {it t:Addr}{i:Nat}{xs:Array Value}{Q:Value->Shared->Prop}(hh:A.handled=none)(hi:s.heap.IsTupleIter it t i)(ht:s.heap.IsTuple t xs)(hx:xs[i]?=none)
  (k:∀h' e,Heap.ExtBut it s.heap h'->(∃o,h'.get? e=some o/\o.cls=.type "StopIteration")->Er (.ref e) { s with heap:=h' }):wpAny (model pg wd) A (Builtin.SmallTypes.nextOf (.ref it)) Q Er s:=by
 obtain⟨oi,gi,ci,di⟩:=id hi
 obtain⟨ot,gt,_,nt,dt⟩:=ht
 unfold Builtin.SmallTypes.nextOf
 refine wpAny_bind (wpAny_callSpecial?_slot (name:=Str.ofString "__next__") hi.typeIs F.slot_tuple_iterator_next (wpAny_call_entry F.slot_tuple_iterator_next hi.typeIs F.entry_tuple_iterator_next ?_ (F.args_tuple_iterator_next_1 _)))
 show wpAny _ _ (field (.ref it) 0 >>= _) _ _ _
 refine wpAny_bind (wpAny_field gi di (x:=.ref t) rfl ?_);show wpAny _ _ (if (Value.ref t == Value.none)=true then _ else _) _ _ _
 rw[if_neg (show ¬((Value.ref t == Value.none)=true)from λz=>Bool.false_ne_true z)];show wpAny _ _ (field (.ref it) 1 >>= _) _ _ _
 refine wpAny_bind (wpAny_field gi di (x:=.int i 0) rfl ?_);show wpAny _ _ (seqItems? (.ref t) >>= _) _ _ _
 refine wpAny_bind (wpAny_seqItems gt dt ?_)
 simp only[Int.toNat_natCast,hx]
 refine wpAny_bind (wpAny_rule (wpAny_bind (wpAny_setField gi di (by simp) ?_)));show wpAny _ _ (newExc (.type "StopIteration") [] >>= _) _ _ _
 refine wpAny_bind ?_;simp only[newExc,newTuple]
 refine wpAny_bind (wpAny_newObj_type ?_ (by size_fits));refine wpAny_bind (m:=firstArgMember _ _) (wpAny_of_eq (a:=Value.none) (by first|rfl|(simp only[firstArgMember];rfl)) ?_)
 refine wpAny_newObj_type ?_ (by size_fits);simp only[raiseNew]
 refine wpAny_bind (wpAny_handled ?_);first|rw[show A.in1.handled=none from hh]|rw[hh]
 refine wpAny_bind (wpAny_pure (wpAny_throw ?_))
 exact k _ _ (((Heap.SameBut.update ..).extBut.push _).push _) ⟨_,Heap.get?_push_size _ rfl,rfl⟩
end
theorem draws_tuple {pg:Program}{wd:World}{A:Around}(hh:A.handled=none)(it t:Addr)(hne:t≠it)(xs:Array Value) :
  Draws pg wd A it [it,t] xs.size (λi v=>xs[i]?=some v) (λi h=>h.IsTupleIter it t i/\h.IsTuple t xs) where
 live:=λ_ _ st=>let ⟨o,g,_⟩:=st.1;⟨o,g⟩
 frame:=λ_ _ _ st kp=>⟨let ⟨o,g,r⟩:=st.1;⟨o,kp it (by simp) o g,r⟩,let ⟨o,g,r⟩:=st.2;⟨o,kp t (by simp) o g,r⟩⟩
 item:=λi s Q E hi st hQ=>za5 st.1 st.2 (x:=xs[i]) (by simp[hi]) λh' hit' hs'=>hQ _ h' s.toks (by simp[hi]) ⟨hit',st.2.extBut hs'.extBut hne⟩ hs'
 done:=λs Q E st hE=>zdB hh st.1 st.2 (by simp) hE
theorem zfb (l:Addr)(xs:Array Value)(n:Nat)(dc:Option Addr)(sl:Array (Option Value)) :
  Meets (Builtin.«enumerate.__new__» ⟨[.type "enumerate",.ref l],[]⟩) (λ_ R s=>s.heap.get? l=some { cls:=.type "tuple",dict:=dc,data:=.seq xs n,slots:=sl } /\
   R (.ok (.ret (.ref (s.heap.push { cls:=.type "tuple_iterator",data:=.fields #[.ref l,.int 0 0] }).objs.size)))
    { s with heap:=(s.heap.push { cls:=.type "tuple_iterator",data:=.fields #[.ref l,.int 0 0] }).push { cls:=.type "enumerate",data:=.fields #[.none,.bool false,.ref s.heap.objs.size,rawInt 0,.none,.none] } }) :=
 .of_wp λprog w A R s h=>by
  obtain⟨hp,g,d,tk,os⟩:=s;obtain⟨gl,h⟩:=h
  have hsub:=sub_enumerate
  have hT:Heap.IsTuple (Shared.heap ⟨hp,g,d,tk,os⟩) l xs:=⟨_,gl,rfl,n,rfl⟩
  wp_walk using wpAny_loadPart' gl
  refine wpAny_stack_any λst=>wpAny_pure ?_
  split
  ·rename_i c _ _ _ _ _
   cases (c == Value.type "enumerate")
   ·wp_walk using wpAny_loadPart' gl,wpAny_pyIter_tuple hT
    exact⟨_,rfl,h⟩
   ·wp_walk using wpAny_loadPart' gl,wpAny_pyIter_tuple hT
    exact⟨_,rfl,h⟩
  ·wp_walk using wpAny_loadPart' gl,wpAny_pyIter_tuple hT
   exact⟨_,rfl,h⟩
theorem call_enumT {pg:Program}{wd:World}{A:Around}{Er:Value->Shared->Prop}{s:Shared}{l:Addr}{xs:Array Value}{Q:Value->Shared->Prop}(hT:s.heap.IsTuple l xs)
  (k:∀h',IsEnum h' (s.heap.objs.size+1) s.heap.objs.size 0 .none->h'.IsTupleIter s.heap.objs.size l 0->h'.objs.size=s.heap.objs.size+2 ->
   (∀b o,s.heap.get? b=some o->h'.get? b=some o)->Q (.ref (s.heap.objs.size+1)) { s with heap:=h' }):wpAny (model pg wd) A (call (.type "enumerate") [.ref l]) Q Er s:=by
 obtain⟨⟨c,dct,dt,sl⟩,gl,hc,n,hd⟩:=hT
 cases (show c=.type "tuple" from hc)
 cases (show dt=.seq xs n from hd)
 refine callType_new F.called_enumerate (by decide) (F.typeCall_enumerate_1 _) (F.newCall_enumerate_1 _) (λobj=>F.args_object_init_2 obj _) F.entry_enumerate_new (zfb l xs n dct sl) ⟨gl,?_⟩
 have hz:(s.heap.push { cls:=.type "tuple_iterator",data:=.fields #[.ref l,.int 0 0] }).objs.size=s.heap.objs.size+1:=Heap.size_push ..
 show _/\_
 rw[hz]
 have he:IsEnum ((s.heap.push { cls:=.type "tuple_iterator",data:=.fields #[.ref l,.int 0 0] }).push { cls:=.type "enumerate",data:=.fields #[.none,.bool false,.ref s.heap.objs.size,rawInt 0,.none,.none] }) (s.heap.objs.size+1) s.heap.objs.size 0 .none:=by
  have q:=Heap.get?_push_size (s.heap.push { cls:=.type "tuple_iterator",data:=.fields #[.ref l,.int 0 0] }) (o:={ cls:=.type "enumerate",data:=.fields #[.none,.bool false,.ref s.heap.objs.size,rawInt 0,.none,.none] }) rfl
  rw[hz]at q;exact q
 exact⟨⟨_,he,rfl⟩,k _ he ⟨_,Heap.get?_push_of_some _ (Heap.get?_push_size _ rfl),rfl,rfl⟩ (by rw[Heap.size_push,hz]) λb o y=>Heap.get?_push_of_some _ (Heap.get?_push_of_some _ y)⟩
end WE
namespace L2
open PySem PySem.Spec PyProof.Rows
section
variable {X:Cx}
def ydd (i j:Int):Prop:=0<j/\j<10000000000000000000000000000000000000000000000000000000000000000000000
theorem ziR:OpR X (binaryOp .FloorDiv) (rI ydd λi j=>.int (i / j)):=opI λi j _ _ _ _ _ hc q=>by
 obtain⟨h1,h2⟩:=hc
 refine floordiv_int (by omega) (by rw[Int.fdiv_eq_ediv_of_nonneg i (by omega)];exact q) (.inl (PyProof.noPylong_of_log2 ?_))
 have h0:j.natAbs≠0:=by omega
 refine Nat.lt_of_lt_of_le ((Nat.log2_lt h0).mpr (?_:j.natAbs<2^250)) (by decide)
 have e:(10000000000000000000000000000000000000000000000000000000000000000000000:Nat)<2^250:=by decide
 omega
end
section
variable {X:Cx}{pins:List (Addr×Obj)}{σ:St}{H:Hp}{s:Shared}{h':Heap}
theorem Inv.turnLaid {t':Nat}{ch:List Addr}{T:Addr}{o:HO}(I:Inv X pins σ H s)(hf:∀b∈ch,ya9 X pins H b)(k:∀b u,b∉ch->s.heap.get? b=some u->h'.get? b=some u)
  (hp:s.heap.objs.size<=T) (new:yN X.prog X.w (upd H T o) h' T o):Inv X pins σ (upd H T o) { s with heap:=h',toks:=t' }:=by
 have hn:H T=none:=I.hok.fresh hp
 have nch:∀b u,H b=some u->b∉ch:=λb u e z=>by
  have q:=(hf b z).1
  rw[e]at q
  cases q
 refine I.step (g':=s.gens) (d':=s.drawn) (ch:=ch) (λb hb=>?_) (λb u _ _ hc e _=>k b u hc e) (λb u _ _ hc e _=>⟨u.slots,k b u hc e⟩) (λb u _ e n=>?_) (λb u hc e=>⟨u,k b u hc e⟩) (λb xs e=>?_) (λb u v e=>?_) (λb ps e=>⟨#[],?_⟩) (λm hm=>?_) (λb u e=>?_) I.bare
 ·obtain⟨f0,f1,f2,f3,f4,f5⟩:=hf b hb
  exact⟨f3,f1,f4,f5⟩
 ·rw[zd (Nat.ne_of_lt (Nat.lt_of_lt_of_le (Heap.lt_size e) hp))]
  exact n
 ·rw[zd (zh e hn)]
  exact e
 ·rw[zd (zh e hn)]
  exact e
 ·rw[zd (zh e hn),e]
  simp
 ·obtain⟨ob,es,ep,ho,r⟩:=hm
  exact⟨ob,es,ep,k _ ob (λz=>(hf _ z).2.1 rfl) ho,r⟩
 ·by_cases hb:b=T
  ·subst hb
   rw[zj]at e
   cases e
   exact new
  ·rw[zd hb]at e
   refine(I.hok b u e).stay (λc v hc q=>k c v ?_ q) (λc q=>by rw[zd (zh q hn)];exact q) λc xs q=>by rw[zd (zh q hn)];exact q
   rcases hc with z|z
   ·rw[z]
    exact nch b u e
   ·exact nch c _ z
theorem Inv.turnedL {t':Nat}{ch:List Addr}(I:Inv X pins σ H s)(hf:∀b∈ch,ya9 X pins H b)(k:∀b u,b∉ch->s.heap.get? b=some u->h'.get? b=some u):Inv X pins σ H { s with heap:=h',toks:=t' }:=by
 have nch:∀b u,H b=some u->b∉ch:=λb u e z=>by
  have q:=(hf b z).1
  rw[e]at q
  cases q
 refine I.step (g':=s.gens) (d':=s.drawn) (ch:=ch) (λb hb=>?_) (λb u _ _ hc e _=>k b u hc e) (λb u _ _ hc e _=>⟨u.slots,k b u hc e⟩) (λ_ _ _ _ n=>n) (λb u hc e=>⟨u,k b u hc e⟩) (λ_ _ e=>e) (λ_ _ _ e=>e) (λb ps e=>⟨#[],by rw[e];simp⟩) (λm hm=>?_) (λb u e=>?_) I.bare
 ·obtain⟨f0,f1,f2,f3,f4,f5⟩:=hf b hb
  exact⟨f3,f1,f4,f5⟩
 ·obtain⟨ob,es,ep,ho,r⟩:=hm
  exact⟨ob,es,ep,k _ ob (λz=>(hf _ z).2.1 rfl) ho,r⟩
 ·refine(I.hok b u e).stay (λc v hc q=>k c v ?_ q) (λ_ q=>q) λ_ _ q=>q
  rcases hc with z|z
  ·rw[z]
   exact nch b u e
  ·exact nch c _ z
end
def Ite (K:PySem.W.Frag)(a:Addr):It :=
 ⟨λi H=>∃xs x,SqT K H a xs/\xs[i]?=some x,λi H x H'=>∃T,H T=none/\x=.ref T/\∀xs y,SqT K H a xs->xs[i]?=some y->H'=upd H T (.tup [.int i,y]),λi H=>∃xs,SqT K H a xs/\xs.length=i⟩
theorem zcw {h:Heap}{a b:Addr}{o u:Obj}(x:h.get? a=some o)(y:h.get? b=some u)(z:o.cls≠u.cls):a≠b:=λe=>by
 subst e
 rw[x]at y
 cases y
 exact z rfl
theorem zgB {P:Program}{w:World}{K:PySem.W.Frag}{es:List Expr}{kk:Nat}{pos:Pos}(a e it:Addr) :
  Turn P w K (.Tuple es kk pos) (Ite K a) [e,it] e (λi h=>(∃old,IsEnum h e it i old)/\h.IsTupleIter it a i) where
 mem:=by simp
 obj:=λi h st b hb=>by
  obtain⟨⟨old,he⟩,oi,gi,ci,di⟩:=st
  rcases List.mem_cons.mp hb with z|z
  ·subst z
   exact⟨_,he,λv y=>nomatch y⟩
  ·have z:b=it:=by simpa using z
   subst z
   exact⟨oi,gi,λv y=>by rw[di]at y;cases y⟩
 keep:=λi h h' st k=>by
  obtain⟨⟨old,he⟩,oi,gi,r⟩:=st
  exact⟨⟨old,k e (by simp) _ he⟩,oi,k it (by simp) _ gi,r⟩
 item:=by
  intro X hP hw hK hc i pins s σ H E I hf st hg
  subst hP hw hK
  obtain⟨xs,x,hq,hx⟩:=hg
  obtain⟨its,rv,p,hz⟩:=I.tuple hq
  obtain⟨⟨old,he⟩,hi⟩:=st
  obtain⟨oi,gi,ci,di⟩:=id hi
  obtain⟨oa,ga,ca,na,da⟩:=id p
  have nai:a≠it:=zcw ga gi (by rw[ca,ci];exact λz=>absurd (Value.type.inj z) (by decide))
  have nei:e≠it:=zcw he gi (by rw[ci];exact λz=>absurd (Value.type.inj z) (by decide))
  have nea:e≠a:=zcw he ga (by rw[ca];exact λz=>absurd (Value.type.inj z) (by decide))
  have hl:=rv.length
  have hil:i<its.toArray.size:=by
   have:=(List.getElem?_eq_some_iff.mp hx).1
   simpa using (by omega:i<its.length)
  have W:=WalksT.enumerateD (prog:=X.prog) (w:=X.w) (A:=X.A) (WE.draws_tuple (pg:=X.prog) (wd:=X.w) (A:=X.A.in1) (I.ok.hd hc) it a nai its.toArray) e nei (by simp[nei,nea]) (by simp)
  refine W.item i s _ E hil ⟨⟨old,he⟩,hi,p⟩ λT vals h1 tk hP hsz hT mid kp=>⟨.ref T,rfl,?_⟩
  refine W.go es kk pos i T _ _ E mid λh2 st2 kp2=>?_
  obtain⟨t,y,hy,rfl⟩:=hP
  obtain⟨u,hu,ru⟩:=rv.get hx
  have ey:y=u:=Option.some.inj (hy.symm.trans (by simpa using hu))
  subst ey
  have hch:∀b o,b∉[e,it]->s.heap.get? b=some o->h2.get? b=some o:=λb o hb q=>kp2 b o hb (kp b o hb q)
  have hTw:=W.apart i T h1 mid
  have new:yN X.prog X.w (upd H T (.tup [.int i,x])) h2 T (.tup [.int i,x]):=by
   obtain⟨o,g,r⟩:=hT
   exact⟨by show 2<=sizeLine;decide,[.int i t,y],.cons ⟨t,rfl⟩ (.cons ru .nil),o,kp2 T o hTw g,r⟩
  have I2:=I.turnLaid (t':=tk) hf hch hsz new
  refine⟨.ref T,_,I2,rfl,⟨T,I.hok.fresh hsz,rfl,λys z hy' hz'=>?_⟩,⟨st2.1,st2.2.1⟩,λb hb=>?_⟩
  ·rw[I.tuple_inj hy' hq]at hz'
   rw[hx]at hz'
   cases hz'
   rfl
  ·rw[zd (λz:b=T=>hTw (z ▸ hb))]
   exact(hf b hb).1
 done:=by
  intro X hP hw hK hc i pins s σ H E I hf st hg
  subst hP hw hK
  obtain⟨xs,hq,hx⟩:=hg
  obtain⟨its,rv,p,hz⟩:=I.tuple hq
  obtain⟨⟨old,he⟩,hi⟩:=st
  obtain⟨oi,gi,ci,di⟩:=id hi
  obtain⟨oa,ga,ca,na,da⟩:=id p
  have nai:a≠it:=zcw ga gi (by rw[ca,ci];exact λz=>absurd (Value.type.inj z) (by decide))
  have nei:e≠it:=zcw he gi (by rw[ci];exact λz=>absurd (Value.type.inj z) (by decide))
  have nea:e≠a:=zcw he ga (by rw[ca];exact λz=>absurd (Value.type.inj z) (by decide))
  have hl:=rv.length
  have W:=WalksT.enumerateD (prog:=X.prog) (w:=X.w) (A:=X.A) (WE.draws_tuple (pg:=X.prog) (wd:=X.w) (A:=X.A.in1) (I.ok.hd hc) it a nai its.toArray) e nei (by simp[nei,nea]) (by simp)
  have en:its.toArray.size=i:=by simp;omega
  refine W.done s _ E (by rw[en];exact⟨⟨old,he⟩,hi,p⟩) λh2 tk kp=>⟨rfl,I.turnedL (t':=tk) hf kp⟩
 self:=λ_ _ _ _ _ st q=>by
  obtain⟨⟨old,he⟩,_⟩:=st
  exact wpAny_pyIter_enum he q
def ye1 (K:PySem.W.Frag)(ta:TA):TI:=λσ H R=>ta σ H λvs H1=>∃a,vs=[.ref a]/\(∃xs,SqT K H1 a xs)/\R (Ite K a) H1
theorem ziG {X:Cx}{a:Expr}{es:List Expr}{kk:Nat}{tp:Pos}{ta:TA}{p pos:Pos}(hg:Gl X "enumerate")(hm:X.mg "enumerate"=none)(ha:PA X [a] ta)(hs:starEach [a] X.env=[(false,eval a X.env)]:=by rfl) :
  PI X (.Tuple es kk tp) (.Call (.Name "enumerate" p) [a] [] pos) (ye1 X.K ta):=by
 intro pins s σ H R I h
 refine wpAny_Call_Name_kw (zbf I hg hm boot_enumerate ?_)
 refine PyProof.Rows.callWith_type1 (thn (ha pos pins s σ H _ I h) λus s1 ⟨vs,H1,I1,r1,q1⟩=>?_) hs rfl
 obtain⟨l,rfl,⟨xs,hq⟩,q⟩:=q1
 obtain⟨u,rfl,ru⟩:=Vals.one r1
 cases (show u=Value.ref l from ru)
 obtain⟨its,rv,pt,hz⟩:=I1.tuple hq
 refine WE.call_enumT (show s1.heap.IsTuple l its.toArray from pt) λh1 he hi hsz kp=>?_
 refine wpAny_pyIter_enum he ?_
 refine⟨_,[s1.heap.objs.size+1,s1.heap.objs.size],_,_,H1,rfl,I1.kept (t':=s1.toks) kp,zgB l _ s1.heap.objs.size,⟨⟨_,he⟩,hi⟩,λb hb=>?_,q⟩
 have hb2:s1.heap.objs.size<=b:=by
  rcases List.mem_cons.mp hb with z|z
  ·subst z
   exact Nat.le_succ _
  ·have z:b=s1.heap.objs.size:=by simpa using z
   subst z
   exact Nat.le_refl _
 exact I1.fpOk hb2 (I1.hok.fresh hb2)
abbrev No:Value->Shared->Prop:=λ_ _=>False
abbrev yc7 (ifs:List Expr)(env:Env):Sem Bool:=forIn ifs true λc r=>if r=true then do let ok <- isTrue c env (eval c env);pure (ForInStep.yield ok)else pure (ForInStep.yield r)
section
variable {pg:Program}{wd:World}{A:Around}{R:Result->Shared->Prop}{s:Shared}
theorem zhb {elt tg iter:Expr}{ifs:List Expr}{sc:Scope}{pos:Pos}{it acc:Value}{env:Env}(I:Nat->Shared->Prop)
  (turn:∀n s,I n s->wpAny (model pg wd) A (pyNext it) (λr s1=>match r with
   |none=>R (.ok .next) s1
   |some v=>wpAny (model pg wd) A (letOwnedTupleGo tg it v) (λ_ s2=>wpAny (model pg wd) A (assign tg env v) (λ_ s3=>wpAny (model pg wd) A (yc7 ifs env) (λok s4 =>
     if ok=true then wpAny (model pg wd) A (eval elt env) (λx s5=>wpAny (model pg wd) A (call (.builtin "list.append") [acc,x]) (λ_ s6=>∃m,m<n/\I m s6) No s5) No s4
     else ∃m,m<n/\I m s4) No s3) No s2) No s1) No s)
  (n:Nat) (h:I n s):codeAny (model pg wd) A (.compLoop (.ListComp elt [⟨tg,iter,ifs,0⟩] sc pos) 0 it acc env) R s:=by
 refine codeAny_loop rfl I (λn s hI=>?_) n h
 show wpAny _ A ((compTurn (.ListComp elt [⟨tg,iter,ifs,0⟩] sc pos) 0 it acc env).onRaise (λx=>do noteFrame x env;theTreesLotGoes x)) _ _ s
 refine wpAny_noted ?_
 rw[compTurn_list]
 refine wpAny_bind (wpAny_standAt (wpAny_bind (wpAny_mono (turn n s hI) (λr s1 h1=>?_) λ_ _ f=>f.elim)))
 cases r with
 |none=>exact wpAny_pure h1
 |some v =>
  refine wpAny_bind (wpAny_mono h1 (λ_ s2 h2=>wpAny_bind (wpAny_mono h2 (λ_ s3 h3=>wpAny_bind (wpAny_mono h3 (λok s4 h4=>?_) λ_ _ f=>f.elim)) λ_ _ f=>f.elim)) λ_ _ f=>f.elim)
  cases ok with
  |false=>exact wpAny_pure ⟨rfl,h4⟩
  |true=>exact wpAny_bind (wpAny_bind (wpAny_mono h4 (λx s5 h5=>wpAny_bind (wpAny_mono h5 (λ_ s6 h6=>wpAny_pure (wpAny_pure ⟨rfl,h6⟩)) λ_ _ f=>f.elim)) λ_ _ f=>f.elim))
end
def yac (env:Env)(r:List (Str×Addr))(x:Str×NameKind):List (Str×Addr):=if x.2=.free then(x.1,(env.cells.lookup x.1).getD 0)::r else r
def ycL (sc:Scope)(env:Env):List (Str×Addr):=sc.names.foldl (yac env) []
theorem zgk {α β:Type}{l:List α}{f:α->β->Sem (ForInStep β)}{g:β->α->β}(h:∀x∈l,∀c,f x c=pure (.yield (g c x))):∀c:β,forIn l c f=pure (l.foldl g c):=by
 induction l with
 |nil=>exact λ_=>rfl
 |cons x l ih =>
  intro c
  rw[List.forIn_cons,h x List.mem_cons_self,pure_bind,List.foldl_cons]
  exact ih (λy hy=>h y (List.mem_cons_of_mem _ hy)) (g c x)
theorem zah {sc:Scope}{env:Env}(hf:∀y∈sc.names,y.2=.free->∃c,env.cells.lookup y.1=some c):closureFor sc env=pure (ycL sc env):=by
 simp only[closureFor]
 rw[zgk (g:=yac env) (λx hx c=>?_)]
 ·rfl
 ·obtain⟨n,k⟩:=x
  by_cases hk:k=.free
  ·subst hk
   obtain⟨a,ha⟩:=hf _ hx rfl
   have ha':env.cells.lookup n=some a:=ha
   simp[yac,cellOf,ha']
  ·have hb:(k == NameKind.free)=false:=by simpa using hk
   simp[yac,hk,hb]
theorem zco {env:Env}:∀(l:List (Str×NameKind)) (r:List (Str×Addr)),(∀y∈l,y.2=.free->∃c,env.cells.lookup y.1=some c)->(∀x c,r.lookup x=some c->env.cells.lookup x=some c) ->
  ∀x c,(l.foldl (yac env) r).lookup x=some c->env.cells.lookup x=some c
 | [],r,_,h=>h
 |y::l,r,hf,h=>by
  refine zco l (yac env r y) (λz hz=>hf z (List.mem_cons_of_mem _ hz)) λx c e=>?_
  unfold yac at e
  by_cases hk:y.2=.free
  ·obtain⟨a,ha⟩:=hf y List.mem_cons_self hk
   rw[if_pos hk,List.lookup_cons]at e
   cases hx:x == y.1 with
   |true =>
    rw[hx,ha]at e
    rw[eq_of_beq hx,ha]
    exact e
   |false =>
    rw[hx]at e
    exact h x c e
  ·rw[if_neg hk]at e
   exact h x c e
theorem zbM {env:Env}{x:Str}:∀(l:List (Str×NameKind)) (r:List (Str×Addr)),(∃c,r.lookup x=some c)->∃c,(l.foldl (yac env) r).lookup x=some c
 | [],r,h=>h
 |y::l,r,h=>by
  refine zbM l (yac env r y) ?_
  unfold yac
  by_cases hk:y.2=.free
  ·rw[if_pos hk,List.lookup_cons]
   cases hx:x == y.1 with
   |true=>exact⟨_,rfl⟩
   |false=>exact h
  ·rw[if_neg hk]
   exact h
theorem za1 {env:Env}:∀(l:List (Str×NameKind)) (r:List (Str×Addr)),∀y∈l,y.2=.free->∃c,(l.foldl (yac env) r).lookup y.1=some c
 | [],_,y,hy,_=>nomatch hy
 |z::l,r,y,hy,hk=>by
  rcases List.mem_cons.mp hy with e|e
  ·subst e
   refine zbM l (yac env r y) ?_
   unfold yac
   rw[if_pos hk,List.lookup_cons,beq_self_eq_true]
   exact⟨_,rfl⟩
  ·exact za1 l (yac env r z) y e hk
theorem mem_of_lookup {β:Type}{x:Str}{k:β}:∀{l:List (Str×β)},l.lookup x=some k->(x,k)∈l
 | [],h=>nomatch h
 |y::l,h=>by
  rw[List.lookup_cons]at h
  cases hx:x == y.1 with
  |true =>
   rw[hx]at h
   cases h
   rw[eq_of_beq hx]
   exact List.mem_cons_self
  |false =>
   rw[hx]at h
   exact List.mem_cons_of_mem _ (mem_of_lookup h)
def ycJ (env:Env)(x:Str)(k:NameKind):NameKind:=if (k == .free && env.scope.kind == .function && env.kindOf x == some .cell)=true then .cell else k
theorem zcD {sc:Scope}{env:Env}(x:Str):(relabel sc env).names.lookup x=(sc.names.lookup x).map (ycJ env x):=by
 unfold relabel
 show (sc.names.map λ(n,k)=>if (k == NameKind.free && env.scope.kind == .function && env.kindOf n == some .cell)then(n,NameKind.cell)else(n,k)).lookup x=_
 induction sc.names with
 |nil=>rfl
 |cons y l ih =>
  obtain⟨n,k⟩:=y
  rw[List.map_cons]
  show List.lookup x ((if (k == NameKind.free && env.scope.kind == .function && env.kindOf n == some .cell)=true then(n,NameKind.cell)else(n,k))::_)=_
  cases hx:x == n with
  |true =>
   have e:=eq_of_beq hx
   subst e
   by_cases hc:(k == NameKind.free && env.scope.kind == .function && env.kindOf x == some .cell)=true
   ·rw[if_pos hc,List.lookup_cons,beq_self_eq_true]
    simp[ycJ,hc]
   ·rw[if_neg hc,List.lookup_cons,beq_self_eq_true]
    simp[ycJ,hc]
  |false =>
   by_cases hc:(k == NameKind.free && env.scope.kind == .function && env.kindOf n == some .cell)=true
   ·rw[if_pos hc]
    simp only[List.lookup_cons,hx]
    exact ih
   ·rw[if_neg hc]
    simp only[List.lookup_cons,hx]
    exact ih
structure CI where
 C:Addr
 s:Shared
 H:Hp
 fp:List Addr
def cxC (X:Cx)(sc:Scope)(NC:List Str)(j:CI):Cx where
 prog:=X.prog
 w:=X.w
 K:=X.K
 mg:=X.mg
 base:=X.base
 A:=X.A
 N:=NC
 s₀:=j.s
 H₀:=j.H
 env:=compEnvC sc (ycL sc X.env) j.C X.env
 outer:=X.stack
 stack:=X.stack
 ex:=j.fp
 fn:=λ_=>false
 calm:=X.calm
 pn:=[]
 xe:=No
def inn (slots:List (Option Nat))(σ:St):St:=slots.map λo=>o.bind λj=>(σ[j]?).join
structure yZ (X:Cx)(sc:Scope)(NC:List Str)(slots:List (Option Nat)):Prop where
 kind:sc.kind=.function
 names:∀y∈sc.names,y.2=.local->sc.names.lookup y.1=some .local
 nocell:∀y∈sc.names,y.2 ≠ .cell
 free:∀y∈sc.names,y.2=.free->X.env.scope.names.lookup y.1=some .cell
 slot:∀(i:Nat) (x:Str) (j:Nat),NC[i]?=some x->slots[i]?=some (some j)->X.N[j]?=some x/\sc.names.lookup x=some .free
 len:slots.length=NC.length
theorem ycP {X:Cx}{sc:Scope}{NC:List Str}{slots:List (Option Nat)}(N:List Str)(so:Scope)(hN:X.N=N)(hs:X.env.scope=so)(kind:sc.kind=.function)
  (names:∀y∈sc.names,y.2=.local->sc.names.lookup y.1=some .local) (nocell:∀y∈sc.names,y.2 ≠ .cell) (free:∀y∈sc.names,y.2=.free->so.names.lookup y.1=some .cell)
  (slot:∀p∈NC.zip slots,(p.2.all λj=>decide (N[j]?=some p.1/\sc.names.lookup p.1=some .free))=true) (len:slots.length=NC.length):yZ X sc NC slots:=by
 subst hN hs
 refine⟨kind,names,nocell,free,λi x j e1 e2=>?_,len⟩
 have hm:(x,some j)∈NC.zip slots:=List.mem_of_getElem? (i:=i) (by rw[List.getElem?_zip_eq_some];exact⟨e1,e2⟩)
 have:=slot _ hm
 simpa using this
section
variable {X:Cx}{sc:Scope}{NC:List Str}{slots:List (Option Nat)}{pins:List (Addr×Obj)}{σ:St}{H:Hp}{s:Shared}
theorem yZ.cells (O:yZ X sc NC slots)(ok:X.Ok):∀y∈sc.names,y.2=.free->∃c,X.env.cells.lookup y.1=some c:=λy hy hk=>ok.has y.1 (.inl (O.free y hy hk))
theorem yZ.sub (O:yZ X sc NC slots)(ok:X.Ok):∀x c,(ycL sc X.env).lookup x=some c->X.env.cells.lookup x=some c:=zco sc.names [] (O.cells ok) λ_ _ e=>nomatch e
theorem yZ.rel (O:yZ X sc NC slots)(ok:X.Ok){x:Str}(h:sc.names.lookup x=some .free):(relabel sc X.env).names.lookup x=some .cell:=by
 rw[zcD,h]
 have e:X.env.kindOf x=some .cell:=O.free _ (mem_of_lookup h) rfl
 simp[ycJ,ok.kind,e]
theorem zf1 (I:Inv X pins σ H s)(O:yZ X sc NC slots){fp:List Addr}(hf:∀b∈fp,ya9 X pins H b)(hob:∀b∈fp,∃o,s.heap.get? b=some o){h1:Heap}{t':Nat}{m:Str->Option Value}(hns:h1.Ns s.heap.objs.size m)
  (hk:∀b o,s.heap.get? b=some o->h1.get? b=some o):Inv (cxC X sc NC ⟨s.heap.objs.size,s,H,fp⟩) [] (inn slots σ) H { s with heap:=h1,toks:=t' }:=by
 have sub:=O.sub I.ok
 have fss:∀b,b≠X.env.locals->b∉X.fs->b∉frs X.stack:=λb h1 h2 hb=>(List.mem_cons.mp (I.stkSub b hb)).elim h1 h2
 have ltC:∀x c,(ycL sc X.env).lookup x=some c->c<s.heap.objs.size:=λx c e=>by
  obtain⟨v,q⟩:=I.cell x c (sub x c e)
  exact q.lt
 refine⟨⟨I.ok.mod,O.kind,I.ok.glob,I.ok.blt,Nat.le_refl _,λx y c e1 e2=>I.ok.inj x y c (sub x c e1) (sub y c e2),λx hx=>?_,λ_ _ z=>(nomatch z),I.ok.hd,I.ok.frames,.inl rfl,λb hb=>⟨?_,λx c e=>(hf b hb).2.2.2.2.1 x c (sub x c e)⟩,I.bs,Nat.le_trans I.ok.bsz I.sz,λb o e hb=>?_,λb hb=>fss b (hf b hb).2.1 (hf b hb).2.2.1,I.stack,I.stkFree⟩,
  rfl,I.bare,Un.kept hk,⟨m,hns,λi x v e1 e2 e3=>?_⟩,λx c e=>?_,I.hok.fresh (Nat.le_refl _),λx c e=>I.freeC x c (sub x c e),λp hp=>(nomatch hp),I.hok.kept hk,?_⟩
 ·have hx':(relabel sc X.env).names.lookup x=some .cell \/ (relabel sc X.env).names.lookup x=some .free:=hx
  rw[zcD]at hx'
  cases q:sc.names.lookup x with
  |none =>
   rw[q]at hx'
   rcases hx' with z|z <;> cases z
  |some k =>
   have hm:=mem_of_lookup q
   have hkf:k=.free:=by
    rw[q]at hx'
    have nc:=O.nocell _ hm
    by_cases hk:k=.free
    ·exact hk
    ·exfalso
     have hb:(k == NameKind.free)=false:=by simpa using hk
     rcases hx' with z|z
     ·simp[ycJ,hb]at z
      exact nc z
     ·simp[ycJ,hb]at z
      exact hk z
   subst hkf
   exact za1 sc.names [] _ hm rfl
 ·obtain⟨o,e⟩:=hob b hb
  exact Nat.ne_of_lt (Heap.lt_size e)
 ·rcases (hf b hb).2.2.2.1 with z|z
  ·exact I.ok.noex b o e z
  ·exact absurd (Nat.lt_of_lt_of_le (Heap.lt_size e) (Nat.le_trans I.ok.bsz z)) (Nat.lt_irrefl _)
 ·obtain⟨j,e4,e5⟩:∃j,slots[i]?=some (some j)/\σ[j]?=some (some v):=by
   have e2':(slots.map λo=>o.bind λj=>(σ[j]?).join)[i]?=some (some v):=e2
   rw[List.getElem?_map]at e2'
   cases q:slots[i]? with
   |none =>
    rw[q]at e2'
    cases e2'
   |some o =>
    rw[q]at e2'
    cases o with
    |none=>cases e2'
    |some j =>
     refine⟨j,rfl,?_⟩
     have e6:(σ[j]?).join=some v:=Option.some.inj e2'
     cases q2:σ[j]? with
     |none =>
      rw[q2]at e6
      cases e6
     |some w =>
      rw[q2]at e6
      have e7:w=some v:=e6
      rw[e7]
  obtain⟨e6,e7⟩:=O.slot i x j e1 e4
  have kc:X.env.scope.names.lookup x=some .cell:=O.free _ (mem_of_lookup e7) rfl
  obtain⟨m0,hn0,hl⟩:=I.loc
  obtain⟨u,r,lk⟩:=hl j x v e6 e5 (.inr (.inl kc))
  refine⟨u,r,.inr ⟨.inl (O.rel I.ok e7),?_⟩⟩
  rcases lk with⟨z,_⟩|⟨_,c,hc,o,ho,hd⟩
  ·rw[show X.env.kindOf x=some .cell from kc]at z
   cases z
  ·obtain⟨c',hc'⟩:=za1 (env:=X.env) sc.names [] _ (mem_of_lookup e7) rfl
   have e8:c'=c:=Option.some.inj ((sub x c' hc').symm.trans hc)
   subst e8
   exact⟨c',hc',o,hk _ _ ho,hd⟩
 ·obtain⟨v,o,ho,hd⟩:=I.cell x c (sub x c e)
  exact⟨v,o,hk _ _ ho,hd⟩
 ·show (slots.map λo=>o.bind λj=>(σ[j]?).join).length=NC.length
  rw[List.length_map,O.len]
theorem zgy (I:Inv X pins σ H s){fp:List Addr}(hf:∀b∈fp,ya9 X pins H b){C:Addr}(hC:s.heap.objs.size<=C){pl:List (Addr×Obj)}{σ':St}{H':Hp}{s':Shared}(J:Inv (cxC X sc NC ⟨C,s,H,fp⟩) pl σ' H' s')
  {h2:Heap} (hb:Heap.SameBut C s'.heap h2):Inv X pins σ H' { s' with heap:=h2 }:=by
 have nC:∀b o,s.heap.get? b=some o->b≠C:=λb o e=>Nat.ne_of_lt (Nat.lt_of_lt_of_le (Heap.lt_size e) hC)
 have B:Un (frs X.stack) fp H H' s.heap s'.heap:=J.base
 have fC:H' C=none:=J.free
 refine I.call' (ch:=fp) J.os ⟨λb o e n h3 h4=>(hb.2 b (nC b o e)).trans (B.keep b o e n h3 h4),λb o e n h3 h4=>?_,B.free,λb o e h4=>?_,B.tups,B.frzs,B.tbls⟩ (λb u e=>?_) J.bare λb h3=>⟨(hf b h3).2.2.2.1,(hf b h3).2.1,(hf b h3).2.2.2.2.1,(hf b h3).2.2.2.2.2⟩
 ·obtain⟨sl,q⟩:=B.slot b o e n h3 h4
  exact⟨sl,(hb.2 b (nC b o e)).trans q⟩
 ·obtain⟨o',q⟩:=B.there b o e h4
  exact⟨o',(hb.2 b (nC b o e)).trans q⟩
 ·refine(J.hok b u e).stay (λc v hc q=>(hb.2 c λz=>?_).trans q) (λ_ q=>q) λ_ _ q=>q
  subst z
  rcases hc with z|z
  ·rw[z,e]at fC
   cases fC
  ·rw[z]at fC
   cases fC
end
def PTs (X:Cx)(ifs:List Expr)(t:TT):Prop :=
 ∀(pins:List (Addr×Obj)) (s:Shared) (σ:St) (H:Hp) (Q:Bool->Hp->Prop),Inv X pins σ H s->t σ H Q->wpAny (model X.prog X.w) X.A (yc7 ifs X.env) (TP X pins σ Q) X.xe s
def ye6:TT:=λ_ H Q=>Q true H
theorem zkr {X:Cx}:PTs X [] ye6:=λ_ _ _ H _ I h=>wpAny_tests_nil ⟨H,I,h⟩
theorem zkX {X:Cx}{c:Expr}{t:TT}(h:PT X c t):PTs X [c] t:=λpins s σ H Q I q=>wpAny_tests_one (h pins s σ H Q I q)
def ycq (J:It)(D:Addr)(g:TG)(ti:TT)(te:TE)(W:Nat->Nat->St->List V->Hp->Prop)(Q:Hp->Prop):Prop :=
 ∀i m σc ys H2,W i m σc ys H2->H2 D=some (.lst ys)/\((J.stop i H2/\Q H2) \/ (J.go i H2/\ys.length<sizeLine/\∃N:St->List V->Hp->Prop,(∀σ' ys' H',N σ' ys' H'->∃m',m' < m/\W (i+1) m' σ' ys' H') /\
  ∀x H3,J.yld i H2 x H3->g x σc H3 λσ4 H4=>ti σ4 H4 λb H5=>if b=true then te σ4 H5 λy H6=>H6 D=some (.lst ys)/\N σ4 (ys++[y]) (upd H6 D (.lst (ys++[y])))else N σ4 ys H5))
def yck (slots:List (Option Nat))(wi:TI)(g:TG)(ti:TT)(te:TE):TE:=λσ H Q=>wi σ H λJ H1=>∀D,H1 D=none->∃W:Nat->Nat->St->List V->Hp->Prop,(∃m,W 0 m (inn slots σ) [] (upd H1 D (.lst [])))/\ycq J D g ti te W (Q (.ref D))
section
variable {X:Cx}{sc:Scope}{NC:List Str}{slots:List (Option Nat)}{elt tg iter:Expr}{ifs:List Expr}{pos:Pos}{g:TG}{ti:TT}{te:TE}
theorem zjD (hc:X.calm=true)(hg:∀j,PG (cxC X sc NC j) tg g)(ht:∀j,PTs (cxC X sc NC j) ifs ti)(he:∀j,PE (cxC X sc NC j) elt te){cj:CI}{it D:Addr}{tn:Nat->Heap->Prop}{J:It}
  {W:Nat->Nat->St->List V->Hp->Prop} {Q:Hp->Prop} {R:Result->Shared->Prop} {s:Shared} {σc:St} {ys:List V} {H:Hp} (T:Turn X.prog X.w X.K tg J cj.fp it tn)
  (I:Inv (cxC X sc NC cj) [] σc H s) (hf:∀b∈cj.fp,ya9 (cxC X sc NC cj) [] H b) (st:tn 0 s.heap) {m:Nat} (w0:W 0 m σc ys H) (step:ycq J D g ti te W Q)
  (fin:∀σ' H' s',Inv (cxC X sc NC cj) [] σ' H' s'->Q H'->R (.ok .next) s') :
  codeAny (model X.prog X.w) X.A (.compLoop (.ListComp elt [⟨tg,iter,ifs,0⟩] sc pos) 0 (.ref it) (.ref D) (cxC X sc NC cj).env) R s:=by
 have stat:∀{H':Hp},(∀b∈cj.fp,H' b=none)->∀b∈cj.fp,ya9 (cxC X sc NC cj) [] H' b:=λhn b hb=>⟨hn b hb,(hf b hb).2⟩
 refine zhb (λn s'=>∃i σ' ys' H',Inv (cxC X sc NC cj) [] σ' H' s'/\tn i s'.heap/\(∀b∈cj.fp,H' b=none)/\W i n σ' ys' H') ?_ m ⟨0,σc,ys,H,I,st,λb hb=>(hf b hb).1,w0⟩
 rintro n s3 ⟨i,σ3,ys3,H3,I3,st3,fr3,w3⟩
 obtain⟨hD,q⟩:=step i n σ3 ys3 H3 w3
 rcases q with⟨stop,qn⟩|⟨go,hz,N,hN,turn⟩
 ·refine thn (T.done (cxC X sc NC cj) rfl rfl rfl hc i [] s3 σ3 H3 No I3 (stat fr3) st3 stop) λr s4 ⟨hr,I4⟩=>?_
  subst hr
  exact fin σ3 H3 s4 I4 qn
 ·refine thn (T.item (cxC X sc NC cj) rfl rfl rfl hc i [] s3 σ3 H3 No I3 (stat fr3) st3 go) λr s4 ⟨u,hr,h4⟩=>?_
  subst hr
  refine thn h4 λ_ s5 ⟨x,H5,I5,r5,y5,st5,fr5⟩=>?_
  have I5':=I5.pinned (stat fr5) (T.obj _ _ st5)
  refine thn (hg cj _ s5 σ3 H5 x u _ I5' r5 (turn x H5 y5)) λ_ s6 ⟨σ6,H6,I6,q6⟩=>?_
  refine thn (ht cj _ s6 σ6 H6 _ I6 q6) λok s7 ⟨H7,I7,q7⟩=>?_
  have again:∀{σ8:St} {ys8:List V} {H8:Hp} {s8:Shared},Inv (cxC X sc NC cj) ([]++ya6 cj.fp s5.heap) σ8 H8 s8->N σ8 ys8 H8->∃m,m<n/\∃i σ' ys' H',Inv (cxC X sc NC cj) [] σ' H' s8/\tn i s8.heap/\(∀b∈cj.fp,H' b=none)/\W i m σ' ys' H':=λ{σ8 ys8 H8 s8} I8 n8=>by
   obtain⟨m',hm,w8⟩:=hN σ8 ys8 H8 n8
   refine⟨m',hm,i+1,σ8,ys8,H8,I8.unpinned,T.keep _ _ _ st5 λb hb o e=>(I8.pin (b,o) (List.mem_append_right _ (List.mem_append_right _ (zak hb e)))).1,λb hb=>?_,w8⟩
   obtain⟨o,e,d⟩:=T.obj _ _ st5 b hb
   exact(I8.pin (b,o) (List.mem_append_right _ (List.mem_append_right _ (zak hb e)))).2.1
  cases ok with
  |false =>
   rw[if_neg Bool.false_ne_true]at q7 ⊢
   exact again I7 q7
  |true =>
   rw[if_pos rfl]at q7 ⊢
   refine thn (he cj _ s7 σ6 H7 _ I7 q7) λy s8 ⟨v,H8,I8,r8,hD8,q8⟩=>?_
   refine thn (zd1 (X:=cxC X sc NC cj) _ s8 σ6 H8 (.ref D) [v] (.ref D) [y] (λz H'=>z=.non/\H'=upd H8 D (.lst (ys3++[v]))) I8 rfl (.cons r8 .nil) ⟨D,ys3,v,rfl,rfl,hD8,hz,rfl,rfl⟩) λz s9 ⟨zv,H9,I9,r9,e1,e2⟩=>?_
   subst e2
   exact again I9 q8
theorem zcy (hc:X.calm=true)(O:yZ X sc NC slots)(hg:∀j,PG (cxC X sc NC j) tg g)(ht:∀j,PTs (cxC X sc NC j) ifs ti)(he:∀j,PE (cxC X sc NC j) elt te){pins:List (Addr×Obj)}{s:Shared}{σ:St}{H:Hp}(I:Inv X pins σ H s)
  {it:Addr} {fp:List Addr} {tn:Nat->Heap->Prop} {J:It} (T:Turn X.prog X.w X.K tg J fp it tn) (st:tn 0 s.heap) (hf:∀b∈fp,ya9 X pins H b) {Q:VK}
  (h:∀D,H D=none->∃W:Nat->Nat->St->List V->Hp->Prop,(∃m,W 0 m (inn slots σ) [] (upd H D (.lst [])))/\ycq J D g ti te W (Q (.ref D))) {RR:Value->Addr->Result->Shared->Prop}
  (fin:∀D C s' H',Q (.ref D) H'->(∃o m,s'.heap.get? C=some o/\s'.heap.Ns C m/\∀v,o.data ≠ .cell v)->ya9 X pins H' C->(∀h2,Heap.SameBut C s'.heap h2->Inv X pins σ H' { s' with heap:=h2 })->RR (.ref D) C (.ok .next) s') :
  wpAny (model X.prog X.w) X.A (newList []) (λacc s3=>wpAny (model X.prog X.w) X.A (newFunctionEnv sc X.env.globals (ycL sc X.env) [] X.env.qual none .none (some X.env)) (λcenv s4 =>
   codeAny (model X.prog X.w) X.A (.compStart (.ListComp elt [⟨tg,iter,ifs,0⟩] sc pos) 0 (.ref it) acc { cenv with scope:=relabel sc X.env }) (RR acc cenv.locals) s4) X.xe s3) X.xe s:=by
 refine wpAny_newObj_type (wpAny_newFunctionEnv O.nocell (by intro y hy;simp at hy) (λh1 hns1 hsb1=>?_) O.kind)
 dsimp only at hns1 hsb1 ⊢
 have hDn:H s.heap.objs.size=none:=I.hok.fresh (Nat.le_refl _)
 obtain⟨W,⟨m,w0⟩,step⟩:=h s.heap.objs.size hDn
 obtain⟨s3,hs3⟩:∃x:Shared,x=({ s with heap:=s.heap.push { cls:=.type "list",dict:=none,data:=.seq ([]:List Value).toArray } }:Shared):=⟨_,rfl⟩
 have e3:s3.heap=s.heap.push { cls:=.type "list",dict:=none,data:=.seq ([]:List Value).toArray }:=by rw[hs3]
 rw[<- e3]at hns1 hsb1
 have hp3:∀b o,s.heap.get? b=some o->s3.heap.get? b=some o:=λb o e=>by
  rw[e3]
  exact Heap.get?_push_of_some _ e
 have I3:Inv X pins σ (upd H s.heap.objs.size (.lst [])) s3:=by
  have q:=I.laid (a:=s.heap.objs.size) (o:=.lst []) (h':=s3.heap) (t':=s.toks) hp3 (Nat.le_refl _) ⟨Nat.zero_le _,[],_,.nil,by rw[e3];exact Heap.get?_push_size _ rfl⟩
  rw[hs3]at q ⊢
  exact q
 have hf3:∀b∈fp,ya9 X pins (upd H s.heap.objs.size (.lst [])) b:=λb hb=>by
  obtain⟨o,e,_⟩:=T.obj _ _ st b hb
  refine⟨?_,(hf b hb).2⟩
  rw[zd (Nat.ne_of_lt (Heap.lt_size e))]
  exact(hf b hb).1
 have st3:tn 0 s3.heap:=T.keep _ _ _ st λb _ o e=>hp3 b o e
 have hob:∀b∈fp,∃o,s3.heap.get? b=some o:=λb hb=>by
  obtain⟨o,e,_⟩:=T.obj _ _ st3 b hb
  exact⟨o,e⟩
 have hk1:∀b o,s3.heap.get? b=some o->h1.get? b=some o:=λb o e=>hsb1.extBut b o (Nat.ne_of_lt (Heap.lt_size e)) (Heap.get?_push_of_some _ e)
 have J1:=zf1 (t':=s3.toks+([]:List (Str×Value)).length) I3 O hf3 hob hns1 hk1
 have hfc:∀b∈fp,ya9 (cxC X sc NC ⟨s3.heap.objs.size,s3,upd H s.heap.objs.size (.lst []),fp⟩) [] (upd H s.heap.objs.size (.lst [])) b:=λb hb =>
  ⟨(hf3 b hb).1,(J1.ok.exf b hb).1,J1.ok.exfs b hb,.inl hb,(J1.ok.exf b hb).2,λp hp=>nomatch hp⟩
 have loop:codeAny (model X.prog X.w) X.A (.compLoop (.ListComp elt [⟨tg,iter,ifs,0⟩] sc pos) 0 (.ref it) (.ref s.heap.objs.size) (cxC X sc NC ⟨s3.heap.objs.size,s3,upd H s.heap.objs.size (.lst []),fp⟩).env) (RR (.ref s.heap.objs.size) s3.heap.objs.size)
   { s3 with heap:=h1,toks:=s3.toks+([]:List (Str×Value)).length }:=by
  refine zjD (D:=s.heap.objs.size) (Q:=Q (.ref s.heap.objs.size)) hc hg ht he T J1 hfc (T.keep _ _ _ st3 λb _ o e=>hk1 b o e) w0 step λσ' H' s' J' q'=>?_
  have fC:H' s3.heap.objs.size=none:=J'.free
  refine fin _ _ s' H' q' ?_ (I3.fpOk (Nat.le_refl _) fC) λh2 hb=>zgy I3 hf3 (Nat.le_refl _) J' hb
  obtain⟨m',hn',_⟩:=J'.loc
  obtain⟨o,es,ep,ho,hd,r⟩:=id hn'
  exact⟨o,m',ho,hn',λv z=>by rw[hd]at z;cases z⟩
 have self:=λ(RQ:Value->Shared->Prop) (EE:Value->Shared->Prop)=>T.self X.A 0 { s3 with heap:=h1,toks:=s3.toks+([]:List (Str×Value)).length } RQ EE (T.keep _ _ _ st3 λb _ o e=>hk1 b o e)
 subst hs3
 exact codeAny_compStart_list loop (self _ _ loop)
variable {wi:TI}
theorem zkF (hc:X.calm=true)(O:yZ X sc NC slots)(hi:PI X tg iter wi)(hg:∀j,PG (cxC X sc NC j) tg g)(ht:∀j,PTs (cxC X sc NC j) ifs ti)(he:∀j,PE (cxC X sc NC j) elt te)
  (hs:∀x,foldedSetIterable iter X.env x=pure x:=by intro _;rfl):PE X (.ListComp elt [⟨tg,iter,ifs,0⟩] sc pos) (yck slots wi g ti te):=by
 intro pins s σ H Q I h
 rw[eval_ListComp]
 refine wpAny_comprehension_free (use:=none) rfl hs (zah (O.cells I.ok)) O.kind O.names (thn (hi pins s σ H _ I h) λv s1 h1=>thn h1 λitv s2 h2=>?_)
 obtain⟨it,fp,tn,J,H2,rfl,I2,T,st2,f2,q2⟩:=h2
 refine zcy hc O hg ht he I2 T st2 f2 q2 λD C s' H' q' ⟨o,m,ho,hn,_⟩ _ out=>⟨m,hn,λh2 hb=>⟨.ref D,H',out h2 hb,rfl,q'⟩⟩
theorem zkY {i:Nat}{x:Str}{px spos:Pos}(hN:X.N.Nodup)(hix:X.N[i]?=some x)(hx:Loc X.env.scope x)(hc:X.calm=true)(O:yZ X sc NC slots)(hi:PI X tg iter wi)(hg:∀j,PG (cxC X sc NC j) tg g)(ht:∀j,PTs (cxC X sc NC j) ifs ti)(he:∀j,PE (cxC X sc NC j) elt te)
  (hsw:swapsWith (.ListComp elt [⟨tg,iter,ifs,0⟩] sc pos) (some (.Name x px)) spos.line X.env=pure true:=by rfl) (hs:∀x,foldedSetIterable iter X.env x=pure x:=by intro _;rfl)
  (hf:X.fn x=true \/ X.env.scope.names.lookup x=some .local:=by first|exact .inl rfl|exact .inr rfl|assumption):PS X (.Assign [.Name x px] (.ListComp elt [⟨tg,iter,ifs,0⟩] sc pos) spos) (yeh (yck slots wi g ti te) (yb5 i)):=by
 intro pins s σ H Dd I h
 rw[exec_Assign_Name_used _ _ _ _ hsw,arm_evalThenUse_ListComp]
 refine wpAny_bind (wpAny_standAt (wpAny_bind (wpAny_bind ?_)))
 refine wpAny_comprehension_free (Q:=λ_ s'=>wpAny (model X.prog X.w) X.A (pure ()) (λ_ s''=>wpAny (model X.prog X.w) X.A (pure Flow.next) (SP X pins Dd) X.xe s'') X.xe s') rfl hs (zah (O.cells I.ok)) O.kind O.names (thn (hi pins s σ H _ I h) λv s1 h1=>thn h1 λitv s2 h2=>?_)
 obtain⟨it,fp,tn,J,H2,rfl,I2,T,st2,f2,q2⟩:=h2
 refine zcy (Q:=λx H1=>yb5 i x σ H1 Dd.nx) hc O hg ht he I2 T st2 f2 q2 λD C s' H' q' ⟨o,m,ho,hn,hd⟩ FC out=>?_
 have I':Inv X pins σ H' s':=out s'.heap (Heap.SameBut.refl ..)
 have Ip:Inv X (pins++[(C,o)]) σ H' s':=I'.pins_of λp hp=>(List.mem_append.mp hp).elim (λz=>I'.pin p (List.mem_append_right _ z)) λz=>by
  have e:p=(C,o):=by simpa using z
  subst e
  exact⟨ho,FC.1,FC.2.1,FC.2.2.1,hd⟩
 show wpAny (model X.prog X.w) X.A (assign (.Name x px) X.env (.ref D)) _ _ s'
 refine wpAny_assign_Name (zal Ip hN hix hx (show RelV (.ref D) (.ref D)from rfl) (λs6 I6=>?_) hf)
 have g6:=(I6.pin (C,o) (List.mem_append_right _ (List.mem_append_right _ List.mem_cons_self))).1
 obtain⟨o',es,ep,ho',r⟩:=hn
 rw[ho]at ho'
 cases ho'
 refine⟨m,⟨o,es,ep,g6,r⟩,λh2 hb=>wpAny_pure (wpAny_pure ?_)⟩
 exact⟨_,H',I6.unpinned.turned (t':=s6.toks) (λb u hb' e=>(hb.2 b hb').trans e) FC.1 FC.2.1 FC.2.2.2.1 FC.2.2.2.2.1 FC.2.2.2.2.2,q'⟩
end
theorem zfE:∀{bs:List Bool} {us:List Value},Vals (bs.map V.bl) us->LSm.BoolsAre us bs
 | [],_,.nil=>.nil
 |b::bs,_,.cons r q=>by
  cases (show _=Value.bool b from r)
  exact .cons b (zfE q)
section
variable {X:Cx}
def yfE (K:PySem.W.Frag):List V->Hp->VK->Prop:=λxs H Q=>∃(l:Addr) (bs:List Bool),xs=[.ref l]/\SqL K H l (bs.map V.bl)/\Q (.bl (bs.all id)) H
theorem ziK (hc:X.calm=true):yaa X (.builtin "all") (yfE X.K):=by
 intro pins s σ H xs us Q I r h
 obtain⟨l,bs,rfl,hq,q⟩:=h
 obtain⟨u,rfl,ru⟩:=Vals.one r
 cases (show u=Value.ref l from ru)
 obtain⟨its,rv,pl,hz⟩:=I.list hq
 have hb:=zfE rv
 have hl:=pl.isList
 have hlt:l<s.heap.objs.size:=by
  obtain⟨_,e,_⟩:=hl
  exact Heap.lt_size e
 refine call_all_walk (wpAny_pyIter_list hl ?_)
 refine⟨s.heap.objs.size,[s.heap.objs.size,l],[s.heap.objs.size],its.toArray.size,_,_,λi=>(bs[i]?).getD true,rfl,Walks.list (A:=X.A.in1) (I.ok.hd hc) _ l (Nat.ne_of_lt hlt) its.toArray,⟨⟨_,Heap.get?_push_size _ rfl,rfl,rfl⟩,hl.push _⟩,λi v s' Q' E' hP hQ=>?_,λh' tk hk=>?_⟩
 ·obtain⟨b,e,rfl⟩:=hb.get i v (by simpa using hP)
  simp only[e,Option.getD_some]at hQ
  exact wpAny_truthy_bool hQ
 ·have e:((List.range its.toArray.size).all λi=>(bs[i]?).getD true)=bs.all id:=by
   rw[List.size_toArray,hb.length]
   exact LSm.range_all bs
  rw[e]
  exact⟨.bl _,H,I.kept (t':=tk) (LSm.kept_iter hk),rfl,q⟩
end
section
variable {X:Cx}{pins:List (Addr×Obj)}{σ:St}{H:Hp}{s:Shared}
end
section
variable {X:Cx}{a:Expr}{ta:TE}{K:PySem.W.Frag}
end
end L2
namespace L2
end L2
namespace L2
open PySem PySem.Spec PyProof.Rows
def CX1 (P:Program)(w:World):CXT:=λouter H s E e s'=>∃(a:Addr) (cls a0:Value) (H':Hp) (B:Heap),e=.ref a/\s'.os=s.os/\AllBare s'.gens/\Heap.FlyingW B outer a cls a0 s'.heap/\HOk P w H' s'.heap/\Un (frs outer) [] H H' s.heap s'.heap /\
 (∀b o,s.heap.get? b=some o->H b=none->b∉frs outer->B.get? b=some o)/\(∀b u,H' b=some u->∃o,B.get? b=some o)/\(∀b o,s.heap.get? b=some o->b∉frs outer->∃o',B.get? b=some o')/\E cls none H'
theorem yN.there {P:Program}{w:World}{H:Hp}{h:Heap}{a:Addr}{o:HO}(x:yN P w H h a o):∃ob,h.get? a=some ob:=by
 induction o with
 |lst xs=>obtain⟨_,_,_,_,e⟩:=x;exact⟨_,e⟩
 |tup xs=>obtain⟨_,_,_,ob,e,_⟩:=x;exact⟨ob,e⟩
 |dK kvs=>obtain⟨_,_,_,_,ob,_,_,e,_⟩:=x;exact⟨ob,e⟩
 |dT kvs=>obtain⟨_,_,_,_,ob,_,_,e,_⟩:=x;exact⟨ob,e⟩
 |set S n=>obtain⟨ob,_,_,_,e,_⟩:=x;exact⟨ob,e⟩
 |ins C dx fs=>obtain⟨_,_,_,e,_⟩:=x;exact⟨_,e⟩
 |own y=>exact x
 |xd fs=>obtain⟨_,⟨ob,_,_,e,_⟩,_⟩:=x;exact⟨ob,e⟩
 |rng lo hi=>obtain⟨_,_,_,e⟩:=x;exact⟨_,e⟩
 |frz ob u ih=>exact⟨ob,x.1⟩
 |tbl ps=>exact⟨_,x⟩
 |met f y=>exact⟨_,x⟩
 |ext φ=>exact x.2.1
theorem HOk.inB {P:Program}{w:World}{H:Hp}{h h' B:Heap}(ok:HOk P w H h)(hB:B.StaysIn h)(hB':B.StaysIn h')(tr:∀b u,H b=some u->∃o,B.get? b=some o):HOk P w H h':=λa o e =>
 (ok a o e).stay (λb u hb q=>by
  have hb':∃o,B.get? b=some o:=by
   rcases hb with z|z
   ·rw[z]
    exact tr a o e
   ·exact tr b _ z
  obtain⟨o',q'⟩:=hb'
  have:=hB b o' q'
  rw[q]at this
  cases this
  exact hB' b u q') (λ_ q=>q) λ_ _ q=>q
section
variable {P:Program}{w:World}{K:PySem.W.Frag}{mg:Str->Option Value}{base:Heap}{N:List Str}{qual:Str}{scope:Scope}{f:Addr}{cd:Value}{A:Around}{outer:List Env}{s₀:Shared}{H₀:Hp}{E:XK}
 {pins:List (Addr×Obj)} {σ:St} {H:Hp} {s:Shared}
theorem zhN {h':Heap}{e:Addr}{cls:Value}{vs:List Value}(I:Inv (yaP (CX1 P w) P w K mg base N qual scope f cd A outer s₀ H₀ E) pins σ H s)(hx:Heap.MadeExcOf s.heap h' e cls vs)(hE:E cls none H) :
  (yaP (CX1 P w) P w K mg base N qual scope f cd A outer s₀ H₀ E).xe (.ref e) { s with heap:=h' }:=by
 have stk:s.heap.FunFrames base (envOfC qual scope s₀.heap.objs.size f cd::outer):=I.stack
 have hst:∀b,b∈frs (envOfC qual scope s₀.heap.objs.size f cd::outer)->b=s₀.heap.objs.size \/ b∈frs outer:=λb hb=>by
  have hb':b∈s₀.heap.objs.size::frs outer:=hb
  exact List.mem_cons.mp hb'
 have inB:∀b o,s.heap.get? b=some o->b∉frs (envOfC qual scope s₀.heap.objs.size f cd::outer)->(PySem.W.hideAll s.heap (frs (envOfC qual scope s₀.heap.objs.size f cd::outer))).get? b=some o:=λb o q n=>PySem.W.hideAll_get _ q n
 have hB:(PySem.W.hideAll s.heap (frs (envOfC qual scope s₀.heap.objs.size f cd::outer))).StaysIn s.heap:=λb o q=>PySem.W.of_hideAll _ q
 have bse:Un (frs outer) [] H₀ H s₀.heap s.heap:=I.base
 have lt:∀b o,s₀.heap.get? b=some o->b≠s₀.heap.objs.size:=λb o q=>Nat.ne_of_lt (Heap.lt_size q)
 have tr:∀b u,H b=some u->∃o,(PySem.W.hideAll s.heap (frs (envOfC qual scope s₀.heap.objs.size f cd::outer))).get? b=some o:=λb u q=>by
  obtain⟨o,ho⟩:=yN.there (I.hok b u q)
  exact⟨o,inB b o ho λhb=>by
   have:=I.stkFree b hb
   rw[q]at this
   cases this⟩
 refine wpAny_leaves_madeW (base:=PySem.W.hideAll s.heap (frs (envOfC qual scope s₀.heap.objs.size f cd::outer))) (h:=s.heap) I.ok.frames rfl hB (PySem.W.funFrames_hide stk λenv he a ha=>List.mem_filterMap.mpr ⟨env,he,ha⟩) hx λh'' t fl tu tn up=>?_
 have up':s.heap.UpToSlots h'':=(Heap.UpToSlots.of_keeps hx.keeps).trans up
 refine⟨e,cls,_,H,_,rfl,I.os,I.bare,fl,HOk.inB I.hok hB fl.1 tr,⟨λb o q n hb _=>?_,λb o q n hb _=>?_,bse.free,λb o q _=>?_,bse.tups,bse.frzs,bse.tbls⟩,λb o q n hb=>?_,tr,λb o q hb=>?_,hE⟩
 ·refine fl.1 b o (inB b o (bse.keep b o q n hb (by simp)) λz=>?_)
  rcases hst b z with z|z
  ·exact lt b o q z
  ·exact hb z
 ·obtain⟨sl,q1⟩:=bse.slot b o q n hb (by simp)
  obtain⟨_,o',ho',hd⟩:=Heap.FunFrames.mem stk (show b∈List.filterMap (λ(z:Env)=>z.frame) _ from List.mem_cons_of_mem _ hb)
  obtain⟨sl',q2⟩:=up' b _ q1 (by rw[ho']at q1;cases q1;exact hd)
  exact⟨sl',q2⟩
 ·obtain⟨o',q1⟩:=bse.there b o q (by simp)
  by_cases hb:b∈frs (envOfC qual scope s₀.heap.objs.size f cd::outer)
  ·obtain⟨_,o2,ho',hd⟩:=Heap.FunFrames.mem stk hb
   obtain⟨sl',q2⟩:=up' b _ ho' hd
   exact⟨_,q2⟩
  ·exact⟨o',fl.1 b o' (inB b o' q1 hb)⟩
 ·refine inB b o (bse.keep b o q n hb (by simp)) λz=>?_
  rcases hst b z with z|z
  ·exact lt b o q z
  ·exact hb z
 ·obtain⟨o',q1⟩:=bse.there b o q (by simp)
  refine⟨o',inB b o' q1 λz=>?_⟩
  rcases hst b z with z|z
  ·exact lt b o q z
  ·exact hb z
theorem ydI:ybp (CX1 P w) (yaP (CX1 P w) P w K mg base N qual scope f cd A outer s₀ H₀ E) E:=by
 intro pins σ H s e s' I h
 obtain⟨a,cls,a0,H',B,rfl,os,bare,fl,hok,un,hB,tr,hT,hE⟩:=h
 have bse:Un (frs outer) [] H₀ H s₀.heap s.heap:=I.base
 have lt:∀b o,s₀.heap.get? b=some o->b≠s₀.heap.objs.size:=λb o q=>Nat.ne_of_lt (Heap.lt_size q)
 have hst:∀b,b∈frs (envOfC qual scope s₀.heap.objs.size f cd::outer)->b=s₀.heap.objs.size \/ b∈frs outer:=λb hb=>by
  have hb':b∈s₀.heap.objs.size::frs outer:=hb
  exact List.mem_cons.mp hb'
 have un':Un (frs (envOfC qual scope s₀.heap.objs.size f cd::outer)) [] H H' s.heap s'.heap:=un
 have kB:∀b o,s₀.heap.get? b=some o->H₀ b=none->b∉frs outer->B.get? b=some o:=λb o q n hb=>hB b o (bse.keep b o q n hb (by simp)) (bse.free b o q n (by simp)) λz=>by
  rcases hst b z with z|z
  ·exact lt b o q z
  ·exact hb z
 have kT:∀b o,s₀.heap.get? b=some o->b∉frs outer->∃o',B.get? b=some o':=λb o q hb=>by
  obtain⟨o',q1⟩:=bse.there b o q (by simp)
  refine hT b o' q1 λz=>?_
  rcases hst b z with z|z
  ·exact lt b o q z
  ·exact hb z
 refine wpAny_leaves_onW I.ok.frames rfl fl λh'' fl' up=>?_
 refine⟨a,cls,a0,H',B,rfl,os.trans I.os,bare,fl',HOk.inB hok fl.1 fl'.1 tr,⟨λb o q n hb _=>fl'.1 b o (kB b o q n hb),λb o q n hb _=>?_,λb o q n _=>?_,λb o q _=>?_,λb xs q=>un'.tups b xs (bse.tups b xs q),λb o u q=>un'.frzs b o u (bse.frzs b o u q),λb ps q=>?_⟩,kB,tr,kT,hE⟩
 ·obtain⟨sl,q1⟩:=bse.slot b o q n hb (by simp)
  have n1:=bse.free b o q n (by simp)
  obtain⟨sl1,q2⟩:=un'.slot b _ q1 n1 (List.mem_cons_of_mem _ hb) (by simp)
  obtain⟨_,o',ho',hd⟩:=Heap.FunFrames.mem fl.2.2.1 (show b∈List.filterMap (λ(z:Env)=>z.frame) _ from List.mem_cons_of_mem _ hb)
  obtain⟨sl',q3⟩:=up b _ q2 (by rw[ho']at q2;cases q2;exact hd)
  exact⟨sl',q3⟩
 ·obtain⟨o',q1⟩:=bse.there b o q (by simp)
  exact un'.free b o' q1 (bse.free b o q n (by simp)) (by simp)
 ·obtain⟨o',q1⟩:=bse.there b o q (by simp)
  obtain⟨o2,q2⟩:=un'.there b o' q1 (by simp)
  by_cases hb:b∈frs outer
  ·obtain⟨_,o3,ho3,hd⟩:=Heap.FunFrames.mem fl.2.2.1 (show b∈List.filterMap (λ(z:Env)=>z.frame) _ from List.mem_cons_of_mem _ hb)
   obtain⟨sl',q3⟩:=up b _ ho3 hd
   exact⟨_,q3⟩
  ·obtain⟨o4,q4⟩:=kT b o q hb
   exact⟨o4,fl'.1 b o4 q4⟩
 ·obtain⟨m1,e1⟩:=bse.tbls b ps q
  obtain⟨m2,e2⟩:=un'.tbls b _ e1
  exact⟨m1++m2,by rw[e2,Array.append_assoc]⟩
end
section
variable {X:Cx}{e:Expr}{es:List Expr}{te:TE}
end
section
variable {X:Cx}{e:Expr}{es:List Expr}{t:TA}{E:XK}
end
section
variable {pg:Program}{wd:World}{A:Around}{E:Value->Shared->Prop}{h:Heap}{g:Array GenState}{d:Drawn}{t:Nat}{os:OsState}{a C:Addr}{o:Obj}{K:PySem.W.Frag}
end
def yfP (a C:Addr):Heap->Prop:=λh=>∃o,h.get? a=some o/\o.cls=.ref C
section
variable {X:Cx}
end
section
variable {X:Cx}{pins:List (Addr×Obj)}{σ:St}{H:Hp}{s:Shared}
end
section
variable {X:Cx}{pins:List (Addr×Obj)}{σ:St}{H:Hp}{s:Shared}
end
section
variable {X:Cx}{body suite:List Stmt}{b₀:Stmt}{x n:Str}{np hpos pos:Pos}{tb:XK->TS}{ts:TS}{W:Addr}{i:Nat}
end
structure yc3 (k:Nat)(A:Around):Prop where
 dp:A.depth+3*k+5<recursionLimit
 un:A.units+16*k+200<cLine
section
variable {P:Program}{w:World}{K:PySem.W.Frag}{mg:Str->Option Value}{base:Heap}
end
section
variable {X:Cx}{k:Nat}{f:Addr}{fd:FuncData}{ps:List Str}{sp:Sp}{x:Str}{p pos:Pos}{e:Expr}{es:List Expr}{t:TA}
end
section
variable {P:Program}{w:World}{K:PySem.W.Frag}{mg:Str->Option Value}{base:Heap}
theorem own1 {N:List Str}{qual:Str}{scope:Scope}{f:Addr}{cd:Value}{A:Around}{outer:List Env}{s:Shared}{H:Hp}{E:XK}{CX:CXT} :
  PassesOwn (model (yaP CX P w K mg base N qual scope f cd A outer s H E).prog (yaP CX P w K mg base N qual scope f cd A outer s H E).w) (yaP CX P w K mg base N qual scope f cd A outer s H E).A (yaP CX P w K mg base N qual scope f cd A outer s H E).env (yaP CX P w K mg base N qual scope f cd A outer s H E).xe :=
 PassesOwn.leaving
end
section
variable {X:Cx}
end
section
variable {X:Cx}
def yf5 (K:PySem.W.Frag):List V->Hp->VK->Prop:=λxs H Q=>∃(l:Addr) (ns:List Int),xs=[.ref l]/\SqL K H l (ns.map V.int)/\0<ns.length/\∀M,M∈ns->(∀a,a∈ns->a<=M)->Q (.int M) H
theorem zhl (hc:X.calm=true):yaa X (.builtin "max") (yf5 X.K):=by
 intro pins s σ H xs us Q I r h
 obtain⟨l,ns,rfl,hq,hne,q⟩:=h
 obtain⟨u,rfl,ru⟩:=Vals.one r
 cases (show u=Value.ref l from ru)
 obtain⟨its,rv,pl,hz⟩:=I.list hq
 have hi:IntsAre its ns:=zgA rv
 obtain⟨ys,e⟩:=hi.allInts.items
 have hns:ns=ys.toList.map (·.1):=by rw[<- hi.numsOf,<- nums_intItems,<- e]
 have hsz:0<ys.size:=by
  rw[hns,List.length_map,Array.length_toList]at hne
  exact hne
 have hl:=pl.isList
 rw[e]at hl
 refine max_intList (I.ok.hd hc) hl hsz λv h' tk hv hk=>?_
 obtain⟨t,rfl⟩:=intItems_at hv
 obtain⟨h1,h2⟩:=argBest_gt (numAt ys) (ys.size - 1)
 refine⟨.int _,H,I.kept (t':=tk) hk,⟨t,rfl⟩,q _ ?_ λa ha=>?_⟩
 ·rw[hns,numAt_eq]
  exact getD_mem (by rw[List.length_map,Array.length_toList];omega)
 ·rw[hns]at ha
  obtain⟨j,hj,rfl⟩:=mem_getD ha
  rw[List.length_map,Array.length_toList]at hj
  rw[<- numAt_eq]
  exact h2 j (by omega)
end
section
variable {κ:Type}[DecidableEq κ]
def ybt (kvs:List (κ×V))(k:κ):Option V:=(kvs.find? λkv=>decide (kv.1=k)).map (·.2)
def putK (kvs:List (κ×V))(k:κ)(v:V):List (κ×V) :=
 if (kvs.any λkv=>decide (kv.1=k))=true then kvs.map (λkv=>if kv.1=k then(kv.1,v)else kv)else kvs++[(k,v)]
theorem zaV {p:κ×V}{r:List (κ×V)}{k:κ}(e:p.1=k):ybt (p::r) k=some p.2:=by simp[ybt,List.find?_cons,e]
theorem zaE {p:κ×V}{r:List (κ×V)}{k:κ}(e:¬p.1=k):ybt (p::r) k=ybt r k:=by simp[ybt,List.find?_cons,e]
theorem zfW (k:κ):∀kvs:List (κ×V),(kvs.any λkv=>decide (kv.1=k))=(ybt kvs k).isSome
 | []=>rfl
 |p::r=>by
  rw[List.any_cons]
  by_cases e:p.1=k
  ·simp only[zaV e,decide_eq_true e,Bool.true_or,Option.isSome_some]
  ·rw[zaE e,decide_eq_false e,Bool.false_or];exact zfW k r
theorem zau (kvs:List (κ×V))(k:κ)(v:V):(putK kvs k v).length<=kvs.length+1:=by
 unfold putK
 split
 ·rw[List.length_map];omega
 ·rw[List.length_append,List.length_cons,List.length_nil];omega
theorem ya7.isSome_eq {o:Option V}{u:Option Value}(r:ya7 o u):o.isSome=u.isSome:=by
 cases o with
 |none=>cases u with
  |none=>rfl
  |some _=>exact(show False from r).elim
 |some _=>cases u with
  |none=>exact(show False from r).elim
  |some _=>rfl
theorem ya7.getD {o:Option V}{u:Option Value}{d:V}{d':Value}(r:ya7 o u)(rd:RelV d d'):RelV (o.getD d) (u.getD d'):=by
 cases o with
 |none=>cases u with
  |none=>exact rd
  |some _=>exact(show False from r).elim
 |some _=>cases u with
  |none=>exact(show False from r).elim
  |some _=>exact r
theorem KV.val {kvs:List (κ×V)}{vs:List (κ×Value)}(r:KV kvs vs)(k:κ):ya7 (ybt kvs k) (valueAt vs k):=by
 unfold KV at r
 induction r with
 |nil=>exact True.intro
 | @cons p q ps qs h t ih =>
  obtain⟨h1,h2⟩:=h
  by_cases e:p.1=k
  ·have e':q.1=k:=h1.symm.trans e
   have b:valueAt (q::qs) k=some q.2:=by simp[valueAt,List.find?_cons,e']
   rw[zaV e,b];exact h2
  ·have e':¬q.1=k:=λz=>e (h1.trans z)
   have b:valueAt (q::qs) k=valueAt qs k:=by simp[valueAt,List.find?_cons,e']
   rw[zaE e,b];exact ih
theorem KV.any {kvs:List (κ×V)}{vs:List (κ×Value)}(r:KV kvs vs)(k:κ):(kvs.any λkv=>decide (kv.1=k))=vs.any λkv=>decide (kv.1=k):=by
 unfold KV at r
 induction r with
 |nil=>rfl
 |cons h t ih=>rw[List.any_cons,List.any_cons,ih,h.1]
theorem KV.repl {kvs:List (κ×V)}{vs:List (κ×Value)}(r:KV kvs vs)(k:κ){y:V}{u:Value}(ry:RelV y u) :
  KV (kvs.map λkv=>if kv.1=k then(kv.1,y)else kv) (vs.map λkv=>if kv.1=k then(kv.1,u)else kv):=by
 unfold KV at r ⊢
 induction r with
 |nil=>exact .nil
 | @cons p q ps qs h t ih =>
  rw[List.map_cons,List.map_cons]
  refine .cons ?_ ih
  obtain⟨h1,h2⟩:=h
  by_cases e:p.1=k
  ·rw[if_pos e,if_pos (h1.symm.trans e)];exact⟨h1,ry⟩
  ·rw[if_neg e,if_neg (λz=>e (h1.trans z))];exact⟨h1,h2⟩
theorem KV.put {kvs:List (κ×V)}{vs:List (κ×Value)}(r:KV kvs vs)(k:κ){y:V}{u:Value}(ry:RelV y u):KV (putK kvs k y) (stored vs k u):=by
 unfold putK stored
 rw[r.any k]
 by_cases e:(vs.any λkv=>decide (kv.1=k))=true
 ·rw[if_pos e,if_pos e];exact r.repl k ry
 ·rw[if_neg e,if_neg e];exact Paired.snoc r ⟨rfl,ry⟩
theorem KV.length {kvs:List (κ×V)}{vs:List (κ×Value)}(r:KV kvs vs):kvs.length=vs.length:=Paired.length r
end
theorem zjs {P:Program}{w:World}{k:Key}{u:Value}(r:RelV (kV k) u):(yF P w).is k u=true:=by
 cases k with
 |inl i=>obtain⟨t,e⟩:=(show ∃t,u=Value.int i t from r);subst e;exact zeY P w i t
 |inr x=>obtain⟨t,e⟩:=(show ∃t,u=Value.str x t from r);subst e;exact ze3 P w x t
theorem zdy {P:Program}{w:World}:∀{ks:List Key} {us:List Value},Vals (ks.map kV) us->ItemsAre (yF P w) ks us
 | [],_,r=>by rw[List.map_nil]at r;cases r;exact .nil
 |k::ks,_,r=>by
  rw[List.map_cons]at r
  cases r with
  |cons h t=>exact .cons (zjs h) (zdy t)
abbrev KT (H:Hp):List (List Key×V)->List (List Key×Addr×Value)->Prop:=Paired λp q=>p.1=q.1/\H q.2.1=some (.tup (p.1.map kV))/\RelV p.2 q.2.2
theorem KT.val {H:Hp}{kvs:List (List Key×V)}{xs:List (List Key×Addr×Value)}(r:KT H kvs xs)(k:List Key):ya7 (ybt kvs k) ((atKey xs k).map (·.2)):=by
 induction r with
 |nil=>exact True.intro
 | @cons p q ps qs h t ih =>
  obtain⟨h1,_,h2⟩:=h
  by_cases e:p.1=k
  ·have e':q.1=k:=h1.symm.trans e
   have b:atKey (q::qs) k=some q.2:=by simp[atKey,List.find?_cons,e']
   rw[zaV e,b];exact h2
  ·have e':¬q.1=k:=λz=>e (h1.trans z)
   have b:atKey (q::qs) k=atKey qs k:=by simp[atKey,List.find?_cons,e']
   rw[zaE e,b];exact ih
theorem KT.repl {H:Hp}{kvs:List (List Key×V)}{xs:List (List Key×Addr×Value)}(r:KT H kvs xs)(k:List Key){y:V}{u:Value}(ry:RelV y u) :
  KT H (kvs.map λkv=>if kv.1=k then(kv.1,y)else kv) (xs.map (putAt k u)):=by
 induction r with
 |nil=>exact .nil
 | @cons p q ps qs h t ih =>
  rw[List.map_cons,List.map_cons]
  refine .cons ?_ ih
  obtain⟨h1,h2,h3⟩:=h
  unfold putAt
  by_cases e:p.1=k
  ·rw[if_pos e,if_pos (h1.symm.trans e)];exact⟨h1,h2,ry⟩
  ·rw[if_neg e,if_neg (λz=>e (h1.trans z))];exact⟨h1,h2,h3⟩
theorem KT.put {H:Hp}{kvs:List (List Key×V)}{xs:List (List Key×Addr×Value)}(r:KT H kvs xs)(k:List Key){b:Addr}{y:V}{u:Value}(hb:H b=some (.tup (k.map kV)))(ry:RelV y u) :
  KT H (putK kvs k y) (storedH xs k b u):=by
 have e:(kvs.any λkv=>decide (kv.1=k))=(atKey xs k).isSome:=by
  rw[zfW,(r.val k).isSome_eq,Option.isSome_map]
 unfold putK storedH
 rw[e]
 by_cases q:(atKey xs k).isSome=true
 ·rw[if_pos q,if_pos q];exact r.repl k ry
 ·rw[if_neg q,if_neg q];exact Paired.snoc r ⟨rfl,hb,ry⟩
theorem KT.keeps {H H':Hp}{kvs:List (List Key×V)}{xs:List (List Key×Addr×Value)}(r:KT H kvs xs)(ht:∀b ys,H b=some (.tup ys)->H' b=some (.tup ys)):KT H' kvs xs :=
 Paired.mapP r λ_ _ z=>⟨z.1,ht _ _ z.2.1,z.2.2⟩
section
variable {P:Program}{w:World}{H:Hp}{h:Heap}{a:Addr}
theorem zmv {u:HO}(ok:HOk P w H h)(e:Rd H a u):yN P w H h a u:=e.ok ok
theorem zly {kvs:List (Key×V)}(ok:HOk P w H h)(e:Rd H a (.dK kvs)):kvs.length<=sizeLine/\(a == sysModules)=false/\∃vs,KV kvs vs/\h.DictOf (yF P w) a vs :=
 show yN P w H h a (.dK kvs)from zmv ok e
theorem zn7 {kvs:List (Key×V)}(ok:HOk P w H h)(e:H a=some (.dK kvs)):kvs.length<=sizeLine/\(a == sysModules)=false/\∃vs,KV kvs vs/\h.DictOf (yF P w) a vs:=zly ok (.inl e)
theorem zik {ks:List Key}(ok:HOk P w H h)(e:H a=some (.tup (ks.map kV))):(tupleKind (yF P w)).is h ks a:=by
 obtain⟨_,its,r,o,h1,h2,n,h3⟩:=(show yN P w H h a (.tup (ks.map kV))from ok a _ e)
 exact⟨o,its.toArray,n,h1,h2,h3,by simpa using zdy r⟩
theorem zkM {kvs:List (List Key×V)}(ok:HOk P w H h)(e:Rd H a (.dT kvs)):kvs.length<=sizeLine/\(a == sysModules)=false /\
  ∃xs,KT H kvs xs/\h.DictOfH (tupleKind (yF P w)) a xs:=by
 obtain⟨z,y,xs,r,o,es,ep,h1,h2,h3,h4,h5⟩:=(show yN P w H h a (.dT kvs)from zmv ok e)
 refine⟨z,y,xs,r,o,es,ep,h1,h2,h3,h4,λx hx=>?_,h5⟩
 have all:∀{l:List (List Key×V)} {m:List (List Key×Addr×Value)},KT H l m->∀x∈m,(tupleKind (yF P w)).is h x.1 x.2.1:=by
  intro l m q
  induction q with
  |nil=>intro x hx;exact nomatch hx
  | @cons p q ps qs hq t ih =>
   intro x hx
   rcases List.mem_cons.mp hx with e|hx
   ·subst e
    exact zik ok (by rw[<- hq.1];exact hq.2.1)
   ·exact ih x hx
 exact all r x hx
theorem zox {kvs:List (List Key×V)}(ok:HOk P w H h)(e:H a=some (.dT kvs)):kvs.length<=sizeLine/\(a == sysModules)=false /\
  ∃xs,KT H kvs xs/\h.DictOfH (tupleKind (yF P w)) a xs:=zkM ok (.inl e)
end
def yeD (H:Hp)(a:Addr)(y:V)(r:Option V):Prop :=
 (∃kvs k,Rd H a (.dK kvs)/\y=kV k/\r=ybt kvs k) \/ ∃kvs k b,Rd H a (.dT kvs)/\y=.ref b/\H b=some (.tup (k.map kV))/\r=ybt kvs k
def yeJ (H:Hp)(a:Addr)(y v:V)(H':Hp):Prop :=
 (∃kvs k,H a=some (.dK kvs)/\y=kV k/\kvs.length<sizeLine/\H'=upd H a (.dK (putK kvs k v))) \/
 ∃kvs k b,H a=some (.dT kvs)/\y=.ref b/\H b=some (.tup (k.map kV))/\kvs.length<sizeLine/\H'=upd H a (.dT (putK kvs k v))
section
variable {X:Cx}{pins:List (Addr×Obj)}{σ:St}{H:Hp}{s:Shared}{a:Addr}{y v:V}{u r:Value}{o:Option V}{A:Around}{E:Value->Shared->Prop}
theorem Inv.big (I:Inv X pins σ H s):sysModules<s.heap.objs.size:=by
 have h:mainGlobals<s.heap.objs.size:=(I.mod.glob.keeps I.bk).lt
 exact Nat.lt_trans (by decide) h
theorem zfd {h':Heap}{t':Nat}{ob:HO}(I:Inv X pins σ H s)(mu:Mut (H a))(hs:Heap.SameBut a s.heap h')(he:∃q,h'.get? a=some q)(new:yN X.prog X.w (upd H a ob) h' a ob) :
  Inv X pins σ (upd H a ob) { s with heap:=h',toks:=t' } :=
 I.write (x:=a) (e:=a) mu (.inl rfl) (λb q hb z=>(hs.2 b hb).trans z) he new
theorem zkh {P:Program}{w:World}{H':Hp}{h':Heap}{kvs:List (Key×V)}{vs:List (Key×Value)}(z:kvs.length<=sizeLine)(hd:(a == sysModules)=false)(rel:KV kvs vs)(dd:h'.DictOf (yF P w) a vs) :
  yN P w H' h' a (.dK kvs):=⟨z,hd,vs,rel,dd⟩
theorem zhi {H':Hp}{Q:Unit->Shared->Prop}(hu:A.units+1<cLine)(I:Inv X pins σ H s)(g:yeJ H a y v H')(ry:RelV y u)(rv:RelV v r)(h:∀s',Inv X pins σ H' s'->Q () s') :
  wpAny (model X.prog X.w) A (setItem (.ref a) u r) Q E s:=by
 rcases g with⟨kvs,k,e,ey,l,eH⟩|⟨kvs,k,b,e,ey,eb,l,eH⟩
 ·subst ey eH
  obtain⟨z,hd,vs,rel,dd⟩:=zn7 I.hok e
  have hz:vs.length<=sizeLine:=by rw[<- rel.length];exact z
  have hl:(putK kvs k v).length<=sizeLine:=by have:=zau kvs k v;omega
  refine wpAny_setItem_pairs (hsz:=hz) (zjs ry) dd λh' dd' hs=>h _ ?_
  have he:∃q,h'.get? a=some q:=let ⟨q,_,_,hq,_⟩:=dd';⟨q,hq⟩
  exact zfd I (by rw[e];exact True.intro) hs he (zkh hl hd (rel.put k rv) dd')
 ·subst ey eH
  cases (show u=Value.ref b from ry)
  obtain⟨z,hd,xs,rel,dd⟩:=zox I.hok e
  have hz:xs.length<=sizeLine:=by rw[<- Paired.length rel];exact z
  have hl:(putK kvs k v).length<=sizeLine:=by have:=zau kvs k v;omega
  refine wpAny_setItem_heap (hsz:=hz) (tupleKind_room_in1 hu) (zik I.hok eb) dd λh' dd' hs=>h _ ?_
  obtain⟨q,es,ep,hq,h2,h3,h4,_,h5⟩:=dd'
  refine zfd I (by rw[e];exact True.intro) hs ⟨q,hq⟩ ⟨hl,hd,_,(rel.put k eb rv).keeps λc ys ec=>?_,q,es,ep,hq,h2,h3,h4,h5⟩
  rw[zd (zoN ec e (λz=>nomatch z))]
  exact ec
end
section
variable {X:Cx}{pins:List (Addr×Obj)}{σ:St}{H:Hp}{s:Shared}{a:Addr}{kvs:List (Key×V)}{k:Key}{u:Value}{A:Around}{E:Value->Shared->Prop}
end
def ydq (i:Expr):Prop:=∀ov iv,subscripted i false ov iv=operate [ov,iv] (getItem ov iv)
theorem zkL {prog:Program}{w:World}{A:Around}{E:Value->Shared->Prop}{s:Shared}{env:Env}{value slice:Expr}{pos:Pos}{T id:String}{Q:Value->Shared->Prop}
  (hl:typeLookup (.type T) "__getitem__"=pure (some (.builtin id))) (hs:ydq slice)
  (h:wpAny (model prog w) A (eval value env) (λo s₁=>wpAny (model prog w) A (eval slice env) (λi s₂=>s₂.TypeIs o T/\wpAny (model prog w) A (getItem o i) Q E s₂) E s₁) E s) :
  wpAny (model prog w) A (eval (.Subscript value slice pos) env) Q E s:=by
 refine Subscript_ (wpAny_mono h (λo s₁ h₁=>wpAny_mono h₁ (λi s₂ h₂=>?_) λ_ _ x=>x) λ_ _ x=>x)
 obtain⟨hT,h₂⟩:=h₂
 unfold subscriptTail
 refine wpAny_bind ?_
 rw[getitemInPython_of_ne hT.not_modules]
 refine wpAny_bind (wpAny_specialOf hT hl ?_)
 have fin:wpAny (model prog w) A (subscripted slice false o i) (λr s₃=>wpAny (model prog w) A (letTemporaryGo value o r >>= λ_=>pure r) Q E s₃) E s₂:=by
  rw[hs o i]
  exact wpAny_operating (wpAny_mono h₂ (λr s₃ h₃=>wpAny_bind (wpAny_letTemporaryGo (wpAny_pure h₃))) λ_ _ x=>x)
 first
  | exact wpAny_pure (wpAny_bind fin)
  | exact wpAny_bind (wpAny_pure (wpAny_bind fin))
  | exact wpAny_bind fin
def yee (td ty tv:TE):TS:=λD σ H=>tv σ H λv H1=>td σ H1 λx H2=>ty σ H2 λy H3=>∃a H4,x=.ref a/\yeJ H3 a y v H4/\D.nx σ H4
section
variable {X:Cx}{o i e value:Expr}{pos pos' tpos:Pos}{td ty tv:TE}
theorem zk1 (hu:X.A.units+1<cLine)(ho:PE X o td)(hi:PE X i ty)(hv:PE X value tv)(hs:swapsWith value (some (.Subscript o i pos')) pos.line X.env=pure false) :
  PS X (.Assign [.Subscript o i pos'] value pos) (yee td ty tv):=by
 intro pins s σ H D I h
 refine wpAny_Assign_Subscript (thn (hv pins s σ H _ I h) λr s1 ⟨v,H1,I1,rv,q1⟩=>thn (ho pins s1 σ H1 _ I1 q1) λu s2 ⟨x,H2,I2,rx,q2⟩=>thn (hi pins s2 σ H2 _ I2 q2) λiv s3 ⟨y,H3,I3,ry,a,H4,ex,g,q3⟩=>?_) hs
 subst ex
 obtain rfl:u=Value.ref a:=rx
 exact zhi hu I3 g ry rv λs4 I4=>⟨σ,H4,I4,q3⟩
end
theorem zjt {P:Program}{w:World}{H:Hp}(h:Heap)(hb:sysModules<h.objs.size):yN P w H (h.push { cls:=.type "dict",data:=.dict #[] }) h.objs.size (.dK []) :=
 ⟨Nat.zero_le _,beq_eq_false_iff_ne.mpr (Ne.symm (Nat.ne_of_lt hb)),[],.nil,Heap.DictOf.new h⟩
theorem ziU {P:Program}{w:World}{H:Hp}(h:Heap)(hb:sysModules<h.objs.size):yN P w H (h.push { cls:=.type "dict",data:=.dict #[] }) h.objs.size (.dT []) :=
 ⟨Nat.zero_le _,beq_eq_false_iff_ne.mpr (Ne.symm (Nat.ne_of_lt hb)),[],.nil,_,#[],0,Heap.get?_push_size _ rfl,⟨rfl,rfl,rfl⟩,rfl,rfl,List.nodup_nil⟩
def ycV:TE:=λ_ H Q=>∀p,H p=none->Q (.ref p) (upd H p (.dT []))
section
variable {X:Cx}{pos:Pos}
theorem ybZ:PE X (.Dict [] [] pos) ycV:=λpins s σ H Q I h =>
 wpAny_Dict_empty ⟨.ref s.heap.objs.size,_,I.laid (a:=s.heap.objs.size) (o:=.dT []) (t':=s.toks) (λ_ _ q=>Heap.get?_push_of_some _ q) (Nat.le_refl _) (ziU s.heap I.big),rfl,h _ (I.hok.fresh (Nat.le_refl _))⟩
end
def ybs:List (TE×TE)->St->Hp->(List (V×V)->Hp->Prop)->Prop
 | [],_,H,Q=>Q [] H
 | (tk,tv)::r,σ,H,Q=>tk σ H λx H1=>tv σ H1 λy H2=>ybs r σ H2 λps H3=>Q ((x,y)::ps) H3
abbrev VV:List (V×V)->List (Value×Value)->Prop:=Paired λp q=>RelV p.1 q.1/\RelV p.2 q.2
def PPs (X:Cx)(pos:Pos)(keys:List (Option Expr))(values:List Expr)(trs:List (TE×TE)):Prop :=
 ∀(pins:List (Addr×Obj)) (s:Shared) (σ:St) (H:Hp) (Q:List (V×V)->Hp->Prop),Inv X pins σ H s->ybs trs σ H Q ->
  wpAny (model X.prog X.w) X.A (evalPairs (pairTrees keys values X.env pos)) (λvs s'=>∃ps H',Inv X pins σ H' s'/\VV ps vs/\Q ps H') X.xe s
theorem zko {X:Cx}{pos:Pos}:PPs X pos [] [] []:=λpins s σ H Q I h=>pairTrees_nil_walk ⟨[],H,I,.nil,h⟩
theorem zi6 {X:Cx}{pos:Pos}{k v:Expr}{ks:List (Option Expr)}{vs:List Expr}{tk tv:TE}{trs:List (TE×TE)}(hk:PE X k tk)(hv:PE X v tv)(hr:PPs X pos ks vs trs) :
  PPs X pos (some k::ks) (v::vs) ((tk,tv)::trs):=λpins s σ H Q I h =>
 pairTrees_cons_walk (thn (hk pins s σ H _ I h) λu s1 ⟨x,H1,I1,rx,q1⟩=>thn (hv pins s1 σ H1 _ I1 q1) λw2 s2 ⟨y,H2,I2,ry,q2⟩ =>
  thn (hr pins s2 σ H2 _ I2 q2) λws s3 ⟨ps,H3,I3,rel,q3⟩=>⟨(x,y)::ps,H3,I3,.cons ⟨rx,ry⟩ rel,q3⟩)
def yaG (kvs more:List (Key×V)):List (Key×V):=more.foldl (λacc kv=>putK acc kv.1 kv.2) kvs
theorem KV.merge:∀{more:List (Key×V)} {rs:List (Key×Value)} {kvs:List (Key×V)} {vs:List (Key×Value)},KV more rs->KV kvs vs->KV (yaG kvs more) (merged vs rs):=by
 intro more rs kvs vs r
 unfold KV at r
 induction r generalizing kvs vs with
 |nil=>intro q;exact q
 | @cons p q ps qs h t ih =>
  intro r0
  have e:KV (putK kvs p.1 p.2) (stored vs q.1 q.2):=by
   have:=r0.put p.1 h.2
   rw[<- h.1];exact this
  exact ih e
theorem zaO:∀(more kvs:List (Key×V)),(yaG kvs more).length<=kvs.length+more.length
 | [],kvs=>by show kvs.length<=kvs.length+0;omega
 |p::r,kvs=>by
  have h1:=zaO r (putK kvs p.1 p.2)
  have h2:=zau kvs p.1 p.2
  show (yaG (putK kvs p.1 p.2) r).length<=_
  rw[List.length_cons];omega
theorem zck {P:Program}{w:World}:∀{kvs:List (Key×V)} {ws:List (Value×Value)},VV (kvs.map λkv=>(kV kv.1,kv.2)) ws->∃rs,Carries (yF P w) ws rs/\KV kvs rs
 | [],_,r=>by rw[List.map_nil]at r;cases r;exact⟨[],True.intro,.nil⟩
 |p::kvs,_,r=>by
  rw[List.map_cons]at r
  cases r with
  | @cons a b as bs h t =>
   obtain⟨rs,c,q⟩:=zck (P:=P) (w:=w) t
   obtain⟨b1,b2⟩:=b
   exact⟨(p.1,b2)::rs,⟨zjs h.1,rfl,c⟩,.cons ⟨rfl,h.2⟩ q⟩
def yd6 (trs:List (TE×TE)):TE:=λσ H Q=>∀p,H p=none->ybs trs σ (upd H p (.dK [])) λps H2=>H2 p=some (.dK [])/\∃kvs:List (Key×V),ps=kvs.map (λkv=>(kV kv.1,kv.2))/\kvs.length<=15/\Q (.ref p) (upd H2 p (.dK (yaG [] kvs)))
theorem zlP {X:Cx}{pos:Pos}{keys:List (Option Expr)}{values:List Expr}{trs:List (TE×TE)}(h:PPs X pos keys values trs)(hall:keys.all (·.isSome)=true)(hl:keys.length=values.length)(h0:keys≠[])
  (h15:keys.length<=15):PE X (.Dict keys values pos) (yd6 trs):=by
 intro pins s σ H Q I q
 have hn:=I.hok.fresh (Nat.le_refl s.heap.objs.size)
 have I1:=I.laid (a:=s.heap.objs.size) (o:=.dK []) (h':=s.heap.push { cls:=.type "dict",data:=.dict #[] }) (t':=s.toks) (λ_ _ q=>Heap.get?_push_of_some _ q) (Nat.le_refl _) (zjt s.heap I.big)
 refine wpAny_Dict_walk (knd:=yF X.prog X.w) hall hl h0 h15 (thn (h pins _ σ _ _ I1 (q _ hn)) λws s2 ⟨ps,H2,I2,rel,e,kvs,ep,lk,q2⟩=>?_)
 subst ep
 obtain⟨rs,c,rk⟩:=zck (P:=X.prog) (w:=X.w) rel
 obtain⟨z,hd,vs0,r0,dd⟩:=zn7 I2.hok e
 cases r0
 refine⟨rs,c,dd,λh' dd' hs=>⟨.ref s.heap.objs.size,_,?_,rfl,q2⟩⟩
 have hz:(yaG [] kvs).length<=sizeLine:=by
  have h1:=zaO kvs []
  rw[List.length_nil]at h1
  rw[sizeLine_eq];omega
 have he:∃q,h'.get? s.heap.objs.size=some q:=let ⟨q,_,_,hq,_⟩:=dd';⟨q,hq⟩
 exact zfd I2 (by rw[e];exact True.intro) hs he (zkh hz hd (rk.merge .nil) dd')
structure M2 (X:Cx)(o:Expr)(m:Str)(apos:Pos)(e f:Expr)(cpos:Pos):Prop where
 base:attributeBase o m X.env (eval o X.env)=eval o X.env
 few:((backTo cpos (starEach [e,f] X.env)).all (λx=>!x.1) && (backToKw cpos (keywordEach [] X.env)).all (λx=>x.1.isSome)
  && decide (([e,f]:List Expr).length+([]:List Keyword).length+(if ([]:List Keyword).isEmpty then 0 else 1)<30))=true
 line:(apos.endLine == cpos.line)=true
 trees:backTo cpos (starEach [e,f] X.env)=[(false,eval e X.env),(false,eval f X.env)]
def IsD (H:Hp)(a:Addr):Prop:=(∃kvs,Rd H a (.dK kvs)) \/ ∃kvs,Rd H a (.dT kvs)
theorem zl5 {X:Cx}{pins:List (Addr×Obj)}{σ:St}{H:Hp}{s:Shared}{a:Addr}(I:Inv X pins σ H s)(d:IsD H a) :
  s.TypeIs (.ref a) "dict"/\(∀b,Value.ref a=.ref b->∃ob,s.heap.get? b=some ob/\ob.dict=none)/\(a == sysModules)=false:=by
 rcases d with⟨kvs,e⟩|⟨kvs,e⟩
 ·obtain⟨_,hd,vs,_,dd⟩:=zly I.hok e
  refine⟨dd.typeIs,λb q=>?_,hd⟩
  cases q
  obtain⟨ob,_,_,h1,h2,_⟩:=dd
  exact⟨ob,h1,h2.2.1⟩
 ·obtain⟨_,hd,xs,_,dd⟩:=zkM I.hok e
  refine⟨dd.typeIs,λb q=>?_,hd⟩
  cases q
  obtain⟨ob,_,_,h1,h2,_⟩:=dd
  exact⟨ob,h1,h2.2.1⟩
section
variable {X:Cx}{pins:List (Addr×Obj)}{σ:St}{H:Hp}{s:Shared}{a:Addr}{y d:V}{u r:Value}{o:Option V}{A:Around}{E:Value->Shared->Prop}
theorem zmj {Q:Value->Shared->Prop}(hu:A.units+1<cLine)(I:Inv X pins σ H s)(g:yeD H a y o)(ry:RelV y u)(rd:RelV d r)(h:∀w' s',Inv X pins σ H s'->RelV (o.getD d) w'->Q w' s') :
  wpAny (model X.prog X.w) A (call (.builtin "dict.get") [.ref a,u,r]) Q E s:=by
 rcases g with⟨kvs,k,e,ey,l⟩|⟨kvs,k,b,e,ey,eb,l⟩
 ·subst ey
  obtain⟨z,hd,vs,rel,dd⟩:=zly I.hok e
  refine call_meetsIn PySem.F.slot_dict_get dd.typeIs PySem.F.entry_dict_get (PySem.F.args_dict_get_3 _ _ _) (meets_dict_get_default (yF X.prog X.w) a (zjs ry) hd r) ⟨_,dd.mapOf,h _ _ (I.tok _) ?_⟩
  rw[l]
  exact(rel.val k).getD rd
 ·subst ey
  cases (show u=Value.ref b from ry)
  obtain⟨z,hd,xs,rel,dd⟩:=zkM I.hok e
  refine call_meetsIn PySem.F.slot_dict_get dd.typeIs PySem.F.entry_dict_get (PySem.F.args_dict_get_3 _ _ _) (meetsH_dict_get_default (tupleKind (yF X.prog X.w)) a b hd r) ⟨tupleKind_room_in1 hu,k,xs,zik I.hok eb,dd,h _ _ (I.tok _) ?_⟩
  rw[l]
  exact(rel.val k).getD rd
end
def ycU (td ty tx:TE):TE:=λσ H Q=>td σ H λx H1=>∃a,x=.ref a/\IsD H1 a/\ty σ H1 λy H2=>tx σ H2 λz H3=>∃o,yeD H3 a y o/\Q (o.getD z) H3
section
variable {X:Cx}{o e f:Expr}{apos cpos:Pos}{td ty tx:TE}
theorem zjg (hu:X.A.units+1<cLine)(ho:PE X o td)(he:PE X e ty)(hf:PE X f tx)(m:M2 X o "get" apos e f cpos):PE X (.Call (.Attribute o "get" apos) [e,f] [] cpos) (ycU td ty tx):=by
 intro pins s σ H Q I h
 refine wpAny_Call_method m.base m.few m.line PySem.F.plainAttrs_dict PySem.F.slot_dict_get PySem.F.type_dict_get (thn (ho pins s σ H _ I h) λu s1 ⟨x,H1,I1,rx,a,ex,d,q1⟩=>?_)
 subst ex
 obtain rfl:u=Value.ref a:=rx
 obtain⟨t1,t2,_⟩:=zl5 I1 d
 refine⟨t1,t2,?_⟩
 rw[m.trees]
 refine Calls.callWith_builtin rfl (Calls.evalArgs_plain (Calls.spliced_cons (thn (he pins s1 σ H1 _ I1 q1) λiv s2 ⟨y,H2,I2,ry,q2⟩ =>
  Calls.spliced_cons (thn (hf pins s2 σ H2 _ I2 q2) λfv s3 ⟨z,H3,I3,rz,ov,g,q3⟩=>Calls.spliced_nil ?_))))
 exact zmj hu I3 g ry rz λw' s4 I4 rw'=>⟨_,H3,I4,rw',q3⟩
end
section
variable {X:Cx}{pins:List (Addr×Obj)}{σ:St}{H:Hp}{s:Shared}{a:Addr}{kvs:List (Key×V)}{A:Around}{E:Value->Shared->Prop}
end
section
variable {X:Cx}{pins:List (Addr×Obj)}{σ:St}{H:Hp}{s:Shared}{a:Addr}{y:V}{u:Value}{A:Around}{E:Value->Shared->Prop}
end
end L2
namespace IC
open PySem
inductive PV where
 | non|bl (b:Bool)|int (i:Int)|str (x:Str)|tp (k:Bool) (xs:List PV)|lst (xs:List PV)|loc (n:Nat)|exn (c:Nat)|scr (xs:List PV)
deriving Inhabited
noncomputable abbrev PV.tup (xs:List PV):PV:=.tp false xs
mutual
noncomputable def noLoc:PV->Bool
 | .loc _=>false
 | .exn _=>false
 | .tp _ xs=>noLocs xs
 | .lst xs=>noLocs xs
 | .scr xs=>noLocs xs
 |_=>true
noncomputable def noLocs:List PV->Bool
 | []=>true
 |x::xs=>noLoc x && noLocs xs
end
mutual
noncomputable def shd (n:Nat):PV->Bool
 | .non=>true
 | .bl _=>true
 | .int _=>true
 | .str x=>x.cps.all (· < 0x110000)
 | .tp _ xs=>decide (0<n) && ybu (n - 1) xs
 | .lst xs=>decide (0<n) && ybu (n - 1) xs
 |_=>false
noncomputable def ybu (n:Nat):List PV->Bool
 | []=>true
 |x::xs=>shd n x && ybu n xs
end
abbrev shp (v:PV):Bool:=shd 60 v
noncomputable def flat:PV->Bool
 | .non=>true
 | .bl _=>true
 | .int _=>true
 | .str _=>true
 |_=>false
noncomputable def bi (b:Bool):Int:=if b then 1 else 0
mutual
noncomputable def peq:PV->PV->Bool
 | .non,.non=>true
 | .bl a,.bl b=>a == b
 | .bl a,.int j=>bi a == j
 | .int i,.bl b=>i == bi b
 | .int i,.int j=>i == j
 | .str x,.str y=>x == y
 | .tp _ xs,.tp _ ys=>ybc xs ys
 | .lst xs,.lst ys=>ybc xs ys
 |_,_=>false
noncomputable def ybc:List PV->List PV->Bool
 | [],[]=>true
 |x::xs,y::ys=>peq x y && ybc xs ys
 |_,_=>false
end
inductive Ob where
 | lst (xs:List PV)|dct (t:Bool) (kvs:List (PV×PV))|dead|ins (c:Nat) (fs:List (Str×PV))
noncomputable abbrev Env:=List (Option PV)
noncomputable abbrev Store:=List Ob
inductive R (α:Type) where
 | ok (a:α) (st:Store)|exc (c:Nat) (st:Store)|bad
noncomputable def R.bind {α β:Type}(r:R α)(k:α->Store->R β):R β :=
 match r with
 | .ok a st=>k a st
 | .exc c st=>.exc c st
 | .bad=>.bad
inductive BOp where
 | add|sub|mul|fdiv|mod|pow|shl|shr|band|bor|bxor
inductive COp where
 | eq|ne|lt|le|gt|ge|is|isnot|isin|notin
inductive Ty where
 | int|bool|str|tuple|list|cls (c:Nat)|val
inductive Blt where
 | len|int|abs|min|max|tuple|list|all|sum|dict|rev|str|any
inductive Mth where
 | append|extend|get|bits|upper|insert|count|index|join|split|sidx|clear
inductive Tg where
 | n (i:Nat)|t (l:List Nat)
set_option genInjectivity false
mutual
inductive Ce where
 | cst (v:PV)
 | var (i:Nat)
 | bin (o:BOp) (a b:Ce)
 | neg (a:Ce)
 | not (a:Ce)
 | and (a b:Ce)
 | or (a b:Ce)
 | cmp (o:COp) (a b:Ce)
 | chain (o p:COp) (a b c:Ce)
 | ite (c a b:Ce)
 | tup (es:Ces)
 | lst (es:Ces)
 | newl (es:Ces)
 | newd (kvs:List (Str×Int))
 | dict0 (t:Bool)
 | idx (a i:Ce)
 | slc (a:Ce) (lo hi:Ce)
 | call (f:Nat) (args:Ces)
 | blt (b:Blt) (args:Ces)
 | mth (m:Mth) (o:Ce) (args:Ces)
 | isi (a:Ce) (t:List Ty)
 | comp (sl:List (Option Nat)) (tg:Tg) (it:Cit) (c:Ce) (e:Ce)
 | frz (a:Ce)
 | nope
 | dix (D:List (Str×PV)) (a:Ce)
 | din (a:Ce) (D:List (Str×PV))
 | fld (c:Nat) (a:Ce) (f:Str)
 | new (c i:Nat) (es:Ces)
 | mcl (c i:Nat) (m:Str) (o:Ce) (es:Ces)
inductive Ces where
 | nil
 | cons (e:Ce) (es:Ces)
inductive Cit where
 | seq (e:Ce)
 | range1 (a:Ce)
 | range2 (a b:Ce)
 | rangeD (a b:Ce)
 | enum (e:Ce)
 | zip (a b:Ce)
 | revl (e:Ce)
 | revr (a:Ce)
 | chars (e:Ce)
end
set_option genInjectivity true
abbrev Ce.i (n:Int):Ce:=.cst (.int n)
abbrev Ce.s (x:Str):Ce:=.cst (.str x)
abbrev Ce.v:=Ce.var
abbrev Ces.k:=Ces.cons
abbrev Ces.e:=Ces.nil
mutual
inductive Cs where
 | expr (e:Ce)
 | asg (t:Tg) (e:Ce)
 | six (o i e:Ce)
 | dput (o i e:Ce)
 | aug (i:Nat) (o:BOp) (e:Ce)
 | ret (e:Ce)
 | ite (c:Ce) (a b:Css)
 | for (t:Tg) (it:Cit) (b:Css)
 | while (c:Ce) (b:Css)
 | nope
 | sfl (c:Nat) (o:Ce) (f:Str) (e:Ce)
inductive Css where
 | nil
 | cons (s:Cs) (ss:Css)
end
abbrev Css.k:=Css.cons
abbrev Css.e:=Css.nil
noncomputable def yau (i j:Int):Bool:=(decide (i.natAbs<18446744073709551616)) || (decide (j.natAbs<18446744073709551616))
def binI (o:BOp)(i j:Int):Option PV :=
 match o with
 | .add=>some (.int (i+j))
 | .sub=>some (.int (i - j))
 | .mul=>if yau i j then some (.int (i*j))else none
 | .fdiv=>if 0<j/\j<10000000000000000000000000000000000000000000000000000000000000000000000 then some (.int (i / j))else none
 | .mod=>if 0<j then some (.int (i%j))else none
 | .pow=>if 0<=j/\j<=1000000/\i.natAbs<18446744073709551616 then some (.int (i^j.toNat))else none
 | .shl=>if 0<=j/\j<=1000000/\i.natAbs<18446744073709551616 then some (.int (i*2^j.toNat))else none
 | .shr=>if 0<=j then some (.int (i / 2^j.toNat))else none
 | .band=>some (.int (Builtin.bitAnd i j))
 | .bor=>some (.int (Builtin.bitOr i j))
 | .bxor=>some (.int (Builtin.bitXor i j))
noncomputable def sizeMax:Nat:=16777216
noncomputable def ydk (k:Bool)(a:List PV)(j:Bool)(b:List PV):PV:=if a.isEmpty then .tp j b else if b.isEmpty then .tp k a else .tup (a++b)
def yC (o:BOp)(x y:PV):Option PV :=
 match x,y with
 | .int i,.int j=>binI o i j
 | .int i,.bl b=>match o with
  | .add=>some (.int (i+bi b))
  |_=>none
 | .str a,.str b=>match o with
  | .add=>if a.length+b.length<=sizeMax then some (.str (a++b))else none
  |_=>none
 | .tp k a,.tp j b=>match o with
  | .add=>if a.length+b.length<=sizeMax then some (ydk k a j b)else none
  |_=>none
 | .lst a,.lst b=>match o with
  | .add=>if a.length+b.length<=sizeMax then some (.lst (a++b))else none
  |_=>none
 |_,_=>none
def ybE (o:BOp)(x y:PV):Option PV :=
 match x,y with
 | .int i,.int j=>binI o i j
 |_,_=>none
noncomputable def isNon:PV->Bool
 | .non=>true
 |_=>false
def inL (x:PV):List PV->Bool
 | []=>false
 |y::ys=>peq y x || inL x ys
noncomputable def inS (a b:Str):Bool:=(List.range (b.length+1)).any λi=>decide (i+a.length<=b.length) && (b.cps.extract i (i+a.length) == a.cps)
noncomputable def ybA (o:COp)(i j:Int):Option PV :=
 match o with
 | .lt=>some (.bl (decide (i<j)))
 | .le=>some (.bl (decide (i<=j)))
 | .gt=>some (.bl (decide (j<i)))
 | .ge=>some (.bl (decide (j<=i)))
 |_=>none
noncomputable def yek (o:COp)(a b:Str):Option PV :=
 match o with
 | .lt=>some (.bl (decide (a.cps.toList<b.cps.toList)))
 | .le=>some (.bl (!decide (b.cps.toList<a.cps.toList)))
 |_=>none
def ye (o:COp)(x y:PV):Option PV :=
 match o with
 | .eq=>if shp x && shp y then some (.bl (peq x y))else none
 | .ne=>if shp x && shp y then some (.bl (!peq x y))else none
 | .is=>match y with
  | .non=>some (.bl (isNon x))
  | .bl b=>match x with
   | .bl a=>some (.bl (a == b))
   |_=>none
  |_=>none
 | .isnot=>match y with
  | .non=>some (.bl (!isNon x))
  | .bl b=>match x with
   | .bl a=>some (.bl (!(a == b)))
   |_=>none
  |_=>none
 | .isin=>match x,y with
  | .str a,.str b=>some (.bl (inS a b))
  |x,.tp _ l=>if flat x && l.all flat then some (.bl (inL x l))else none
  |x,.lst l=>if flat x && l.all flat then some (.bl (inL x l))else none
  |_,_=>none
 | .notin=>match x,y with
  | .str a,.str b=>some (.bl (!inS a b))
  |x,.tp _ l=>if flat x && l.all flat then some (.bl (!inL x l))else none
  |x,.lst l=>if flat x && l.all flat then some (.bl (!inL x l))else none
  |_,_=>none
 |o=>match x,y with
  | .int i,.int j=>ybA o i j
  | .str a,.str b=>yek o a b
  |_,_=>none
def yaD (st:Store)(x:PV):Option Bool :=
 match x with
 | .non=>some false
 | .bl b=>some b
 | .int i=>some (i != 0)
 | .str y=>if y.length<=sizeMax then some ((y.length:Int) != 0)else none
 | .tp _ xs=>some (!xs.isEmpty)
 | .lst xs=>some (!xs.isEmpty)
 | .loc n=>match st[n]? with
  |some (.lst xs)=>some (!xs.isEmpty)
  |_=>none
 |_=>none
noncomputable def ixI (n:Nat)(i:Int):Option Nat:=if 0<=i then(if i<n then some i.toNat else none)else if -(n:Int)<=i then some (i+n).toNat else none
def at? {α:Type}(xs:List α)(i:Int):Option α:=(ixI xs.length i).bind λj=>xs[j]?
def look (k:PV):List (PV×PV)->Option PV
 | []=>none
 | (a,b)::r=>if peq a k then some b else look k r
def put (k v:PV)(kvs:List (PV×PV)):List (PV×PV) :=
 if (kvs.any λp=>peq p.1 k)=true then kvs.map (λp=>if peq p.1 k=true then(p.1,v)else p)else kvs++[(k,v)]
noncomputable def ybw:PV->Bool
 | .int _=>true
 | .str _=>true
 |_=>false
def isKey (t:Bool)(k:PV):Bool :=
 match t with
 |false=>ybw k
 |true=>match k with
  | .tp false xs=>xs.all ybw
  |_=>false
noncomputable def yaU {α:Type}(xs:List α)(i:PV):Option α :=
 match i with
 | .int k=>at? xs k
 |_=>none
def idxV (st:Store)(x i:PV):Option PV :=
 match x with
 | .tp _ xs=>yaU xs i
 | .lst xs=>yaU xs i
 | .str s=>if s.length<=sizeMax then(yaU s.cps.toList i).map λc=>.str ⟨#[c]⟩else none
 | .loc n=>match st[n]? with
  |some (.lst xs)=>yaU xs i
  |_=>none
 |_=>none
noncomputable def yaF (n:Nat)(v:Int):Nat:=if v<0 then(v+(n:Int)).toNat else min v.toNat n
def ych (n:Nat)(lo:Option Int):Nat :=
 match lo with
 |none=>0
 |some i=>yaF n i
def ycB (n:Nat)(hi:Option Int):Nat :=
 match hi with
 |none=>n
 |some i=>yaF n i
def cut {α:Type}(xs:List α)(lo hi:Option Int):List α:=(xs.drop (ych xs.length lo)).take (ycB xs.length hi - ych xs.length lo)
noncomputable def yaE:PV->Option (Option Int)
 | .non=>some none
 | .int i=>some (some i)
 |_=>none
def yb1 (x:PV)(a b:Option Int):Option PV :=
 match x with
 | .tp k xs=>if ych xs.length a=0/\ycB xs.length b=xs.length then some (.tp k xs)else some (.tup (cut xs a b))
 | .str s=>if s.length<=sizeMax then some (.str ⟨(cut s.cps.toList a b).toArray⟩)else none
 | .lst xs=>some (.lst (cut xs a b))
 | .scr xs=>some (.lst (cut xs a b))
 |_=>none
def yb6 (x:PV)(a:Option Int)(hi:PV):Option PV :=
 match yaE hi with
 |some b=>yb1 x a b
 |none=>none
noncomputable def ybd (x:PV)(t:Ty):Bool :=
 match x,t with
 | .int _,.int=>true
 | .bl _,.int=>true
 | .bl _,.bool=>true
 | .str _,.str=>true
 | .tp _ _,.tuple=>true
 | .lst _,.list=>true
 | .exn c,.cls d=>c == d
 | .exn _,.val=>true
 |_,_=>false
noncomputable def ycQ:Ty->Bool
 | .cls _=>false
 | .val=>false
 |_=>true
def ybv (x:PV)(ts:List Ty):Option PV :=
 match x with
 | .loc _=>none
 | .scr _=>none
 | .exn c=>if ts.all ycQ then none else some (.bl (ts.any (ybd (.exn c))))
 |x=>match ts with
  | [t]=>if ycQ t then some (.bl (ybd x t))else none
  |_=>none
noncomputable def allB:List PV->Option Bool
 | []=>some true
 | .bl b::r=>match allB r with
  |some c=>some (b && c)
  |none=>none
 |_::_=>none
noncomputable def yeK:List PV->Option Int
 | []=>some 0
 | .int i::r=>match yeK r with
  |some c=>some (i+c)
  |none=>none
 |_::_=>none
noncomputable def yc6:List PV->Option Int
 | []=>none
 | [.int i]=>some i
 | .int i::r=>match yc6 r with
  |some c=>some (if i<c then c else i)
  |none=>none
 |_::_=>none
noncomputable def ybR (st:Store):PV->Option (List PV)
 | .tp _ xs=>some xs
 | .lst xs=>some xs
 | .loc n=>match st[n]? with
  |some (.lst xs)=>some xs
  |_=>none
 |_=>none
noncomputable def yV (st:Store):PV->Option (List PV)
 | .lst xs=>some xs
 | .loc n=>match st[n]? with
  |some (.lst xs)=>some xs
  |_=>none
 |_=>none
def lenV (st:Store)(x:PV):Option PV :=
 match x with
 | .str s=>if s.length<=sizeMax then some (.int s.length)else none
 |x=>(ybR st x).map λxs=>.int xs.length
def yd9 (x:PV):Option PV :=
 match x with
 | .int i=>some (.int i)
 | .bl k=>some (.int (bi k))
 |_=>none
noncomputable def ydD (x:PV):Option PV :=
 match x with
 | .int i=>some (.int (if i<0 then -i else i))
 |_=>none
noncomputable def ydo (x y:PV):Option PV :=
 match x,y with
 | .int i,.int j=>some (.int (if j<i then j else i))
 |_,_=>none
noncomputable def maxV (x y:PV):Option PV :=
 match x,y with
 | .int i,.int j=>some (.int (if i<j then j else i))
 |_,_=>none
def ycK (st:Store)(x:PV):Option PV :=
 match x with
 | .tp k xs=>some (.tp k xs)
 |x=>(yV st x).map .tup
noncomputable def yd4:PV->Option PV
 | .tp _ xs=>if xs.isEmpty then none else some (.tup xs.reverse)
 | .lst xs=>some (.lst xs.reverse)
 |_=>none
noncomputable def anyB:List PV->Option Bool
 | []=>some false
 | .bl b::r=>match anyB r with
  |some c=>some (b || c)
  |none=>none
 |_=>none
noncomputable def anyI:List PV->Option Bool
 | []=>some false
 | .int i::r=>match anyI r with
  |some c=>some ((i != 0) || c)
  |none=>none
 |_=>none
noncomputable def yf2:PV->Option PV
 | .int i=>if i=0 then some (.str "0")else if i=1 then some (.str "1")else none
 |_=>none
def yan (b:Blt)(st:Store)(vs:List PV):Option PV :=
 match vs with
 | [x]=>match b with
  | .len=>lenV st x
  | .int=>yd9 x
  | .abs=>ydD x
  | .max=>(yV st x).bind λxs=>(yc6 xs).map .int
  | .tuple=>ycK st x
  | .list=>(ybR st x).map .lst
  | .all=>(yV st x).bind λxs=>(allB xs).map .bl
  | .sum=>(yV st x).bind λxs=>(yeK xs).map .int
  | .rev=>yd4 x
  | .str=>yf2 x
  | .any=>match x with
   | .tp _ xs=>(anyI xs).map .bl
   |x=>(yV st x).bind λxs=>(anyB xs).map .bl
  |_=>none
 | [x,y]=>match b with
  | .min=>ydo x y
  | .max=>maxV x y
  |_=>none
 |_=>none
noncomputable def ya0 (st:Store):PV->Option (Bool×List (PV×PV))
 | .loc n=>match st[n]? with
  |some (.dct t xs)=>some (t,xs)
  |_=>none
 |_=>none
def yas (m:Mth)(st:Store)(x:PV):Option Bool :=
 match m with
 | .append=>(yV st x).map λ_=>true
 | .extend=>(yV st x).map λ_=>true
 | .insert=>(yV st x).map λ_=>true
 | .count=>(yV st x).map λ_=>true
 | .index=>(yV st x).map λ_=>true
 | .get=>(ya0 st x).map λ_=>true
 | .bits=>match x with
  | .int _=>some true
  |_=>none
 | .upper=>match x with
  | .str _=>some true
  |_=>none
 | .join=>match x with
  | .str _=>some true
  |_=>none
 | .split=>match x with
  | .str _=>some true
  |_=>none
 | .sidx=>match x with
  | .str _=>some true
  |_=>none
 | .clear=>match x with
  | .loc n=>(yV st (.loc n)).map λ_=>true
  |_=>none
noncomputable def yc1 (st:Store)(o v:PV):R PV :=
 match o with
 | .loc n=>match st[n]? with
  |some (.lst xs)=>if xs.length<1000000 then .ok .non (st.set n (.lst (xs++[v])))else .bad
  |_=>.bad
 |_=>.bad
noncomputable def yd8 (st:Store)(o v:PV):R PV :=
 match o with
 | .loc n=>match st[n]? with
  |some (.lst xs)=>match v with
   | .lst ys=>if xs.length+ys.length<=1000000 then .ok .non (st.set n (.lst (xs++ys)))else .bad
   |_=>.bad
  |_=>.bad
 |_=>.bad
noncomputable def ygd (st:Store)(o i v:PV):R PV :=
 match o with
 | .loc n=>match st[n]? with
  |some (.lst xs)=>match i with
   | .int k=>if 0<=k/\k<=xs.length/\xs.length<1000000 then .ok .non (st.set n (.lst (xs.take k.toNat++v::xs.drop k.toNat)))else .bad
   |_=>.bad
  |_=>.bad
 |_=>.bad
def ydc (st:Store)(o k d:PV):R PV :=
 match ya0 st o with
 |some (t,kvs)=>if isKey t k then .ok ((look k kvs).getD d) st else .bad
 |none=>.bad
def yfK (st:Store)(o v:PV):R PV :=
 match yV st o with
 |some xs=>if flat v && xs.all flat then .ok (.int (xs.countP λy=>peq y v)) st else .bad
 |none=>.bad
def ydi (v:PV):List PV->Option Nat
 | []=>none
 |y::ys=>if peq y v then some 0 else(ydi v ys).map (·+1)
def ye5 (st:Store)(o v:PV):R PV :=
 match yV st o with
 |some xs=>if flat v && xs.all flat then(match ydi v xs with
  |some j=>.ok (.int j) st
  |none=>.bad)else .bad
 |none=>.bad
noncomputable def upC (c:Nat):Nat:=if 97<=c/\c<=122 then c - 32 else c
def upS (s:Str):Str:=⟨(s.cps.toList.map upC).toArray⟩
noncomputable def ybI (c:Nat):List Nat->List (List Nat)
 | []=>[[]]
 |x::xs=>if x=c then []::ybI c xs else match ybI c xs with
  | []=>[[x]]
  |p::ps=>(x::p)::ps
noncomputable def strsOf:List PV->Option (List Str)
 | []=>some []
 | .str s::r=>(strsOf r).map (s :: ·)
 |_=>none
def ydQ (st:Store)(o v:PV):R PV :=
 match o,yV st v with
 | .str s,some xs=>match strsOf xs with
  |some ys=>if s.length<=10/\xs.length<=1000/\(ys.all λy=>decide (y.length<=1000))=true then .ok (.str (Str.join s ys)) st else .bad
  |none=>.bad
 |_,_=>.bad
noncomputable def yfU (st:Store)(o:PV):R PV :=
 match o with
 | .loc n=>match st[n]? with
  |some (.lst _)=>.ok .non (st.set n (.lst []))
  |_=>.bad
 |_=>.bad
noncomputable def ydU (st:Store)(o v:PV):R PV :=
 match o,v with
 | .str s,.str y=>if s=Str.ofString "01" then(if y=Str.ofString "0" then .ok (.int 0) st else if y=Str.ofString "1" then .ok (.int 1) st else .bad)else .bad
 |_,_=>.bad
def yc4 (st:Store)(o v:PV):R PV :=
 match o,v with
 | .str s,.str y=>match y.cps.toList with
  | [c]=>if s.length<=100000 then .ok (.lst ((ybI c s.cps.toList).map λl=>.str ⟨l.toArray⟩)) st else .bad
  |_=>.bad
 |_,_=>.bad
def ybq (m:Mth)(st:Store)(o:PV)(vs:List PV):R PV :=
 match m,vs with
 | .append,[v]=>yc1 st o v
 | .extend,[v]=>yd8 st o v
 | .insert,[i,v]=>ygd st o i v
 | .get,[k,d]=>ydc st o k d
 | .count,[v]=>yfK st o v
 | .index,[v]=>ye5 st o v
 | .join,[v]=>ydQ st o v
 | .split,[v]=>yc4 st o v
 | .sidx,[v]=>ydU st o v
 | .clear,[]=>yfU st o
 | .bits,[]=>match o with
  | .int i=>.ok (.int (Builtin.Int.intBits i)) st
  |_=>.bad
 | .upper,[]=>match o with
  | .str s=>if s.cps.toList.all (· < 128)/\s.length<=1000000 then .ok (.str (upS s)) st else .bad
  |_=>.bad
 |_,_=>.bad
noncomputable def toR (o:Option PV)(st:Store):R PV :=
 match o with
 |some v=>.ok v st
 |none=>.bad
noncomputable def yJ (t:Tg)(v:PV)(ρ:Env):Option Env :=
 match t,v with
 | .n i,v=>some (ρ.set i (some v))
 | .t l,.tp _ xs=>if l.length=xs.length then some ((l.zip xs).foldl (λρ p=>ρ.set p.1 (some p.2)) ρ)else none
 |_,_=>none
noncomputable def yU:Nat->List PV->List PV
 |_,[]=>[]
 |k,x::xs=>.tup [.int k,x]::yU (k+1) xs
noncomputable def ya3:List PV->List PV->List PV
 |x::xs,y::ys=>.tup [x,y]::ya3 xs ys
 |_,_=>[]
noncomputable def ye0:PV->Option (List PV)
 | .tp _ xs=>some xs.reverse
 | .lst xs=>some xs.reverse
 |_=>none
noncomputable def ydh:PV->Option (List PV)
 | .str s=>if s.length<=1000000 then some (s.cps.toList.map λc=>.str ⟨#[c]⟩)else none
 |_=>none
def yev (x y:PV):Option (List PV) :=
 match x,y with
 | .tp _ xs,.tp _ ys=>if xs.length<=ys.length then some (ya3 xs ys)else none
 |_,_=>none
noncomputable def yaK (s:Str):List (Str×PV)->Option PV
 | []=>none
 | (a,b)::r=>if decide (a=s)then some b else yaK s r
def yeM (D:List (Str×PV))(x:PV):Option PV :=
 match x with
 | .str s=>yaK s D
 |_=>none
def yfu (D:List (Str×PV))(x:PV):Option PV :=
 match x with
 | .str s=>some (.bl (yaK s D).isSome)
 |_=>none
noncomputable def yo:Nat->Int->Int->List PV
 |0,_,_=>[]
 |n+1,a,d=>.int a::yo n (a+d) d
def ya8 (x:PV):Option (List PV) :=
 match x with
 | .int j=>if j.natAbs<1000000000 then some (yo j.toNat 0 1)else none
 |_=>none
def ye9 (x:PV):Option (List PV) :=
 match x with
 | .int j=>if 0<=j/\j<1000000000 then some (yo j.toNat (j - 1) (-1))else none
 |_=>none
def ydr (x y:PV):Option (List PV) :=
 match x,y with
 | .int i,.int j=>if i.natAbs<1000000000/\j.natAbs<1000000000 then some (yo (j - i).toNat i 1)else none
 |_,_=>none
def ycT (x y:PV):Option (List PV) :=
 match x,y with
 | .int i,.int j=>if i.natAbs<1000000000/\j.natAbs<1000000000 then some (yo (i - j).toNat i (-1))else none
 |_,_=>none
noncomputable def toL (o:Option (List PV))(st:Store):R (List PV) :=
 match o with
 |some v=>.ok v st
 |none=>.bad
noncomputable def ydu (v:PV)(st:Store):R PV :=
 match v with
 | .loc n=>match st[n]? with
  |some (.lst xs)=>.ok (.lst xs) (st.set n .dead)
  |_=>.bad
 |v=>.ok v st
noncomputable def ydv (c:Nat)(st:Store)(x:PV)(f:Str):Option PV :=
 match x with
 | .loc n=>match st[n]? with
  |some (.ins d fs)=>if d=c then fs.lookup f else none
  |_=>none
 |_=>none
noncomputable def ycw (f:Str)(v:PV):List (Str×PV)->List (Str×PV)
 | []=>[(f,v)]
 | (g,x)::r=>if g=f then(g,v)::r else(g,x)::ycw f v r
def ycF (c:Nat)(st:Store)(x:PV)(f:Str)(v:PV):Option Store :=
 match x with
 | .loc n=>match st[n]? with
  |some (.ins d fs)=>if d=c/\fs.length<1000 then some (st.set n (.ins c (ycw f v fs)))else none
  |_=>none
 |_=>none
noncomputable def ycZ (c:Nat)(m:Str)(st:Store)(x:PV):Option Bool :=
 match x with
 | .loc n=>match st[n]? with
  |some (.ins d fs)=>if d=c/\fs.lookup m=none then some true else none
  |_=>none
 |_=>none
noncomputable def newV (n:Nat)(v:PV)(st:Store):R PV :=
 match v with
 | .non=>.ok (.loc n) st
 |_=>.bad
noncomputable def ybX (r:R PV):R PV :=
 match r with
 | .ok v st=>.ok v st
 |_=>.bad
inductive Fl where
 | nx (ρ:Env) (st:Store)|rt (v:PV) (st:Store)|bk (ρ:Env) (st:Store)|ct (ρ:Env) (st:Store)|exc (c:Nat) (ρ:Env) (st:Store)|bad
noncomputable def onBl {α:Type}(x:PV)(k:Bool->R α):R α :=
 match x with
 | .bl b=>k b
 |_=>.bad
noncomputable def onO {α:Type}(o:Option Bool)(k:Bool->R α):R α :=
 match o with
 |some b=>k b
 |none=>.bad
noncomputable def onF (o:Option Bool)(k:Bool->Fl):Fl :=
 match o with
 |some b=>k b
 |none=>.bad
noncomputable def onP {α:Type}(o:Option (Option Int))(k:Option Int->R α):R α :=
 match o with
 |some b=>k b
 |none=>.bad
noncomputable def blO (o:Option PV):Option Bool :=
 match o with
 |some (.bl b)=>some b
 |_=>none
noncomputable def ybN (o:Option PV)(ys:List PV):List PV :=
 match o with
 |some y=>y::ys
 |none=>ys
def yaH (one:PV->Store->R (Option PV)):List PV->Store->R (List PV)
 | [],st=>.ok [] st
 |x::xs,st=>(one x st).bind λo st1=>(yaH one xs st1).bind λys st2=>.ok (ybN o ys) st2
noncomputable def ybO (r:R (List PV)):R PV :=
 match r with
 | .ok ys st=>if ys.length<=1000000 then .ok (.lst ys) st else .bad
 |_=>.bad
mutual
noncomputable def ev (call:Nat->List PV->Store->R PV)(ρ:Env)(st:Store):Ce->R PV
 | .cst v=>.ok v st
 | .var i=>match ρ[i]? with
  |some (some v)=>.ok v st
  |_=>.bad
 | .bin o a b=>(ev call ρ st a).bind λx st1=>(ev call ρ st1 b).bind λy st2=>toR (yC o x y) st2
 | .neg a=>(ev call ρ st a).bind λx st1=>match x with
  | .int i=>.ok (.int (-i)) st1
  |_=>.bad
 | .not a=>(ev call ρ st a).bind λx st1=>onBl x λk=>.ok (.bl (!k)) st1
 | .and a b=>(ev call ρ st a).bind λx st1=>onBl x λk=>cond k (ev call ρ st1 b) (.ok (.bl false) st1)
 | .or a b=>(ev call ρ st a).bind λx st1=>onBl x λk=>cond k (.ok (.bl true) st1) (ev call ρ st1 b)
 | .cmp o a b=>(ev call ρ st a).bind λx st1=>(ev call ρ st1 b).bind λy st2=>toR (ye o x y) st2
 | .chain o p a b c=>(ev call ρ st a).bind λx st1=>(ev call ρ st1 b).bind λy st2=>onO (blO (ye o x y)) λk=>cond k ((ev call ρ st2 c).bind λz st3=>toR (ye p y z) st3) (.ok (.bl false) st2)
 | .ite c a b=>(ev call ρ st c).bind λx st1=>onO (yaD st1 x) λk=>cond k (ev call ρ st1 a) (ev call ρ st1 b)
 | .tup es=>(evs call ρ st es).bind λvs st1=>if vs.length<=sizeMax then .ok (.tup vs) st1 else .bad
 | .lst es=>(evs call ρ st es).bind λvs st1=>if vs.length<=sizeMax then .ok (.lst vs) st1 else .bad
 | .newl es=>(evs call ρ st es).bind λvs st1=>if vs.length<=sizeMax then .ok (.loc st1.length) (st1++[.lst vs])else .bad
 | .newd kvs=>if kvs.length<=15 then .ok (.loc st.length) (st++[.dct false (kvs.foldl (λacc kv=>put (.str kv.1) (.int kv.2) acc) [])])else .bad
 | .dict0 t=>.ok (.loc st.length) (st++[.dct t []])
 | .idx a i=>(ev call ρ st a).bind λx st1=>(ev call ρ st1 i).bind λy st2=>toR (idxV st2 x y) st2
 | .slc a l h=>(ev call ρ st a).bind λx st1=>(ev call ρ st1 l).bind λy st2=>onP (yaE y) λo=>(ev call ρ st2 h).bind λz st3=>toR (yb6 x o z) st3
 | .call f es=>(evs call ρ st es).bind λvs st1=>call f vs st1
 | .blt b es=>(evs call ρ st es).bind λvs st1=>toR (yan b st1 vs) st1
 | .mth m o es=>(ev call ρ st o).bind λx st1=>onO (yas m st1 x) λ_=>(evs call ρ st1 es).bind λvs st2=>ybq m st2 x vs
 | .isi a ts=>(ev call ρ st a).bind λx st1=>toR (ybv x ts) st1
 | .comp sl tg it c e=>(evi call ρ st it).bind λxs st1 =>
  let ρ0:Env:=sl.map λo=>o.bind λj=>(ρ[j]?).join
  ybO (yaH (λx st2=>match yJ tg x ρ0 with
   |none=>.bad
   |some ρ1=>(ev call ρ1 st2 c).bind λb st3=>onO (yaD st3 b) λk=>cond k ((ev call ρ1 st3 e).bind λy st4=>.ok (some y) st4) (.ok none st3)) xs st1)
 | .nope=>.bad
 | .frz a=>(ev call ρ st a).bind λx st1=>ydu x st1
 | .dix D a=>(ev call ρ st a).bind λx st1=>toR (yeM D x) st1
 | .din a D=>(ev call ρ st a).bind λx st1=>toR (yfu D x) st1
 | .fld c a f=>(ev call ρ st a).bind λx st1=>toR (ydv c st1 x f) st1
 | .new c i es=>(evs call ρ st es).bind λvs st1=>(ybX (call i (.loc st1.length::vs) (st1++[.ins c []]))).bind λv st2=>newV st1.length v st2
 | .mcl c i m o es=>(ev call ρ st o).bind λx st1=>onO (ycZ c m st1 x) λ_=>(evs call ρ st1 es).bind λvs st2=>call i (x::vs) st2
noncomputable def evs (call:Nat->List PV->Store->R PV)(ρ:Env)(st:Store):Ces->R (List PV)
 | .nil=>.ok [] st
 | .cons e es=>(ev call ρ st e).bind λv st1=>(evs call ρ st1 es).bind λvs st2=>.ok (v::vs) st2
noncomputable def evi (call:Nat->List PV->Store->R PV)(ρ:Env)(st:Store):Cit->R (List PV)
 | .seq e=>(ev call ρ st e).bind λv st1=>match v with
  | .tp _ xs=>.ok xs st1
  | .lst xs=>.ok xs st1
  |_=>.bad
 | .range1 a=>(ev call ρ st a).bind λx st1=>toL (ya8 x) st1
 | .range2 a b=>(ev call ρ st a).bind λx st1=>(ev call ρ st1 b).bind λy st2=>toL (ydr x y) st2
 | .rangeD a b=>(ev call ρ st a).bind λx st1=>(ev call ρ st1 b).bind λy st2=>toL (ycT x y) st2
 | .enum e=>(ev call ρ st e).bind λv st1=>match v with
  | .tp _ xs=>.ok (yU 0 xs) st1
  |_=>.bad
 | .zip a b=>(ev call ρ st a).bind λx st1=>(ev call ρ st1 b).bind λy st2=>toL (yev x y) st2
 | .revl e=>(ev call ρ st e).bind λv st1=>toL (ye0 v) st1
 | .revr a=>(ev call ρ st a).bind λx st1=>toL (ye9 x) st1
 | .chars e=>(ev call ρ st e).bind λv st1=>toL (ydh v) st1
end
noncomputable def R.fl {α:Type}(r:R α)(ρ:Env)(k:α->Store->Fl):Fl :=
 match r with
 | .ok a st=>k a st
 | .exc c st=>.exc c ρ st
 | .bad=>.bad
noncomputable def yak (f:Fl)(k:Env->Store->Fl):Fl :=
 match f with
 | .nx ρ st=>k ρ st
 | .ct ρ st=>k ρ st
 | .bk ρ st=>.nx ρ st
 |f=>f
def forL (t:Tg)(body:Env->Store->Fl):List PV->Env->Store->Fl
 | [],ρ,st=>.nx ρ st
 |x::xs,ρ,st=>match yJ t x ρ with
  |none=>.bad
  |some ρ1=>yak (body ρ1 st) λρ2 st2=>forL t body xs ρ2 st2
def yag (test:Env->Store->R PV)(body:Env->Store->Fl):Nat->Env->Store->Fl
 |0,_,_=>.bad
 |n+1,ρ,st=>(test ρ st).fl ρ λx st1=>onF (yaD st1 x) λk=>cond k (yak (body ρ st1) λρ2 st2=>yag test body n ρ2 st2) (.nx ρ st1)
def ybg (st:Store)(o i v:PV):Option Store :=
 match o with
 | .loc n=>match st[n]? with
  |some (.lst xs)=>match i with
   | .int k=>match ixI xs.length k with
    |some j=>some (st.set n (.lst (xs.set j v)))
    |none=>none
   |_=>none
  |_=>none
 |_=>none
def ybi (st:Store)(o i v:PV):Option Store :=
 match o with
 | .loc n=>match st[n]? with
  |some (.dct t kvs)=>if isKey t i/\kvs.length<1000000 then some (st.set n (.dct t (put i v kvs)))else none
  |_=>none
 |_=>none
mutual
noncomputable def ex (call:Nat->List PV->Store->R PV)(ρ:Env)(st:Store):Cs->Fl
 | .expr e=>(ev call ρ st e).fl ρ λ_ st1=>.nx ρ st1
 | .asg t e=>(ev call ρ st e).fl ρ λv st1=>match yJ t v ρ with
  |some ρ1=>.nx ρ1 st1
  |none=>.bad
 | .six o i e=>(ev call ρ st e).fl ρ λv st1=>(ev call ρ st1 o).fl ρ λx st2=>(ev call ρ st2 i).fl ρ λy st3=>match ybg st3 x y v with
  |some st4=>.nx ρ st4
  |none=>.bad
 | .dput o i e=>(ev call ρ st e).fl ρ λv st1=>(ev call ρ st1 o).fl ρ λx st2=>(ev call ρ st2 i).fl ρ λy st3=>match ybi st3 x y v with
  |some st4=>.nx ρ st4
  |none=>.bad
 | .aug i o e=>match ρ[i]? with
  |some (some x)=>(ev call ρ st e).fl ρ λy st1=>match ybE o x y with
   |some z=>.nx (ρ.set i (some z)) st1
   |none=>.bad
  |_=>.bad
 | .ret e=>(ev call ρ st e).fl ρ λv st1=>.rt v st1
 | .ite c a b=>(ev call ρ st c).fl ρ λx st1=>onF (yaD st1 x) λk=>cond k (exs call ρ st1 a) (exs call ρ st1 b)
 | .for t it b=>(evi call ρ st it).fl ρ λxs st1=>forL t (λρ2 st2=>exs call ρ2 st2 b) xs ρ st1
 | .while c b=>yag (λρ2 st2=>ev call ρ2 st2 c) (λρ2 st2=>exs call ρ2 st2 b) 100000 ρ st
 | .nope=>.bad
 | .sfl c o f e=>(ev call ρ st e).fl ρ λv st1=>(ev call ρ st1 o).fl ρ λx st2=>match ycF c st2 x f v with
  |some st3=>.nx ρ st3
  |none=>.bad
noncomputable def exs (call:Nat->List PV->Store->R PV)(ρ:Env)(st:Store):Css->Fl
 | .nil=>.nx ρ st
 | .cons s ss=>match ex call ρ st s with
  | .nx ρ1 st1=>exs call ρ1 st1 ss
  |f=>f
end
structure Fn where
 np:Nat
 ns:Nat
 pure:Bool
 body:Css
def yc (T:Nat->Option Fn):Nat->Nat->List PV->Store->R PV
 |0,_,_,_=>.bad
 |k+1,f,args,st=>match T f with
  |none=>.bad
  |some fn=>if args.length=fn.np then
    if fn.pure then
     if noLocs args then match exs (yc T k) (args.map some++List.replicate (fn.ns - fn.np) none) [] fn.body with
      | .rt v _=>if noLoc v then .ok v st else .bad
      | .nx _ _=>.ok .non st
      | .exc c _ _=>.exc c st
      |_=>.bad
     else .bad
    else match exs (yc T k) (args.map some++List.replicate (fn.ns - fn.np) none) st fn.body with
     | .rt v st1=>.ok v st1
     | .nx _ st1=>.ok .non st1
     | .exc c _ st1=>.exc c st1
     |_=>.bad
   else .bad
noncomputable def yE:List (Sum Ce Int)->Ces
 | []=>.nil
 | .inl c::r=>.cons c (yE r)
 | .inr i::r=>.cons (.cst (.int i)) (yE r)
noncomputable def yat:Ces->Ces->Ces
 | .nil,b=>b
 | .cons e r,b=>.cons e (yat r b)
end IC
namespace L2
open PySem PySem.Spec PyProof.Rows IC
noncomputable abbrev Ph:=List (Option Addr)
section
variable (K:PySem.W.Frag)(cl:Nat->Addr)(B:Addr->Prop)(φ:Ph)(H:Hp)
def ybz (k:Bool)(a:Addr)(xs:List V):Prop:=(H a=some (.tup xs)/\¬B a/\some a∉φ) \/
 k=true/\∃(o:Obj) (its:Array Value) (n:Nat),K.lookup a=some o/\o.cls=.type "tuple"/\o.data=.seq its n/\its.size<=sizeLine/\Vals xs its.toList
def yct (a:Addr)(xs:List V):Prop:=H a=some (.lst xs)/\¬B a/\some a∉φ
def ydp (a:Addr)(xs:List V):Prop:=(Rd H a (.lst xs)/\¬B a/\some a∉φ) \/
 ∃(o:Obj) (its:Array Value) (n:Nat),K.lookup a=some o/\o.cls=.type "list"/\o.dict=none/\o.data=.seq its n/\its.size<=sizeLine/\Vals xs its.toList
mutual
noncomputable def yd:PV->V->Prop
 | .non,x=>x=.non
 | .bl b,x=>x=.bl b
 | .int i,x=>x=.int i
 | .str s,x=>x=.str s
 | .tp k vs,x=>∃a xs,x=.ref a/\ybz K B φ H k a xs/\yh vs xs
 | .lst vs,x=>∃a xs,x=.ref a/\yct B φ H a xs/\yh vs xs
 | .loc n,x=>n<φ.length/\∃a,x=.ref a/\∀b,φ[n]?=some (some b)->b=a
 | .exn c,x=>∃a,x=.ref a/\H a=some (.ext (yfP a (cl c)))/\¬B a/\some a∉φ
 | .scr vs,x=>∃a xs,x=.ref a/\ydp K B φ H a xs/\yh vs xs
noncomputable def yh:List PV->List V->Prop
 | [],xs=>xs=[]
 |v::vs,xs=>∃y ys,xs=y::ys/\yd v y/\yh vs ys
end
noncomputable def yav:Key->PV
 | .inl i=>.int i
 | .inr y=>.str y
def DK:List (PV×PV)->List (Key×V)->Prop
 | [],ks=>ks=[]
 | (k,v)::r,ks=>∃q x s,ks=(q,x)::s/\k=yav q/\yd K cl B φ H v x/\DK r s
def DT:List (PV×PV)->List (List Key×V)->Prop
 | [],ks=>ks=[]
 | (k,v)::r,ks=>∃q x s,ks=(q,x)::s/\k=.tup (q.map yav)/\yd K cl B φ H v x/\DT r s
def FS:List (Str×PV)->List (Str×V)->Prop
 | [],ks=>ks=[]
 | (k,v)::r,ks=>∃x s,ks=(k,x)::s/\yd K cl B φ H v x/\FS r s
def ybU:Ob->Addr->Prop
 | .lst vs,a=>∃xs,H a=some (.lst xs)/\yh K cl B φ H vs xs
 | .dct false kvs,a=>∃ks,H a=some (.dK ks)/\DK K cl B φ H kvs ks
 | .dct true kvs,a=>∃ks,H a=some (.dT ks)/\DT K cl B φ H kvs ks
 | .dead,_=>False
 | .ins c fs,a=>∃ks,(∃dx,H a=some (.ins (cl c) dx ks))/\FS K cl B φ H fs ks
structure yp (st:Store):Prop where
 len:φ.length=st.length
 inj:∀(m n:Nat) (a:Addr),φ[m]?=some (some a)->φ[n]?=some (some a)->m=n
 obj:∀(n:Nat) (a:Addr),φ[n]?=some (some a)->∃o,st[n]?=some o/\ybU K cl B φ H o a
 liv:∀(n:Nat) (o:Ob),st[n]?=some o->o ≠ .dead->∃a,φ[n]?=some (some a)
 nb:∀a,some a∈φ->¬B a
 dom:∀a,B a->∃o,H a=some o
structure yG (ρ:IC.Env)(σ:St):Prop where
 len:ρ.length=σ.length
 get:∀(i:Nat) (v:PV),ρ[i]?=some (some v)->∃x,σ[i]?=some (some x)/\yd K cl B φ H v x
end
structure Step (φ:Ph)(H:Hp)(φ':Ph)(H':Hp):Prop where
 keep:∀b o,some b∉φ->H b=some o->H' b=some o
 len:φ.length<=φ'.length
 pre:∀(n:Nat) (a:Addr),n<φ.length->φ'[n]?=some (some a)->φ[n]?=some (some a)
 new:∀b,some b∈φ'->some b∈φ \/ H b=none
theorem Step.rfl {φ:Ph}{H:Hp}:Step φ H φ H:=⟨λ_ _ _ e=>e,Nat.le_refl _,λ_ _ _ e=>e,λ_ h=>.inl h⟩
theorem Step.trans {φ φ1 φ2:Ph}{H H1 H2:Hp}(s:Step φ H φ1 H1)(t:Step φ1 H1 φ2 H2):Step φ H φ2 H2:=by
 refine⟨λb o n e=>?_,Nat.le_trans s.len t.len,λn a hn e=>s.pre n a hn (t.pre n a (Nat.lt_of_lt_of_le hn s.len) e),λb hb=>?_⟩
 ·refine t.keep b o (λh=>?_) (s.keep b o n e)
  rcases s.new b h with q|q
  ·exact n q
  ·rw[e]at q;cases q
 ·rcases t.new b hb with q|q
  ·exact s.new b q
  ·by_cases h:some b∈φ
   ·exact .inl h
   ·refine .inr ?_
    cases e:H b with
    |none=>exact Eq.refl _
    |some o=>rw[s.keep b o h e]at q;cases q
section
variable {K:PySem.W.Frag}{cl:Nat->Addr}{B:Addr->Prop}{φ φ':Ph}{H H':Hp}{st:Store}{ρ:IC.Env}{σ:St}
theorem Rd.step (s:Step φ H φ' H'){a:Addr}{u:HO}(n:some a∉φ)(r:Rd H a u):Rd H' a u/\some a∉φ':=by
 have h:∃o,H a=some o:=by
  rcases r with r|⟨o,r⟩ <;> exact⟨_,r⟩
 refine⟨?_,λz=>?_⟩
 ·rcases r with r|⟨o,r⟩
  ·exact .inl (s.keep _ _ n r)
  ·exact .inr ⟨o,s.keep _ _ n r⟩
 ·obtain⟨o,e⟩:=h
  rcases s.new a z with q|q
  ·exact n q
  ·rw[e]at q;cases q
theorem ybz.step (s:Step φ H φ' H'){k:Bool}{a:Addr}{xs:List V}(r:ybz K B φ H k a xs):ybz K B φ' H' k a xs:=by
 rcases r with⟨r,b,n⟩|r
 ·obtain⟨_,n'⟩:=(Rd.of r).step s n
  exact .inl ⟨s.keep _ _ n r,b,n'⟩
 ·exact .inr r
theorem yct.step (s:Step φ H φ' H'){a:Addr}{xs:List V}(r:yct B φ H a xs):yct B φ' H' a xs:=by
 obtain⟨r,b,n⟩:=r
 obtain⟨_,n'⟩:=(Rd.of r).step s n
 exact⟨s.keep _ _ n r,b,n'⟩
theorem ydp.step (s:Step φ H φ' H'){a:Addr}{xs:List V}(r:ydp K B φ H a xs):ydp K B φ' H' a xs:=by
 rcases r with⟨r,b,n⟩|r
 ·obtain⟨r',n'⟩:=r.step s n
  exact .inl ⟨r',b,n'⟩
 ·exact .inr r
mutual
theorem yd.step (s:Step φ H φ' H'):∀(v:PV) (x:V),yd K cl B φ H v x->yd K cl B φ' H' v x
 | .non,x,h=>by simp only[yd]at h ⊢;exact h
 | .bl b,x,h=>by simp only[yd]at h ⊢;exact h
 | .int i,x,h=>by simp only[yd]at h ⊢;exact h
 | .str y,x,h=>by simp only[yd]at h ⊢;exact h
 | .tp k vs,x,h=>by
  simp only[yd]at h ⊢
  obtain⟨a,xs,e,r,l⟩:=h
  exact⟨a,xs,e,r.step s,yh.step s vs xs l⟩
 | .lst vs,x,h=>by
  simp only[yd]at h ⊢
  obtain⟨a,xs,e,r,l⟩:=h
  exact⟨a,xs,e,r.step s,yh.step s vs xs l⟩
 | .loc n,x,h=>by
  simp only[yd]at h ⊢
  obtain⟨h1,a,e,h2⟩:=h
  exact⟨Nat.lt_of_lt_of_le h1 s.len,a,e,λb q=>h2 b (s.pre n b h1 q)⟩
 | .exn c,x,h=>by
  simp only[yd]at h ⊢
  obtain⟨a,e,r,b,n⟩:=h
  obtain⟨_,n'⟩:=(Rd.of r).step s n
  exact⟨a,e,s.keep _ _ n r,b,n'⟩
 | .scr vs,x,h=>by
  simp only[yd]at h ⊢
  obtain⟨a,xs,e,r,l⟩:=h
  exact⟨a,xs,e,r.step s,yh.step s vs xs l⟩
theorem yh.step (s:Step φ H φ' H'):∀(v:List PV) (x:List V),yh K cl B φ H v x->yh K cl B φ' H' v x
 | [],x,h=>by simp only[yh]at h ⊢;exact h
 |v::vs,x,h=>by
  simp only[yh]at h ⊢
  obtain⟨y,ys,e,r,l⟩:=h
  exact⟨y,ys,e,yd.step s v y r,yh.step s vs ys l⟩
end
theorem yG.step (s:Step φ H φ' H')(r:yG K cl B φ H ρ σ):yG K cl B φ' H' ρ σ:=⟨r.len,λi v e=>by
 obtain⟨x,h,q⟩:=r.get i v e
 exact⟨x,h,q.step s⟩⟩
mutual
theorem yd.inn (hn:∀a,some a∈φ->¬B a):∀(v:PV) (x:V),noLoc v=true->yd K cl B φ H v x->yd K cl (λa=>B a \/ some a∈φ) [] H v x
 | .non,x,_,h=>by simp only[yd]at h ⊢;exact h
 | .bl b,x,_,h=>by simp only[yd]at h ⊢;exact h
 | .int i,x,_,h=>by simp only[yd]at h ⊢;exact h
 | .str y,x,_,h=>by simp only[yd]at h ⊢;exact h
 | .tp k vs,x,q,h=>by
  simp only[yd]at h ⊢
  obtain⟨a,xs,e,r,l⟩:=h
  refine⟨a,xs,e,?_,yh.inn hn vs xs (by simpa only[noLoc] using q) l⟩
  rcases r with⟨r,b,n⟩|r
  ·exact .inl ⟨r,λz=>z.elim b n,by simp⟩
  ·exact .inr r
 | .lst vs,x,q,h=>by
  simp only[yd]at h ⊢
  obtain⟨a,xs,e,⟨r,b,n⟩,l⟩:=h
  exact⟨a,xs,e,⟨r,λz=>z.elim b n,by simp⟩,yh.inn hn vs xs (by simpa only[noLoc] using q) l⟩
 | .loc n,x,q,h=>by simp[noLoc]at q
 | .exn c,x,q,h=>by simp[noLoc]at q
 | .scr vs,x,q,h=>by
  simp only[yd]at h ⊢
  obtain⟨a,xs,e,r,l⟩:=h
  refine⟨a,xs,e,?_,yh.inn hn vs xs (by simpa only[noLoc] using q) l⟩
  rcases r with⟨r,b,n⟩|r
  ·exact .inl ⟨r,λz=>z.elim b n,by simp⟩
  ·exact .inr r
theorem yh.inn (hn:∀a,some a∈φ->¬B a):∀(v:List PV) (x:List V),noLocs v=true->yh K cl B φ H v x->yh K cl (λa=>B a \/ some a∈φ) [] H v x
 | [],x,_,h=>by simp only[yh]at h ⊢;exact h
 |v::vs,x,q,h=>by
  simp only[yh]at h ⊢
  simp only[noLocs,Bool.and_eq_true]at q
  obtain⟨y,ys,e,r,l⟩:=h
  exact⟨y,ys,e,yd.inn hn v y q.1 r,yh.inn hn vs ys q.2 l⟩
end
mutual
theorem yd.out {ψ:Ph}:∀(v:PV) (x:V),noLoc v=true->yd K cl (λa=>B a \/ some a∈φ) ψ H v x->yd K cl B φ H v x
 | .non,x,_,h=>by simp only[yd]at h ⊢;exact h
 | .bl b,x,_,h=>by simp only[yd]at h ⊢;exact h
 | .int i,x,_,h=>by simp only[yd]at h ⊢;exact h
 | .str y,x,_,h=>by simp only[yd]at h ⊢;exact h
 | .tp k vs,x,q,h=>by
  simp only[yd]at h ⊢
  obtain⟨a,xs,e,r,l⟩:=h
  refine⟨a,xs,e,?_,yh.out vs xs (by simpa only[noLoc] using q) l⟩
  rcases r with⟨r,b,n⟩|r
  ·exact .inl ⟨r,λz=>b (.inl z),λz=>b (.inr z)⟩
  ·exact .inr r
 | .lst vs,x,q,h=>by
  simp only[yd]at h ⊢
  obtain⟨a,xs,e,⟨r,b,n⟩,l⟩:=h
  exact⟨a,xs,e,⟨r,λz=>b (.inl z),λz=>b (.inr z)⟩,yh.out vs xs (by simpa only[noLoc] using q) l⟩
 | .loc n,x,q,h=>by simp[noLoc]at q
 | .exn c,x,q,h=>by simp[noLoc]at q
 | .scr vs,x,q,h=>by
  simp only[yd]at h ⊢
  obtain⟨a,xs,e,r,l⟩:=h
  refine⟨a,xs,e,?_,yh.out vs xs (by simpa only[noLoc] using q) l⟩
  rcases r with⟨r,b,n⟩|r
  ·exact .inl ⟨r,λz=>b (.inl z),λz=>b (.inr z)⟩
  ·exact .inr r
theorem yh.out {ψ:Ph}:∀(v:List PV) (x:List V),noLocs v=true->yh K cl (λa=>B a \/ some a∈φ) ψ H v x->yh K cl B φ H v x
 | [],x,_,h=>by simp only[yh]at h ⊢;exact h
 |v::vs,x,q,h=>by
  simp only[yh]at h ⊢
  simp only[noLocs,Bool.and_eq_true]at q
  obtain⟨y,ys,e,r,l⟩:=h
  exact⟨y,ys,e,yd.out v y q.1 r,yh.out vs ys q.2 l⟩
end
theorem yh.length:∀{v:List PV} {x:List V},yh K cl B φ H v x->v.length=x.length
 | [],x,h=>by simp only[yh]at h;subst h;rfl
 |v::vs,x,h=>by
  simp only[yh]at h
  obtain⟨y,ys,rfl,_,l⟩:=h
  simp[yh.length l]
theorem DK.step (s:Step φ H φ' H'):∀{kvs:List (PV×PV)} {ks:List (Key×V)},DK K cl B φ H kvs ks->DK K cl B φ' H' kvs ks
 | [],ks,h=>h
 | (k,v)::r,ks,h=>by
  obtain⟨q,x,t,e,m,rv,l⟩:=h
  exact⟨q,x,t,e,m,rv.step s,DK.step s l⟩
theorem DT.step (s:Step φ H φ' H'):∀{kvs:List (PV×PV)} {ks:List (List Key×V)},DT K cl B φ H kvs ks->DT K cl B φ' H' kvs ks
 | [],ks,h=>h
 | (k,v)::r,ks,h=>by
  obtain⟨q,x,t,e,m,rv,l⟩:=h
  exact⟨q,x,t,e,m,rv.step s,DT.step s l⟩
theorem FS.step (s:Step φ H φ' H'):∀{kvs:List (Str×PV)} {ks:List (Str×V)},FS K cl B φ H kvs ks->FS K cl B φ' H' kvs ks
 | [],ks,h=>h
 | (k,v)::r,ks,h=>by
  obtain⟨x,t,e,rv,l⟩:=h
  exact⟨x,t,e,rv.step s,FS.step s l⟩
theorem ybU.step (s:Step φ H φ' H'){o:Ob}{a:Addr}(e:H' a=H a)(r:ybU K cl B φ H o a):ybU K cl B φ' H' o a:=by
 cases o with
 |lst vs =>
  obtain⟨xs,q,l⟩:=r
  exact⟨xs,e.trans q,l.step s⟩
 |dct t kvs =>
  cases t with
  |false=>obtain⟨ks,q,l⟩:=r;exact⟨ks,e.trans q,l.step s⟩
  |true=>obtain⟨ks,q,l⟩:=r;exact⟨ks,e.trans q,l.step s⟩
 |dead=>exact r
 |ins c fs=>obtain⟨ks,⟨dx,q⟩,l⟩:=r;exact⟨ks,⟨dx,e.trans q⟩,l.step s⟩
theorem ybU.there {o:Ob}{a:Addr}(r:ybU K cl B φ H o a):∃u,H a=some u:=by
 cases o with
 |lst vs=>obtain⟨xs,q,l⟩:=r;exact⟨_,q⟩
 |dct t kvs=>cases t <;> (obtain⟨ks,q,l⟩:=r;exact⟨_,q⟩)
 |dead=>exact r.elim
 |ins c fs=>obtain⟨ks,⟨dx,q⟩,l⟩:=r;exact⟨_,q⟩
theorem yp.there (S:yp K cl B φ H st){a:Addr}(h:some a∈φ):∃u,H a=some u:=by
 obtain⟨n,e⟩:=List.mem_iff_getElem?.mp h
 obtain⟨o,_,r⟩:=S.obj n a e
 exact r.there
theorem Step.upd {p:Addr}{o:HO}(hp:H p=none):Step φ H φ (upd H p o) :=
 ⟨λb u n e=>by rw[zd (zh e hp)];exact e,Nat.le_refl _,λ_ _ _ e=>e,λ_ h=>.inl h⟩
theorem yp.same (S:yp K cl B φ H st)(k:∀b o,H b=some o->H' b=some o):yp K cl B φ H' st:=by
 have s:Step φ H φ H':=⟨λb o _ e=>k b o e,Nat.le_refl _,λ_ _ _ e=>e,λ_ h=>.inl h⟩
 refine⟨S.len,S.inj,λn a e=>?_,S.liv,S.nb,λa h=>?_⟩
 ·obtain⟨o,q,r⟩:=S.obj n a e
  obtain⟨u,z⟩:=r.there
  exact⟨o,q,r.step s ((k a u z).trans z.symm)⟩
 ·obtain⟨o,q⟩:=S.dom a h
  exact⟨o,k a o q⟩
theorem yp.upd {p:Addr}{o:HO}(S:yp K cl B φ H st)(hp:H p=none):yp K cl B φ (upd H p o) st:=S.same λb u e=>by rw[zd (zh e hp)];exact e
mutual
theorem yd.moreB {B':Addr->Prop}(hn:∀y,B' y->B y \/ H y=none):∀(v:PV) (x:V),yd K cl B φ H v x->yd K cl B' φ H v x
 | .non,x,h=>by simp only[yd]at h ⊢;exact h
 | .bl b,x,h=>by simp only[yd]at h ⊢;exact h
 | .int i,x,h=>by simp only[yd]at h ⊢;exact h
 | .str y,x,h=>by simp only[yd]at h ⊢;exact h
 | .tp k vs,x,h=>by
  simp only[yd]at h ⊢
  obtain⟨y,xs,e,r,l⟩:=h
  refine⟨y,xs,e,?_,yh.moreB hn vs xs l⟩
  rcases r with⟨r,b,n⟩|r
  ·exact .inl ⟨r,λz=>(hn y z).elim b λq=>(by rw[q]at r;cases r),n⟩
  ·exact .inr r
 | .lst vs,x,h=>by
  simp only[yd]at h ⊢
  obtain⟨y,xs,e,⟨r,b,n⟩,l⟩:=h
  exact⟨y,xs,e,⟨r,λz=>(hn y z).elim b λq=>(by rw[q]at r;cases r),n⟩,yh.moreB hn vs xs l⟩
 | .loc n,x,h=>by simp only[yd]at h ⊢;exact h
 | .exn c,x,h=>by
  simp only[yd]at h ⊢
  obtain⟨y,e,r,b,n⟩:=h
  exact⟨y,e,r,λz=>(hn y z).elim b λq=>(by rw[q]at r;cases r),n⟩
 | .scr vs,x,h=>by
  simp only[yd]at h ⊢
  obtain⟨y,xs,e,r,l⟩:=h
  refine⟨y,xs,e,?_,yh.moreB hn vs xs l⟩
  rcases r with⟨r,b,n⟩|r
  ·refine .inl ⟨r,λz=>(hn y z).elim b λq=>?_,n⟩
   rcases r with r|⟨o,r⟩ <;> (rw[q]at r;cases r)
  ·exact .inr r
theorem yh.moreB {B':Addr->Prop}(hn:∀y,B' y->B y \/ H y=none):∀(v:List PV) (x:List V),yh K cl B φ H v x->yh K cl B' φ H v x
 | [],x,h=>by simp only[yh]at h ⊢;exact h
 |v::vs,x,h=>by
  simp only[yh]at h ⊢
  obtain⟨y,ys,e,r,l⟩:=h
  exact⟨y,ys,e,yd.moreB hn v y r,yh.moreB hn vs ys l⟩
end
end
end L2
namespace L2
open PySem PySem.Spec PyProof.Rows
def CXH (X:Cx)(H:Hp)(s:Shared)(E:XK)(e:Value)(s':Shared):Prop :=
 ∃(C a:Addr) (cls a0 fl:Value) (H':Hp) (B:Heap),X.s₀.heap.objs.size<=C/\e=.ref a/\s'.os=s.os/\AllBare s'.gens /\
  (B.StaysIn s'.heap/\B.get? a=none/\s'.heap.FunFrames B X.stack/\s'.heap.TracedAtW B a cls a0 fl)/\HOk X.prog X.w H' s'.heap/\Un (frs X.stack) [C] H H' s.heap s'.heap /\
  (∀b o,s.heap.get? b=some o->H b=none->b∉frs X.stack->b≠C->B.get? b=some o)/\(∀b u,H' b=some u->∃o,B.get? b=some o)/\(∀b o,s.heap.get? b=some o->b∉frs X.stack->b≠C->∃o',B.get? b=some o')/\E cls none H'
theorem CXH.mono {X:Cx}{H:Hp}{s:Shared}{E E':XK}{e:Value}{s':Shared}(h:CXH X H s E e s')(n:∀cls H',E cls none H'->E' cls none H'):CXH X H s E' e s':=by
 obtain⟨C,a,cls,a0,fl,H',B,r1,r2,r3,r4,r5,r6,r7,r8,r9,r10,r11⟩:=h
 exact⟨C,a,cls,a0,fl,H',B,r1,r2,r3,r4,r5,r6,r7,r8,r9,r10,n _ _ r11⟩
section
variable {M:Model}{A:Around}{E:Value->Shared->Prop}{s:Shared}
theorem zeX {base:Heap}{env:Env}{outer:List Env}{L e:Addr}{cls a0 fl:Value}{Q:Unit->Shared->Prop}
  (hfr:A.frames=some (env::outer)) (hf:env.frame=some L) (f1:base.StaysIn s.heap) (f2:base.get? e=none) (f3:s.heap.FunFrames base (env::outer)) (f4:s.heap.TracedAtW base e cls a0 fl)
  (hQ:∀h',Heap.FlyingW base outer e cls a0 h'->s.heap.UpToSlots h'->Q () { s with heap:=h' }):wpAny M A (leaving env (.ref e)) Q E s:=by
 by_cases hfl:fl=rawInt L
 ·subst hfl
  unfold leaving
  refine wpAny_bind (wpAny_noteFrame_againW hf f4 ?_)
  refine wpAny_landsW ⟨f1,f2,f3,f4⟩ λh' hfl up=>?_
  obtain⟨k1,k2,⟨_,_,k3⟩,k4⟩:=hfl
  exact hQ h' ⟨k1,k2,k3,k4⟩ up
 ·obtain⟨oe,vs,T,oT,ts,he,⟨hcls,h0⟩,hd,h1,hnT,hTe,hT,hdT,h3⟩:=f4
  subst hcls
  unfold leaving noteFrame
  simp only[hf]
  refine wpAny_bind (wpAny_bind (wpAny_field he hd h1 ?_))
  rw[if_pos (show (Value.ref T != Value.none)=true from by simp)]
  refine wpAny_bind (wpAny_field hT hdT h3 ?_)
  rw[if_neg (show ¬((fl == rawInt L)=true)from λz=>hfl (eq_of_beq z))]
  refine wpAny_bind (wpAny_setField hT hdT (Array.getElem?_eq_some_iff.mp h3).1 ?_)
  have other:∀b,b≠T->(s.heap.update T (Obj.mapFields (·.setIfInBounds 3 Value.none))).get? b=s.heap.get? b:=λb hb=>Heap.get?_update_other _ _ (Ne.symm hb)
  have noRecord:∀b o,s.heap.get? b=some o->(∀vs,o.data ≠ .fields vs)->b≠T:=λb o hb hnf q=>by
   rw[q,hT]at hb;injection hb with hb;subst hb;exact hnf ts hdT
  refine wpAny_newEntryW hfr (f3.of_keeps λb o hb hnf=>⟨o,(other b (noRecord b o hb hnf)).trans hb,rfl⟩) hf ((other e (Ne.symm hTe)).trans he)
   (λb o hbo=>(other b λq=>by rw[q,hnT]at hbo;cases hbo).trans (f1 b o hbo)) f2 hd (Array.getElem?_eq_some_iff.mp h1).1 h0
   λh' ⟨x1,⟨_,_,x2⟩,x3,x4⟩=>hQ h' ⟨x1,f2,x2,x3⟩ λb o hb hnf=>x4 b o ((other b (noRecord b o hb hnf)).trans hb) hnf
end
section
variable {P:Program}{w:World}{K:PySem.W.Frag}{mg:Str->Option Value}{base:Heap}{N:List Str}{qual:Str}{scope:Scope}{f:Addr}{cd:Value}{A:Around}{outer:List Env}{s₀:Shared}{H₀:Hp}{E:XK}
theorem ydP {pins:List (Addr×Obj)}{σ:St}{H:Hp}{s:Shared}{e:Value}{s':Shared}(I:Inv (yaP (CX1 P w) P w K mg base N qual scope f cd A outer s₀ H₀ E) pins σ H s)(h:CXH (yaP (CX1 P w) P w K mg base N qual scope f cd A outer s₀ H₀ E) H s E e s') :
  (yaP (CX1 P w) P w K mg base N qual scope f cd A outer s₀ H₀ E).xe e s':=by
 obtain⟨C,a,cls,a0,fl,H',B,hC,rfl,os,bare,⟨f1,f2,f3,f4⟩,hok,un,hB,tr,hT,hE⟩:=h
 have bse:Un (frs outer) [] H₀ H s₀.heap s.heap:=I.base
 have lt:∀b o,s₀.heap.get? b=some o->b≠s₀.heap.objs.size:=λb o q=>Nat.ne_of_lt (Heap.lt_size q)
 have neC:∀b o,s₀.heap.get? b=some o->b≠C:=λb o q=>Nat.ne_of_lt (Nat.lt_of_lt_of_le (Heap.lt_size q) hC)
 have niC:∀b o,s₀.heap.get? b=some o->b∉[C]:=λb o q z=>neC b o q (by simpa using z)
 have hst:∀b,b∈frs (envOfC qual scope s₀.heap.objs.size f cd::outer)->b=s₀.heap.objs.size \/ b∈frs outer:=λb hb=>by
  have hb':b∈s₀.heap.objs.size::frs outer:=hb
  exact List.mem_cons.mp hb'
 have un':Un (frs (envOfC qual scope s₀.heap.objs.size f cd::outer)) [C] H H' s.heap s'.heap:=un
 have kB:∀b o,s₀.heap.get? b=some o->H₀ b=none->b∉frs outer->B.get? b=some o:=λb o q n hb=>hB b o (bse.keep b o q n hb (by simp)) (bse.free b o q n (by simp)) (λz=>by
  rcases hst b z with z|z
  ·exact lt b o q z
  ·exact hb z) (neC b o q)
 have kT:∀b o,s₀.heap.get? b=some o->b∉frs outer->∃o',B.get? b=some o':=λb o q hb=>by
  obtain⟨o',q1⟩:=bse.there b o q (by simp)
  refine hT b o' q1 (λz=>?_) (neC b o q)
  rcases hst b z with z|z
  ·exact lt b o q z
  ·exact hb z
 refine zeX I.ok.frames rfl f1 f2 f3 f4 λh'' fl' up=>?_
 refine⟨a,cls,a0,H',B,rfl,os.trans I.os,bare,fl',HOk.inB hok f1 fl'.1 tr,⟨λb o q n hb _=>fl'.1 b o (kB b o q n hb),λb o q n hb _=>?_,λb o q n _=>?_,λb o q _=>?_,λb xs q=>un'.tups b xs (bse.tups b xs q),λb o u q=>un'.frzs b o u (bse.frzs b o u q),λb ps q=>?_⟩,kB,tr,kT,hE⟩
 ·obtain⟨sl,q1⟩:=bse.slot b o q n hb (by simp)
  have n1:=bse.free b o q n (by simp)
  obtain⟨sl1,q2⟩:=un'.slot b _ q1 n1 (List.mem_cons_of_mem _ hb) (niC b o q)
  obtain⟨_,o',ho',hd⟩:=Heap.FunFrames.mem f3 (show b∈List.filterMap (λ(z:Env)=>z.frame) _ from List.mem_cons_of_mem _ hb)
  obtain⟨sl',q3⟩:=up b _ q2 (by rw[ho']at q2;cases q2;exact hd)
  exact⟨sl',q3⟩
 ·obtain⟨o',q1⟩:=bse.there b o q (by simp)
  exact un'.free b o' q1 (bse.free b o q n (by simp)) (niC b o q)
 ·obtain⟨o',q1⟩:=bse.there b o q (by simp)
  obtain⟨o2,q2⟩:=un'.there b o' q1 (niC b o q)
  by_cases hb:b∈frs outer
  ·obtain⟨_,o3,ho3,hd⟩:=Heap.FunFrames.mem f3 (show b∈List.filterMap (λ(z:Env)=>z.frame) _ from List.mem_cons_of_mem _ hb)
   obtain⟨sl',q3⟩:=up b _ ho3 hd
   exact⟨_,q3⟩
  ·obtain⟨o4,q4⟩:=kT b o q hb
   exact⟨o4,fl'.1 b o4 q4⟩
 ·obtain⟨m1,e1⟩:=bse.tbls b ps q
  obtain⟨m2,e2⟩:=un'.tbls b _ e1
  exact⟨m1++m2,by rw[e2,Array.append_assoc]⟩
end
section
variable {pg:Program}{wd:World}{A:Around}{R:Result->Shared->Prop}{s:Shared}
end
section
variable {X:Cx}{sc:Scope}{NC:List Str}{slots:List (Option Nat)}{elt tg iter:Expr}{ifs:List Expr}{pos:Pos}{g:TG}{ti:TT}{te:CI->TE}{E:XK}
end
end L2
namespace L2
open PySem PySem.Spec PyProof.Rows IC
structure Se where
 cl:Nat->Addr
 call:Nat->List PV->Store->R PV
 may:Bool
section
variable (S:Se)(X:Cx)
def ExcAt (σ:St)(B:Addr->Prop)(φ:Ph)(H:Hp)(k:Nat)(st':Store)(e:Value)(s':Shared):Prop :=
 (∃pins H1 s φ1,Inv X pins σ H1 s/\Step φ H φ1 H1/\CX1 X.prog X.w X.stack H1 s (λcls _ H'=>cls=.ref (S.cl k)/\∃φ',Step φ1 H1 φ' H'/\yp X.K S.cl B φ' H' st') e s') \/
 (S.may=true/\∃pins H1 s φ1 h' e0 vs,Inv X pins σ H1 s/\Step φ H φ1 H1/\yp X.K S.cl B φ1 H1 st'/\Heap.MadeExcOf s.heap h' e0 (.ref (S.cl k)) vs/\e=.ref e0/\s'={ s with heap:=h' }) \/
 (S.may=true/\∃pins H1 s,Inv X pins σ H1 s/\CXH X H1 s (λcls _ H'=>cls=.ref (S.cl k)/\∃φ',Step φ H φ' H'/\yp X.K S.cl B φ' H' st') e s')
def Run {α β:Type}(σ:St)(B:Addr->Prop)(φ:Ph)(H:Hp)(Rel:Ph->Hp->α->β->Prop)(r:R α)(Q:β->Hp->Prop):Prop :=
 match r with
 | .ok v st'=>∀x H' φ',Step φ H φ' H'->yp X.K S.cl B φ' H' st'->Rel φ' H' v x->Q x H'
 | .exc k st'=>∀e s',ExcAt S X σ B φ H k st' e s'->X.xe e s'
 | .bad=>False
abbrev RV (B:Addr->Prop):Ph->Hp->PV->V->Prop:=λφ H=>yd X.K S.cl B φ H
abbrev RL (B:Addr->Prop):Ph->Hp->List PV->List V->Prop:=λφ H=>yh X.K S.cl B φ H
noncomputable abbrev RB:Ph->Hp->Bool->Bool->Prop:=λ_ _ b c=>b=c
def tE (c:Ce):TE:=λσ H Q=>∃B φ st ρ,yp X.K S.cl B φ H st/\yG X.K S.cl B φ H ρ σ/\Run S X σ B φ H (RV S X B) (ev S.call ρ st c) Q
def tAs (c:Ces):TA:=λσ H Q=>∃B φ st ρ,yp X.K S.cl B φ H st/\yG X.K S.cl B φ H ρ σ/\Run S X σ B φ H (RL S X B) (evs S.call ρ st c) Q
def yaX (r:R PV):R Bool:=r.bind λx st=>onO (yaD st x) λb=>.ok b st
def tTs (c:Ce):TT:=λσ H Q=>∃B φ st ρ,yp X.K S.cl B φ H st/\yG X.K S.cl B φ H ρ σ/\Run S X σ B φ H RB (yaX (ev S.call ρ st c)) Q
end
section
variable {S:Se}{X:Cx}{σ:St}{B:Addr->Prop}{φ φ1:Ph}{H H1:Hp}
theorem ExcAt.back {k:Nat}{st':Store}{e:Value}{s':Shared}(s:Step φ H φ1 H1)(h:ExcAt S X σ B φ1 H1 k st' e s'):ExcAt S X σ B φ H k st' e s':=by
 rcases h with⟨pins,H2,t,φ2,I,q,c⟩|⟨m,pins,H2,t,φ2,h',e0,vs,I,q,c⟩|⟨m,pins,H2,t,I,c⟩
 ·exact .inl ⟨pins,H2,t,φ2,I,s.trans q,c⟩
 ·exact .inr (.inl ⟨m,pins,H2,t,φ2,h',e0,vs,I,s.trans q,c⟩)
 ·exact .inr (.inr ⟨m,pins,H2,t,I,c.mono λcls H' ⟨e1,φ',s2,r⟩=>⟨e1,φ',s.trans s2,r⟩⟩)
variable {α β γ δ:Type}{Rel:Ph->Hp->α->β->Prop}{Rel2:Ph->Hp->γ->δ->Prop}
theorem Run.on {r:R α}{Q:β->Hp->Prop}(s:Step φ H φ1 H1)(h:Run S X σ B φ H Rel r Q):Run S X σ B φ1 H1 Rel r Q:=by
 cases r with
 |ok v st'=>exact λx H' φ' t=>h x H' φ' (s.trans t)
 |exc k st'=>exact λe s' x=>h e s' (x.back s)
 |bad=>exact h
theorem Run.mono {r:R α}{Q Q':β->Hp->Prop}(h:Run S X σ B φ H Rel r Q)(k:∀x H',Q x H'->Q' x H'):Run S X σ B φ H Rel r Q':=by
 cases r with
 |ok v st'=>exact λx H' φ' t rs rv=>k x H' (h x H' φ' t rs rv)
 |exc c st'=>exact h
 |bad=>exact h
theorem Run.bind {r:R α}{k:α->Store->R γ}{Q:δ->Hp->Prop}(h:Run S X σ B φ H Rel2 (r.bind k) Q) :
  Run S X σ B φ H Rel r λx H1=>∃v st1 φ1,Step φ H φ1 H1/\yp X.K S.cl B φ1 H1 st1/\Rel φ1 H1 v x/\Run S X σ B φ1 H1 Rel2 (k v st1) Q:=by
 cases r with
 |ok v st'=>exact λx H' φ' t rs rv=>⟨v,st',φ',t,rs,rv,Run.on t h⟩
 |exc c st'=>exact h
 |bad=>exact h
theorem Run.ok {v:α}{st:Store}{Q:β->Hp->Prop}(h:Run S X σ B φ H Rel (.ok v st) Q)(rs:yp X.K S.cl B φ H st){x:β}(rv:Rel φ H v x):Q x H:=h x H φ .rfl rs rv
theorem PE.imp {e:Expr}{t t':TE}(h:PE X e t')(k:∀σ H Q,t σ H Q->t' σ H Q):PE X e t:=λpins s σ H Q I q=>h pins s σ H Q I (k σ H Q q)
theorem PT.imp {e:Expr}{t t':TT}(h:PT X e t')(k:∀σ H Q,t σ H Q->t' σ H Q):PT X e t:=λpins s σ H Q I q=>h pins s σ H Q I (k σ H Q q)
theorem PW.imp {e:Expr}{t t':TT}(h:PW X e t')(k:∀σ H Q,t σ H Q->t' σ H Q):PW X e t:=λwh pins s σ H Q I q=>h wh pins s σ H Q I (k σ H Q q)
theorem PA.imp {e:List Expr}{t t':TA}(h:PA X e t')(k:∀σ H Q,t σ H Q->t' σ H Q):PA X e t:=λpos pins s σ H Q I q=>h pos pins s σ H Q I (k σ H Q q)
theorem tE.bind {c:Ce}{ρ:IC.Env}{st:Store}{k:PV->Store->R γ}{Q:δ->Hp->Prop}{P:V->Hp->Prop}(rs:yp X.K S.cl B φ H st)(re:yG X.K S.cl B φ H ρ σ)(h:Run S X σ B φ H Rel2 ((ev S.call ρ st c).bind k) Q)
  (n:∀x H1 v st1 φ1,Step φ H φ1 H1->yp X.K S.cl B φ1 H1 st1->yG X.K S.cl B φ1 H1 ρ σ->yd X.K S.cl B φ1 H1 v x->Run S X σ B φ1 H1 Rel2 (k v st1) Q->P x H1):tE S X c σ H P :=
 ⟨B,φ,st,ρ,rs,re,(Run.bind h).mono λx H1 ⟨v,st1,φ1,s,rs1,rv,h1⟩=>n x H1 v st1 φ1 s rs1 (re.step s) rv h1⟩
theorem tAs.bind {c:Ces}{ρ:IC.Env}{st:Store}{k:List PV->Store->R γ}{Q:δ->Hp->Prop}{P:List V->Hp->Prop}(rs:yp X.K S.cl B φ H st)(re:yG X.K S.cl B φ H ρ σ)(h:Run S X σ B φ H Rel2 ((evs S.call ρ st c).bind k) Q)
  (n:∀x H1 v st1 φ1,Step φ H φ1 H1->yp X.K S.cl B φ1 H1 st1->yG X.K S.cl B φ1 H1 ρ σ->yh X.K S.cl B φ1 H1 v x->Run S X σ B φ1 H1 Rel2 (k v st1) Q->P x H1):tAs S X c σ H P :=
 ⟨B,φ,st,ρ,rs,re,(Run.bind h).mono λx H1 ⟨v,st1,φ1,s,rs1,rv,h1⟩=>n x H1 v st1 φ1 s rs1 (re.step s) rv h1⟩
variable {i:Int}{b:Bool}{x:Str}{j:Nat}{pos:Pos}{e a a':Expr}{c ca cb cc:Ce}
theorem zj6:PE X (.Constant (.int i) j pos) (tE S X (.cst (.int i))):=ybQ.imp λσ H Q ⟨B,φ,st,ρ,rs,re,h⟩=>by
 simp only[ev]at h
 exact h.ok rs (by simp only[yd])
theorem zoR:PE X (.Constant (.bool b) j pos) (tE S X (.cst (.bl b))):=ydW.imp λσ H Q ⟨B,φ,st,ρ,rs,re,h⟩=>by
 simp only[ev]at h
 exact h.ok rs (by simp only[yd])
theorem znM:PE X (.Constant .none j pos) (tE S X (.cst .non)):=ycM.imp λσ H Q ⟨B,φ,st,ρ,rs,re,h⟩=>by
 simp only[ev]at h
 exact h.ok rs (by simp only[yd])
theorem zmU:PE X (.Constant (.str x) j pos) (tE S X (.cst (.str x))):=yb9.imp λσ H Q ⟨B,φ,st,ρ,rs,re,h⟩=>by
 simp only[ev]at h
 exact h.ok rs (by simp only[yd])
theorem znT {i:Nat}(hN:X.N[i]?=some x)(hv:Vis X.env.scope x)(hd:(x == ("__debug__":Str))=false:=by decide)(hcd:(x == ("__classdict__":Str))=false:=by decide):PE X (.Name x pos) (tE S X (.var i)) :=
 (zml hN hv hd hcd).imp λσ H Q ⟨B,φ,st,ρ,rs,re,h⟩=>by
  simp only[ev]at h
  cases q:ρ[i]? with
  |none=>rw[q]at h;exact h.elim
  |some o =>
   cases o with
   |none=>rw[q]at h;exact h.elim
   |some v =>
    rw[q]at h
    obtain⟨y,hy,rv⟩:=re.get i v q
    exact⟨y,hy,h.ok rs rv⟩
theorem zkw {v:PV}{y:Addr}(hg:Gl X x)(hm:X.mg x=some (.ref y))(hk:∀B φ H,yd X.K S.cl B φ H v (.ref y))(hd:(x == ("__debug__":Str))=false:=by decide):PE X (.Name x pos) (tE S X (.cst v)) :=
 (zcP hg hm (show RelV (.ref y) (.ref y)from rfl) hd).imp λσ H Q ⟨B,φ,st,ρ,rs,re,h⟩=>by
  simp only[ev]at h
  exact h.ok rs (hk B φ H)
theorem zN {o:Option PV}{st:Store}{Q:VK}(h:Run S X σ B φ H (RV S X B) (toR o st) Q)(rs:yp X.K S.cl B φ H st):∃z,o=some z/\∀z' H' φ',Step φ H φ' H'->yp X.K S.cl B φ' H' st->yd X.K S.cl B φ' H' z z'->Q z' H':=by
 cases o with
 |none=>exact h.elim
 |some z=>exact⟨z,rfl,h⟩
def rT2 (S:Se)(X:Cx)(f:PV->PV->Option PV):R2:=λx y H Q=>∃B φ st v w z,yp X.K S.cl B φ H st/\yd X.K S.cl B φ H v x/\yd X.K S.cl B φ H w y/\f v w=some z /\
 ∀z' H' φ',Step φ H φ' H'->yp X.K S.cl B φ' H' st->yd X.K S.cl B φ' H' z z'->Q z' H'
theorem znz {op:Operator}{o:BOp}(ho:OpR X (binaryOp op) (rT2 S X (yC o)))(ha:PE X a (tE S X ca))(hb:PE X a' (tE S X cb)):PE X (.BinOp a op a' pos) (tE S X (.bin o ca cb)) :=
 (zoB ho ha hb).imp λσ H Q ⟨B,φ,st,ρ,rs,re,h⟩=>by
  simp only[ev]at h
  refine tE.bind rs re h λx H1 v st1 φ1 s1 rs1 re1 rv h1=>tE.bind rs1 re1 h1 λy H2 w st2 φ2 s2 rs2 re2 rw h2=>?_
  obtain⟨z,e,q⟩:=zN h2 rs2
  exact⟨B,φ2,st2,v,w,z,rs2,rv.step s2,rw,e,q⟩
theorem znK {op:CmpOp}{o:COp}(ho:OpR X (compareOp op) (rT2 S X (ye o)))(ha:PE X a (tE S X ca))(hb:PE X a' (tE S X cb))(hm:behindInMarks op a'=false):PE X (.Compare a [op] [a'] pos) (tE S X (.cmp o ca cb)) :=
 (zhK ho ha hb hm).imp λσ H Q ⟨B,φ,st,ρ,rs,re,h⟩=>by
  simp only[ev]at h
  refine tE.bind rs re h λx H1 v st1 φ1 s1 rs1 re1 rv h1=>tE.bind rs1 re1 h1 λy H2 w st2 φ2 s2 rs2 re2 rw h2=>?_
  obtain⟨z,e,q⟩:=zN h2 rs2
  exact⟨B,φ2,st2,v,w,z,rs2,rv.step s2,rw,e,q⟩
end
section
variable {S:Se}{X:Cx}{σ:St}{B:Addr->Prop}{φ φ1:Ph}{H H1:Hp}{K:PySem.W.Frag}{cl:Nat->Addr}{st:Store}
theorem ybz.sq {k:Bool}{a:Addr}{xs:List V}(r:ybz K B φ H k a xs):SqT K H a xs:=by
 rcases r with⟨r,_⟩|r
 ·exact .inl (.inl r)
 ·exact .inr r.2
theorem yct.sq {a:Addr}{xs:List V}(r:yct B φ H a xs):SqL K H a xs:=.inl (.inl r.1)
theorem yd.tup_new {vs:List PV}{xs:List V}{p:Addr}(hp:H p=none)(rs:yp K cl B φ H st)(r:yh K cl B φ H vs xs):yd K cl B φ (upd H p (.tup xs)) (.tup vs) (.ref p):=by
 simp only[yd]
 refine⟨p,xs,rfl,.inl ⟨zj,λz=>?_,λz=>?_⟩,r.step (.upd hp)⟩
 ·obtain⟨o,e⟩:=rs.dom p z
  rw[hp]at e;cases e
 ·obtain⟨o,e⟩:=rs.there z
  rw[hp]at e;cases e
theorem yd.lst_new {vs:List PV}{xs:List V}{p:Addr}(hp:H p=none)(rs:yp K cl B φ H st)(r:yh K cl B φ H vs xs):yd K cl B φ (upd H p (.lst xs)) (.lst vs) (.ref p):=by
 simp only[yd]
 refine⟨p,xs,rfl,⟨zj,λz=>?_,λz=>?_⟩,r.step (.upd hp)⟩
 ·obtain⟨o,e⟩:=rs.dom p z
  rw[hp]at e;cases e
 ·obtain⟨o,e⟩:=rs.there z
  rw[hp]at e;cases e
theorem yh.append:∀{vs ws:List PV} {xs ys:List V},yh K cl B φ H vs xs->yh K cl B φ H ws ys->yh K cl B φ H (vs++ws) (xs++ys)
 | [],ws,xs,ys,h,q=>by simp only[yh]at h;subst h;exact q
 |v::vs,ws,xs,ys,h,q=>by
  simp only[yh]at h
  obtain⟨y,zs,rfl,r,l⟩:=h
  show yh K cl B φ H (v::(vs++ws)) (y::(zs++ys))
  simp only[yh]
  exact⟨y,zs++ys,rfl,r,yh.append l q⟩
theorem yh.get:∀{vs:List PV} {xs:List V} (j:Nat) {v:PV},yh K cl B φ H vs xs->vs[j]?=some v->∃x,xs[j]?=some x/\yd K cl B φ H v x
 | [],xs,j,v,h,e=>by simp at e
 |w::vs,xs,0,v,h,e=>by
  simp only[yh]at h
  obtain⟨y,zs,rfl,r,l⟩:=h
  simp at e;subst e
  exact⟨y,rfl,r⟩
 |w::vs,xs,j+1,v,h,e=>by
  simp only[yh]at h
  obtain⟨y,zs,rfl,r,l⟩:=h
  obtain⟨x,q1,q2⟩:=yh.get j l (by simpa using e)
  exact⟨x,by simpa using q1,q2⟩
theorem yh.drop:∀{vs:List PV} {xs:List V} (n:Nat),yh K cl B φ H vs xs->yh K cl B φ H (vs.drop n) (xs.drop n)
 |vs,xs,0,h=>by simpa using h
 | [],xs,n+1,h=>by simp only[yh]at h;subst h;simp[yh]
 |v::vs,xs,n+1,h=>by
  simp only[yh]at h
  obtain⟨y,ys,rfl,_,l⟩:=h
  simpa using yh.drop n l
theorem yh.take:∀{vs:List PV} {xs:List V} (n:Nat),yh K cl B φ H vs xs->yh K cl B φ H (vs.take n) (xs.take n)
 |vs,xs,0,h=>by simp[yh]
 | [],xs,n+1,h=>by simp only[yh]at h;subst h;simp[yh]
 |v::vs,xs,n+1,h=>by
  simp only[yh]at h
  obtain⟨y,ys,rfl,r,l⟩:=h
  simp only[List.take_succ_cons,yh]
  exact⟨y,ys.take n,rfl,r,yh.take n l⟩
theorem zc7 {f:Value->Value->Sem Value}{o:BOp}{C:Int->Int->Prop}{g:Int->Int->Int}(h:OpR X f (rI C λi j=>.int (g i j)))
  (hb:∀v w z,yC o v w=some z->∃i j,v=.int i/\w=.int j/\C i j/\z=.int (g i j)):OpR X f (rT2 S X (yC o)):=by
 rintro pins s σ H x y v u Q I rx ry ⟨B,φ,st,a,b,z,rs,ra,rb,e,q⟩
 obtain⟨i,j,rfl,rfl,hc,rfl⟩:=hb a b z e
 simp only[yd]at ra rb
 subst ra rb
 exact h pins s σ H _ _ v u Q I rx ry ⟨i,j,rfl,rfl,hc,q _ H φ .rfl rs (by simp only[yd])⟩
theorem zbB {f:Value->Value->Sem Value}{o:BOp}{g:Int->Int->Int}(h:OpR X f (rI0 λi j=>.int (g i j)))
  (hb:∀v w z,yC o v w=some z->∃i j,v=.int i/\w=.int j/\z=.int (g i j)):OpR X f (rT2 S X (yC o)):=by
 rintro pins s σ H x y v u Q I rx ry ⟨B,φ,st,a,b,z,rs,ra,rb,e,q⟩
 obtain⟨i,j,rfl,rfl,rfl⟩:=hb a b z e
 simp only[yd]at ra rb
 subst ra rb
 exact h pins s σ H _ _ v u Q I rx ry ⟨i,j,rfl,rfl,q _ H φ .rfl rs (by simp only[yd])⟩
theorem zkP (v w z:PV)(h:yC .sub v w=some z):∃i j,v=.int i/\w=.int j/\z=.int (i - j):=by
 unfold yC at h
 split at h <;> first|(cases h;done)|skip
 exact⟨_,_,rfl,rfl,(Option.some.inj h).symm⟩
theorem zk8 (v w z:PV)(h:yC .mul v w=some z):∃i j,v=.int i/\w=.int j/\yc5 i j/\z=.int (i*j):=by
 unfold yC at h
 split at h <;> first|(cases h;done)|skip
 rename_i i j
 simp only[IC.binI]at h
 split at h
 ·rename_i c
  refine⟨i,j,rfl,rfl,?_,(Option.some.inj h).symm⟩
  simp only[yau,Bool.or_eq_true,decide_eq_true_eq]at c
  unfold yc5
  rcases c with c|c
  ·left;constructor <;> omega
  ·right;constructor <;> omega
 ·cases h
theorem zjf (v w z:PV)(h:yC .fdiv v w=some z):∃i j,v=.int i/\w=.int j/\ydd i j/\z=.int (i / j):=by
 unfold yC at h
 split at h <;> first|(cases h;done)|skip
 rename_i i j
 simp only[IC.binI]at h
 split at h
 ·rename_i c
  exact⟨i,j,rfl,rfl,c,(Option.some.inj h).symm⟩
 ·cases h
theorem zkx (v w z:PV)(h:yC .mod v w=some z):∃i j,v=.int i/\w=.int j/\0<j/\z=.int (i%j):=by
 unfold yC at h
 split at h <;> first|(cases h;done)|skip
 rename_i i j
 simp only[IC.binI]at h
 split at h
 ·rename_i c
  exact⟨i,j,rfl,rfl,c,(Option.some.inj h).symm⟩
 ·cases h
theorem zkJ (v w z:PV)(h:yC .pow v w=some z):∃i j,v=.int i/\w=.int j/\yeU i j/\z=.int (i^j.toNat):=by
 unfold yC at h
 split at h <;> first|(cases h;done)|skip
 rename_i i j
 simp only[IC.binI]at h
 split at h
 ·rename_i c
  exact⟨i,j,rfl,rfl,⟨c.1,c.2.1,by have:=c.2.2;omega⟩,(Option.some.inj h).symm⟩
 ·cases h
theorem zjm (v w z:PV)(h:yC .band v w=some z):∃i j,v=.int i/\w=.int j/\z=.int (Builtin.bitAnd i j):=by
 unfold yC at h
 split at h <;> first|(cases h;done)|skip
 exact⟨_,_,rfl,rfl,(Option.some.inj h).symm⟩
theorem zkO (v w z:PV)(h:yC .bor v w=some z):∃i j,v=.int i/\w=.int j/\z=.int (Builtin.bitOr i j):=by
 unfold yC at h
 split at h <;> first|(cases h;done)|skip
 exact⟨_,_,rfl,rfl,(Option.some.inj h).symm⟩
theorem zjz (v w z:PV)(h:yC .bxor v w=some z):∃i j,v=.int i/\w=.int j/\z=.int (Builtin.bitXor i j):=by
 unfold yC at h
 split at h <;> first|(cases h;done)|skip
 exact⟨_,_,rfl,rfl,(Option.some.inj h).symm⟩
theorem zmR:OpR X (binaryOp .Sub) (rT2 S X (yC .sub)):=zbB znF zkP
theorem znD:OpR X (binaryOp .Mult) (rT2 S X (yC .mul)):=zc7 znn zk8
theorem zkA:OpR X (binaryOp .FloorDiv) (rT2 S X (yC .fdiv)):=zc7 ziR zjf
theorem zof:OpR X (binaryOp .Mod) (rT2 S X (yC .mod)):=zc7 znI zkx
theorem znr:OpR X (binaryOp .Pow) (rT2 S X (yC .pow)):=zc7 znV zkJ
theorem zkG:OpR X (binaryOp .BitAnd) (rT2 S X (yC .band)):=zbB zmm zjm
theorem zmy:OpR X (binaryOp .BitOr) (rT2 S X (yC .bor)):=zbB zoM zkO
theorem zlr:OpR X (binaryOp .BitXor) (rT2 S X (yC .bxor)):=zbB zmf zjz
theorem zo:sizeMax=sizeLine:=by rw[sizeLine_eq];rfl
theorem zlv:OpR X (binaryOp .Add) (λx y H Q=>∃a b ys,x=.ref a/\y=.ref b/\SqT X.K H a []/\SqT X.K H b ys/\Q (.ref b) H):=by
 intro pins s σ H x y v u Q I rx ry h
 obtain⟨a,b,ys,rfl,rfl,ha,hb,q⟩:=h
 cases rx
 cases ry
 obtain⟨its,r1,p1,_⟩:=I.tuple ha
 obtain⟨its2,r2,p2,_⟩:=I.tuple hb
 have:its=[]:=r1.nil_iff.mpr rfl
 subst this
 obtain⟨⟨cls,dd,data,sl⟩,ho,hc,n,hd⟩:=id p1
 obtain⟨⟨cls2,dd2,data2,sl2⟩,ho2,hc2,n2,hd2⟩:=id p2
 simp only at hc hd hc2 hd2
 subst hc hd hc2 hd2
 exact concat_meets ⟨_,ho,rfl⟩ ⟨_,ho2,rfl⟩ noFill_tuple_add seq_tuple_add PySem.F.slot_tuple_add PySem.F.entry_tuple_add (PySem.F.args_tuple_add_2 _ _)
   (tuple_addW0 a b [].toArray its2.toArray n n2 dd dd2 sl sl2 (by simp)) ⟨ho,ho2,⟨.ref b,H,I,rfl,q⟩⟩
theorem znl:OpR X (binaryOp .Add) (rT2 S X (yC .add)):=by
 rintro pins s σ H x y v u Q I rx ry ⟨B,φ,st,a,b,z,rs,ra,rb,e,q⟩
 unfold yC at e
 split at e
 ·rename_i i j
  simp only[yd]at ra rb
  subst ra rb
  cases e
  exact zl4 pins s σ H _ _ v u Q I rx ry ⟨i,j,rfl,rfl,q _ H φ .rfl rs (by simp only[yd])⟩
 ·rename_i i k
  simp only[yd]at ra rb
  subst ra rb
  cases e
  exact zhh pins s σ H _ _ v u Q I rx ry ⟨i,k,rfl,rfl,q _ H φ .rfl rs (by simp only[yd];cases k <;> rfl)⟩
 ·rename_i i j
  simp only[yd]at ra rb
  subst ra rb
  dsimp only at e
  split at e
  ·rename_i c
   cases e
   exact zgb pins s σ H _ _ v u Q I rx ry ⟨i,j,rfl,rfl,by rw[<- zo];exact c,q _ H φ .rfl rs (by simp only[yd])⟩
  ·cases e
 ·rename_i k1 vs k2 ws
  simp only[yd]at ra rb
  obtain⟨p,xs,rfl,r1,l1⟩:=ra
  obtain⟨p',ys,rfl,r2,l2⟩:=rb
  dsimp only at e
  split at e
  ·rename_i c
   cases e
   have n1:=l1.length
   have n2:=l2.length
   unfold ydk at q
   cases vs with
   |nil =>
    have:xs=[]:=by cases xs with|nil=>rfl|cons _ _=>simp at n1
    subst this
    refine zlv pins s σ H _ _ v u Q I rx ry ⟨p,p',ys,rfl,rfl,r1.sq,r2.sq,q _ H φ .rfl rs ?_⟩
    simp only[List.isEmpty_nil,if_true,yd]
    exact⟨p',ys,rfl,r2,l2⟩
   |cons v1 vr =>
    simp only[List.isEmpty_cons,Bool.false_eq_true,if_false]at q
    refine zlY pins s σ H _ _ v u Q I rx ry ⟨p,p',xs,ys,rfl,rfl,r1.sq,r2.sq,?_,by rw[<- zo];omega,λz=>?_,λz t ht=>?_⟩
    ·rintro rfl
     simp at n1
    ·subst z
     have:ws=[]:=by cases ws with|nil=>rfl|cons _ _=>simp at n2
     subst this
     simp only[List.isEmpty_nil,if_true]at q
     refine q _ H φ .rfl rs ?_
     simp only[yd]
     exact⟨p,xs,rfl,r1,l1⟩
    ·cases ws with
     |nil=>exact absurd (List.length_eq_zero_iff.mp n2.symm) z
     |cons w1 wr =>
      simp only[List.isEmpty_cons,Bool.false_eq_true,if_false]at q
      exact q _ _ φ (.upd ht) (rs.upd ht) (.tup_new ht rs (l1.append l2))
  ·cases e
 ·rename_i vs ws
  simp only[yd]at ra rb
  obtain⟨p,xs,rfl,r1,l1⟩:=ra
  obtain⟨p',ys,rfl,r2,l2⟩:=rb
  dsimp only at e
  split at e
  ·rename_i c
   cases e
   have n1:=l1.length
   have n2:=l2.length
   exact zl9 pins s σ H _ _ v u Q I rx ry ⟨p,p',xs,ys,rfl,rfl,r1.1,r2.1,by rw[<- zo];omega,λt ht=>q _ _ φ (.upd ht) (rs.upd ht) (.lst_new ht rs (l1.append l2))⟩
  ·cases e
 ·cases e
end
mutual
noncomputable def toD:PV->PyData
 | .non=>.none
 | .bl b=>.bool b
 | .int i=>.int i
 | .str x=>.str x
 | .tp _ xs=>.tuple (ybn xs)
 | .lst xs=>.list (ybn xs)
 |_=>.none
noncomputable def ybn:List PV->List PyData
 | []=>[]
 |x::xs=>toD x::ybn xs
end
mutual
theorem zgO:∀(v:PV) (n:Nat),shd n v=true->(toD v).canLay0=true/\(toD v).depth<=n
 | .non,n,h=>by simp[toD,PyData.canLay0,PyData.depth]
 | .bl b,n,h=>by simp[toD,PyData.canLay0,PyData.depth]
 | .int i,n,h=>by simp[toD,PyData.canLay0,PyData.depth]
 | .str x,n,h=>by
  simp only[shd]at h
  simp only[toD,PyData.canLay0,PyData.depth,Nat.zero_le,and_true]
  exact h
 | .tp _ xs,n,h=>by
  simp only[shd,Bool.and_eq_true,decide_eq_true_eq]at h
  obtain⟨q1,q2⟩:=zcR xs (n - 1) h.2
  simp only[toD,PyData.canLay0,PyData.depth]
  exact⟨q1,by omega⟩
 | .lst xs,n,h=>by
  simp only[shd,Bool.and_eq_true,decide_eq_true_eq]at h
  obtain⟨q1,q2⟩:=zcR xs (n - 1) h.2
  simp only[toD,PyData.canLay0,PyData.depth]
  exact⟨q1,by omega⟩
 | .loc k,n,h=>by simp[shd]at h
 | .exn k,n,h=>by simp[shd]at h
 | .scr xs,n,h=>by simp[shd]at h
theorem zcR:∀(v:List PV) (n:Nat),ybu n v=true->PyData.canLayAll0 (ybn v)=true/\PyData.depthAll (ybn v)<=n
 | [],n,h=>by simp[ybn,PyData.canLayAll0,PyData.depthAll]
 |v::vs,n,h=>by
  simp only[ybu,Bool.and_eq_true]at h
  obtain⟨q1,q2⟩:=zgO v n h.1
  obtain⟨q3,q4⟩:=zcR vs n h.2
  simp only[ybn,PyData.canLayAll0,PyData.depthAll,Bool.and_eq_true]
  exact⟨⟨q1,q3⟩,by omega⟩
end
theorem zam {v:PV}(h:shp v=true):SeqAt.shaped (toD v)=true:=by
 obtain⟨q1,q2⟩:=zgO v 60 h
 unfold SeqAt.shaped
 rw[q1,Bool.true_and,decide_eq_true_eq]
 omega
mutual
theorem zeF:∀(v w:PV) (n m:Nat),shd n v=true->shd m w=true->PyData.eqv (toD v) (toD w)=peq v w
 | .non,w,n,m,h,q=>by cases w <;> simp_all[toD,PyData.eqv,peq,shd]
 | .bl b,w,n,m,h,q=>by cases w <;> simp_all[toD,PyData.eqv,peq,shd,bi]
 | .int i,w,n,m,h,q=>by cases w <;> simp_all[toD,PyData.eqv,peq,shd,bi]
 | .str x,w,n,m,h,q=>by cases w <;> simp_all[toD,PyData.eqv,peq,shd]
 | .tp _ xs,.tp _ ys,n,m,h,q=>by
  simp only[shd,Bool.and_eq_true]at h q
  simp only[toD,PyData.eqv,peq]
  exact zcS xs ys (n - 1) (m - 1) h.2 q.2
 | .lst xs,.lst ys,n,m,h,q=>by
  simp only[shd,Bool.and_eq_true]at h q
  simp only[toD,PyData.eqv,peq]
  exact zcS xs ys (n - 1) (m - 1) h.2 q.2
 | .tp _ xs,.non,n,m,h,q=>by simp[toD,PyData.eqv,peq]
 | .tp _ xs,.bl _,n,m,h,q=>by simp[toD,PyData.eqv,peq]
 | .tp _ xs,.int _,n,m,h,q=>by simp[toD,PyData.eqv,peq]
 | .tp _ xs,.str _,n,m,h,q=>by simp[toD,PyData.eqv,peq]
 | .tp _ xs,.lst _,n,m,h,q=>by simp[toD,PyData.eqv,peq]
 | .lst xs,.non,n,m,h,q=>by simp[toD,PyData.eqv,peq]
 | .lst xs,.bl _,n,m,h,q=>by simp[toD,PyData.eqv,peq]
 | .lst xs,.int _,n,m,h,q=>by simp[toD,PyData.eqv,peq]
 | .lst xs,.str _,n,m,h,q=>by simp[toD,PyData.eqv,peq]
 | .lst xs,.tp _ _,n,m,h,q=>by simp[toD,PyData.eqv,peq]
 | .loc k,w,n,m,h,q=>by simp[shd]at h
 | .exn k,w,n,m,h,q=>by simp[shd]at h
 | .scr k,w,n,m,h,q=>by simp[shd]at h
 |v,.loc k,n,m,h,q=>by simp[shd]at q
 |v,.exn k,n,m,h,q=>by simp[shd]at q
 |v,.scr k,n,m,h,q=>by simp[shd]at q
theorem zcS:∀(v w:List PV) (n m:Nat),ybu n v=true->ybu m w=true->PyData.eqvAll (ybn v) (ybn w)=ybc v w
 | [],[],n,m,h,q=>by simp[ybn,PyData.eqvAll,ybc]
 | [],y::ys,n,m,h,q=>by simp[ybn,PyData.eqvAll,ybc]
 |x::xs,[],n,m,h,q=>by simp[ybn,PyData.eqvAll,ybc]
 |x::xs,y::ys,n,m,h,q=>by
  simp only[ybu,Bool.and_eq_true]at h q
  simp only[ybn,PyData.eqvAll,ybc]
  rw[zeF x y n m h.1 q.1,zcS xs ys n m h.2 q.2]
end
section
variable {S:Se}{X:Cx}{σ:St}{B:Addr->Prop}{φ φ1:Ph}{H H1:Hp}{st:Store}{pins:List (Addr×Obj)}{s:Shared}
mutual
theorem zaJ (I:Inv X pins σ H s):∀(v:PV) (n:Nat) (x:V) (u:Value),shd n v=true->yd X.K S.cl B φ H v x->RelV x u->∃as,Reads s.heap u (toD v) as
 | .non,n,x,u,h,r,q=>by
  simp only[yd]at r;subst r;cases (show u=Value.none from q);exact⟨_,.none⟩
 | .bl b,n,x,u,h,r,q=>by
  simp only[yd]at r;subst r;cases (show u=Value.bool b from q);exact⟨_,.bool b⟩
 | .int i,n,x,u,h,r,q=>by
  simp only[yd]at r;subst r;obtain⟨t,rfl⟩:=q;exact⟨_,.int i t⟩
 | .str y,n,x,u,h,r,q=>by
  simp only[yd]at r;subst r;obtain⟨t,rfl⟩:=q;exact⟨_,.str y t⟩
 | .tp _ vs,n,x,u,h,r,q=>by
  simp only[yd]at r
  obtain⟨a,xs,rfl,rt,l⟩:=r
  cases (show u=Value.ref a from q)
  simp only[shd,Bool.and_eq_true]at h
  obtain⟨its,rv,⟨o,g,c,k,d⟩,_⟩:=I.tuple rt.sq
  obtain⟨as,z⟩:=zcb I vs (n - 1) xs its h.2 l rv
  exact⟨as,.tuple g c d (by simpa using z)⟩
 | .lst vs,n,x,u,h,r,q=>by
  simp only[yd]at r
  obtain⟨a,xs,rfl,rt,l⟩:=r
  cases (show u=Value.ref a from q)
  simp only[shd,Bool.and_eq_true]at h
  obtain⟨its,rv,⟨o,k,g,c,_,d⟩,_⟩:=I.list (rt.sq (K:=X.K))
  obtain⟨as,z⟩:=zcb I vs (n - 1) xs its h.2 l rv
  exact⟨_,.list g c d (by simpa using z)⟩
 | .loc k,n,x,u,h,r,q=>by simp[shd]at h
 | .exn k,n,x,u,h,r,q=>by simp[shd]at h
 | .scr k,n,x,u,h,r,q=>by simp[shd]at h
theorem zcb (I:Inv X pins σ H s):∀(v:List PV) (n:Nat) (x:List V) (u:List Value),ybu n v=true->yh X.K S.cl B φ H v x->Vals x u->∃as,ReadsAll s.heap u (ybn v) as
 | [],n,x,u,h,r,q=>by
  simp only[yh]at r;subst r;cases q;exact⟨_,.nil⟩
 |v::vs,n,x,u,h,r,q=>by
  simp only[yh]at r
  obtain⟨y,ys,rfl,rv,l⟩:=r
  simp only[ybu,Bool.and_eq_true]at h
  cases q with
  |cons q1 q2 =>
   obtain⟨as,z1⟩:=zaJ I v n y _ h.1 rv q1
   obtain⟨bs,z2⟩:=zcb I vs n ys _ h.2 l q2
   exact⟨_,.cons z1 z2⟩
end
theorem zos (hu:X.A.units+64<cLine):OpR X (compareOp .Eq) (rT2 S X (ye .eq)):=by
 rintro pins s σ H x y v u Q I rx ry ⟨B,φ,st,a,b,z,rs,ra,rb,e,q⟩
 simp only[ye]at e
 split at e
 ·rename_i c
  rw[Bool.and_eq_true]at c
  cases e
  obtain⟨as,z1⟩:=zaJ (S:=S) I a 60 x v c.1 ra rx
  obtain⟨bs,z2⟩:=zaJ (S:=S) I b 60 y u c.2 rb ry
  refine eq_dataH z1 z2 (zam c.1) (zam c.2) hu ⟨.bl _,H,I,rfl,?_⟩
  rw[zeF a b 60 60 c.1 c.2]
  exact q _ H φ .rfl rs (by simp only[yd])
 ·cases e
theorem zou (hu:X.A.units+64<cLine):OpR X (compareOp .NotEq) (rT2 S X (ye .ne)):=by
 rintro pins s σ H x y v u Q I rx ry ⟨B,φ,st,a,b,z,rs,ra,rb,e,q⟩
 simp only[ye]at e
 split at e
 ·rename_i c
  rw[Bool.and_eq_true]at c
  cases e
  obtain⟨as,z1⟩:=zaJ (S:=S) I a 60 x v c.1 ra rx
  obtain⟨bs,z2⟩:=zaJ (S:=S) I b 60 y u c.2 rb ry
  refine ne_dataH z1 z2 (zam c.1) (zam c.2) hu ⟨.bl _,H,I,rfl,?_⟩
  rw[zeF a b 60 60 c.1 c.2]
  exact q _ H φ .rfl rs (by simp only[yd])
 ·cases e
theorem zhk {f:Value->Value->Sem Value}{o:COp}{g:Int->Int->Bool}(h:OpR X f (rI0 λi j=>.bl (g i j)))
  (hb:∀v w z,ye o v w=some z->∃i j,v=.int i/\w=.int j/\z=.bl (g i j)):OpR X f (rT2 S X (ye o)):=by
 rintro pins s σ H x y v u Q I rx ry ⟨B,φ,st,a,b,z,rs,ra,rb,e,q⟩
 obtain⟨i,j,rfl,rfl,rfl⟩:=hb a b z e
 simp only[yd]at ra rb
 subst ra rb
 exact h pins s σ H _ _ v u Q I rx ry ⟨i,j,rfl,rfl,q _ H φ .rfl rs (by simp only[yd])⟩
theorem zhL:OpR X (compareOp .LtE) (λx y H Q=>∃i j,x=.str i/\y=.str j/\Q (.bl (!decide (j.cps.toList<i.cps.toList))) H):=by
 intro pins s σ H x y v u Q I rx ry h
 obtain⟨i,j,rfl,rfl,q⟩:=h
 obtain⟨t,rfl⟩:=rx
 obtain⟨t',rfl⟩:=ry
 exact PySem.P.le_str (zcm I q rfl)
theorem zon:OpR X (compareOp .Lt) (rT2 S X (ye .lt)):=by
 rintro pins s σ H x y v u Q I rx ry ⟨B,φ,st,a,b,z,rs,ra,rb,e,q⟩
 simp only[ye]at e
 split at e
 ·rename_i i j
  simp only[yd]at ra rb
  subst ra rb
  cases e
  exact zot pins s σ H _ _ v u Q I rx ry ⟨i,j,rfl,rfl,q _ H φ .rfl rs (by simp only[yd])⟩
 ·rename_i i j
  simp only[yd]at ra rb
  subst ra rb
  cases e
  exact zht pins s σ H _ _ v u Q I rx ry ⟨i,j,rfl,rfl,q _ H φ .rfl rs (by simp only[yd])⟩
 ·cases e
theorem zoT:OpR X (compareOp .LtE) (rT2 S X (ye .le)):=by
 rintro pins s σ H x y v u Q I rx ry ⟨B,φ,st,a,b,z,rs,ra,rb,e,q⟩
 simp only[ye]at e
 split at e
 ·rename_i i j
  simp only[yd]at ra rb
  subst ra rb
  cases e
  exact zoI pins s σ H _ _ v u Q I rx ry ⟨i,j,rfl,rfl,q _ H φ .rfl rs (by simp only[yd])⟩
 ·rename_i i j
  simp only[yd]at ra rb
  subst ra rb
  cases e
  exact zhL pins s σ H _ _ v u Q I rx ry ⟨i,j,rfl,rfl,q _ H φ .rfl rs (by simp only[yd])⟩
 ·cases e
theorem zfv {o:COp}{g:Int->Int->Bool}(ho:∀v w,ye o v w=match v,w with
   | .int i,.int j=>ybA o i j
   | .str a,.str b=>yek o a b
   |_,_=>none) (hs:∀a b,yek o a b=none) (hg:∀i j,ybA o i j=some (.bl (g i j))) (v w z:PV) (h:ye o v w=some z):∃i j,v=.int i/\w=.int j/\z=.bl (g i j):=by
 rw[ho]at h
 split at h
 ·rename_i i j
  rw[hg]at h
  exact⟨i,j,rfl,rfl,(Option.some.inj h).symm⟩
 ·rw[hs]at h;cases h
 ·cases h
theorem zoy:OpR X (compareOp .Gt) (rT2 S X (ye .gt)):=zhk zol (zfv (λ_ _=>rfl) (λ_ _=>rfl) λ_ _=>rfl)
theorem zoz:OpR X (compareOp .GtE) (rT2 S X (ye .ge)):=zhk zoF (zfv (λ_ _=>rfl) (λ_ _=>rfl) λ_ _=>rfl)
theorem yd.isNon {K:PySem.W.Frag}{cl:Nat->Addr}{v:PV}{x:V}(r:yd K cl B φ H v x):decide (x=.non)=IC.isNon v:=by
 cases v with
 |loc n=>simp only[yd]at r;obtain⟨_,a,rfl,_⟩:=r;rfl
 |non=>simp only[yd]at r;subst r;rfl
 |bl b=>simp only[yd]at r;subst r;rfl
 |int b=>simp only[yd]at r;subst r;rfl
 |str b=>simp only[yd]at r;subst r;rfl
 |tp k vs=>simp only[yd]at r;obtain⟨a,xs,rfl,_⟩:=r;rfl
 |lst vs=>simp only[yd]at r;obtain⟨a,xs,rfl,_⟩:=r;rfl
 |exn vs=>simp only[yd]at r;obtain⟨a,rfl,_⟩:=r;rfl
 |scr vs=>simp only[yd]at r;obtain⟨a,xs,rfl,_⟩:=r;rfl
theorem ziT {M:Model}{A:Around}{E:Value->Shared->Prop}{s:Shared}{a b:Bool}{Q:Value->Shared->Prop}(h:Q (.bool (a == b)) s):wpAny M A (compareOp .Is (.bool a) (.bool b)) Q E s:=by
 have e:(Value.bool a == Value.bool b)=(a == b):=by cases a <;> cases b <;> rfl
 rw[<- e]at h
 exact wpAny_pure h
theorem zoE:OpR X (compareOp .Is) (rT2 S X (ye .is)):=by
 rintro pins s σ H x y v u Q I rx ry ⟨B,φ,st,a,b,z,rs,ra,rb,e,q⟩
 simp only[ye]at e
 split at e
 ·cases e
  simp only[yd]at rb
  exact zn9 pins s σ H _ _ v u Q I rx ry ⟨rb,q _ H φ .rfl rs (by simp only[yd];rw[ra.isNon])⟩
 ·rename_i k
  split at e
  ·rename_i j
   cases e
   simp only[yd]at ra rb
   subst ra rb
   cases (show v=Value.bool j from rx)
   cases (show u=Value.bool k from ry)
   exact ziT (zcm I (q _ H φ .rfl rs (by simp only[yd])) rfl)
  ·cases e
 ·cases e
theorem yd.flat {K:PySem.W.Frag}{cl:Nat->Addr}{v:PV}{x:V}(r:yd K cl B φ H v x)(h:IC.flat v=true):yaT x=true/\∀(w:PV) (y:V),IC.flat w=true->yd K cl B φ H w y->eqV x y=peq v w:=by
 cases v with
 |non =>
  simp only[yd]at r;subst r
  refine⟨rfl,λw y hw rw=>?_⟩
  cases w <;> first|(simp[IC.flat]at hw;done)|(simp only[yd]at rw;subst rw;simp[eqV,peq,bi])
 |bl b =>
  simp only[yd]at r;subst r
  refine⟨rfl,λw y hw rw=>?_⟩
  cases w <;> first|(simp[IC.flat]at hw;done)|(simp only[yd]at rw;subst rw;simp[eqV,peq,bi])
 |int b =>
  simp only[yd]at r;subst r
  refine⟨rfl,λw y hw rw=>?_⟩
  cases w <;> first|(simp[IC.flat]at hw;done)|(simp only[yd]at rw;subst rw;simp[eqV,peq,bi])
 |str b =>
  simp only[yd]at r;subst r
  refine⟨rfl,λw y hw rw=>?_⟩
  cases w <;> first|(simp[IC.flat]at hw;done)|(simp only[yd]at rw;subst rw;simp[eqV,peq,bi])
 |_=>simp[IC.flat]at h
theorem zbS {K:PySem.W.Frag}{cl:Nat->Addr}{v:PV}{x:V}(r:yd K cl B φ H v x)(h:IC.flat v=true):∀{vs:List PV} {xs:List V},yh K cl B φ H vs xs->vs.all IC.flat=true->xs.all yaT=true/\inV x xs=inL v vs
 | [],xs,l,_=>by simp only[yh]at l;subst l;exact⟨rfl,rfl⟩
 |w::vs,xs,l,f=>by
  simp only[yh]at l
  obtain⟨y,ys,rfl,rw,l⟩:=l
  rw[List.all_cons,Bool.and_eq_true]at f
  obtain⟨q1,q2⟩:=zbS r h l f.2
  obtain⟨q3,q4⟩:=rw.flat f.1
  refine⟨by rw[List.all_cons,q3,q1];rfl,?_⟩
  unfold inV at q2 ⊢
  rw[List.any_cons,q2,q4 v x h r]
  rfl
end
theorem zhD (a b:Str):(!(Builtin.Str.occurrences b a 0 b.length 1).isEmpty)=inS a b:=by
 rw[Bool.eq_iff_iff,StrLaws.found_iff]
 unfold inS
 rw[List.any_eq_true]
 constructor
 ·rintro⟨i,h1,h2⟩
  exact⟨i,by rw[List.mem_range];omega,by rw[Bool.and_eq_true,decide_eq_true_eq];exact⟨h1,h2⟩⟩
 ·rintro⟨i,_,h⟩
  rw[Bool.and_eq_true,decide_eq_true_eq]at h
  exact⟨i,h.1,h.2⟩
section
variable {S:Se}{X:Cx}{σ:St}{B:Addr->Prop}{φ φ1:Ph}{H H1:Hp}{st:Store}
theorem zor:OpR X (compareOp .In) (rT2 S X (ye .isin)):=by
 rintro pins s σ H x y v u Q I rx ry ⟨B,φ,st,a,b,z,rs,ra,rb,e,q⟩
 simp only[ye]at e
 split at e
 ·rename_i i j
  simp only[yd]at ra rb
  subst ra rb
  cases e
  exact zhR pins s σ H _ _ v u Q I rx ry ⟨i,j,rfl,rfl,by rw[zhD];exact q _ H φ .rfl rs (by simp only[yd])⟩
 ·rename_i l
  split at e
  ·rename_i c
   rw[Bool.and_eq_true]at c
   cases e
   simp only[yd]at rb
   obtain⟨p,xs,rfl,r,l'⟩:=rb
   obtain⟨q1,q2⟩:=zbS ra c.1 l' c.2
   exact zdU pins s σ H _ _ v u Q I rx ry ⟨p,xs,rfl,.inr r.sq,(ra.flat c.1).1,q1,q _ H φ .rfl rs (by simp only[yd];rw[<- q2];rfl)⟩
  ·cases e
 ·rename_i l
  split at e
  ·rename_i c
   rw[Bool.and_eq_true]at c
   cases e
   simp only[yd]at rb
   obtain⟨p,xs,rfl,r,l'⟩:=rb
   obtain⟨q1,q2⟩:=zbS ra c.1 l' c.2
   exact zdU pins s σ H _ _ v u Q I rx ry ⟨p,xs,rfl,.inl r.sq,(ra.flat c.1).1,q1,q _ H φ .rfl rs (by simp only[yd];rw[<- q2];rfl)⟩
  ·cases e
 ·cases e
theorem zjQ:OpR X (compareOp .NotIn) (rT2 S X (ye .notin)):=by
 rintro pins s σ H x y v u Q I rx ry ⟨B,φ,st,a,b,z,rs,ra,rb,e,q⟩
 simp only[ye]at e
 split at e
 ·rename_i i j
  simp only[yd]at ra rb
  subst ra rb
  cases e
  exact zdJ pins s σ H _ _ v u Q I rx ry ⟨i,j,rfl,rfl,by rw[zhD];exact q _ H φ .rfl rs (by simp only[yd])⟩
 ·rename_i l
  split at e
  ·rename_i c
   rw[Bool.and_eq_true]at c
   cases e
   simp only[yd]at rb
   obtain⟨p,xs,rfl,r,l'⟩:=rb
   obtain⟨q1,q2⟩:=zbS ra c.1 l' c.2
   exact zbk pins s σ H _ _ v u Q I rx ry ⟨p,xs,rfl,.inr r.sq,(ra.flat c.1).1,q1,q _ H φ .rfl rs (by simp only[yd];rw[<- q2];rfl)⟩
  ·cases e
 ·rename_i l
  split at e
  ·rename_i c
   rw[Bool.and_eq_true]at c
   cases e
   simp only[yd]at rb
   obtain⟨p,xs,rfl,r,l'⟩:=rb
   obtain⟨q1,q2⟩:=zbS ra c.1 l' c.2
   exact zbk pins s σ H _ _ v u Q I rx ry ⟨p,xs,rfl,.inl r.sq,(ra.flat c.1).1,q1,q _ H φ .rfl rs (by simp only[yd];rw[<- q2];rfl)⟩
  ·cases e
 ·cases e
theorem yh.empty {K:PySem.W.Frag}{cl:Nat->Addr}{vs:List PV}{xs:List V}(l:yh K cl B φ H vs xs):vs.isEmpty=xs.isEmpty:=by
 have:=l.length
 cases vs <;> cases xs <;> simp_all
theorem zk4 {K:PySem.W.Frag}{cl:Nat->Addr}{v:PV}{x:V}{k:Bool}(rs:yp K cl B φ H st)(r:yd K cl B φ H v x)(h:yaD st v=some k):ydC K x H k:=by
 cases v with
 |non=>simp only[yd]at r;subst r;cases h;rfl
 |bl b=>simp only[yd]at r;subst r;cases h;rfl
 |int b=>simp only[yd]at r;subst r;cases h;rfl
 |str b =>
  simp only[yd]at r;subst r
  simp only[yaD]at h
  split at h
  ·rename_i c
   cases h
   exact⟨by rw[<- zo];exact c,rfl⟩
  ·cases h
 |tp k vs =>
  simp only[yd]at r
  obtain⟨a,xs,rfl,rt,l⟩:=r
  cases h
  exact .inr (.inl ⟨xs,rt.sq,by rw[l.empty]⟩)
 |lst vs =>
  simp only[yd]at r
  obtain⟨a,xs,rfl,rt,l⟩:=r
  cases h
  exact .inl ⟨xs,rt.sq,by rw[l.empty]⟩
 |loc n =>
  simp only[yd]at r
  obtain⟨hn,a,rfl,ha⟩:=r
  simp only[yaD]at h
  split at h
  ·rename_i vs hv
   cases h
   obtain⟨b,hb⟩:=rs.liv n _ hv (by intro z;cases z)
   obtain rfl:=ha b hb
   obtain⟨o,ho,ro⟩:=rs.obj n b hb
   rw[hv]at ho;cases ho
   obtain⟨xs,hx,l⟩:=ro
   exact .inl ⟨xs,.of hx,by rw[l.empty]⟩
  ·cases h
 |exn c=>cases h
 |scr c=>cases h
end
theorem R.bind_assoc {α β γ:Type}{r:R α}{k:α->Store->R β}{l:β->Store->R γ}:(r.bind k).bind l=r.bind λa s=>(k a s).bind l:=by
 cases r <;> rfl
section
variable {S:Se}{X:Cx}{σ:St}{B:Addr->Prop}{φ φ1:Ph}{H H1:Hp}{st:Store}{ρ:IC.Env}{pos:Pos}{a b c d:Expr}{ca cb cc:Ce}{es:List Expr}{ces:Ces}
theorem zc2 {o:COp}{v w z:PV}(h:ye o v w=some z):∃k,z=.bl k:=by
 cases o <;> simp only[ye]at h
 all_goals (repeat' split at h) <;> first|(cases h;done)|(cases h;exact⟨_,rfl⟩)|skip
 all_goals (simp only[ybA]at h;cases h;exact⟨_,rfl⟩)
theorem zmA {op:CmpOp}{o:COp}(ho:OpR X (compareOp op) (rT2 S X (ye o)))(ha:PE X a (tE S X ca))(hb:PE X b (tE S X cb))(hm:behindInMarks op b=false):PT X (.Compare a [op] [b] pos) (tTs S X (.cmp o ca cb)) :=
 (zk5 ho ha hb hm).imp λσ H Q ⟨B,φ,st,ρ,rs,re,h⟩=>by
  simp only[ev,yaX,R.bind_assoc]at h
  refine tE.bind rs re h λx H1 v st1 φ1 s1 rs1 re1 rv h1=>tE.bind rs1 re1 h1 λy H2 w st2 φ2 s2 rs2 re2 rw h2=>?_
  cases e:ye o v w with
  |none=>rw[e]at h2;exact h2.elim
  |some z =>
   obtain⟨k,rfl⟩:=zc2 e
   rw[e]at h2
   refine⟨B,φ2,st2,v,w,.bl k,rs2,rv.step s2,rw,e,λz' H' φ' s' rs' rz=>?_⟩
   simp only[yd]at rz
   exact⟨k,rz,h2 k H' φ' s' rs' rfl⟩
theorem zmS (ha:PE X a (tE S X ca))(he:∀whole,isTrue a X.env whole=(do let v <- whole;standAt a.pos;holding [v] (truthy v)):=by intro _;rfl):PT X a (tTs S X ca) :=
 (zjG ha he).imp λσ H Q ⟨B,φ,st,ρ,rs,re,h⟩=>by
  simp only[yaX]at h
  refine tE.bind rs re h λx H1 v st1 φ1 s1 rs1 re1 rv h1=>?_
  cases e:yaD st1 v with
  |none=>rw[e]at h1;exact h1.elim
  |some k =>
   rw[e]at h1
   exact⟨k,zk4 rs1 rv e,h1.ok rs1 rfl⟩
theorem tTs.bind {γ δ:Type}{Rel2:Ph->Hp->γ->δ->Prop}{k:Bool->Store->R γ}{Q:δ->Hp->Prop}{P:Bool->Hp->Prop}(rs:yp X.K S.cl B φ H st)(re:yG X.K S.cl B φ H ρ σ)(h:Run S X σ B φ H Rel2 ((yaX (ev S.call ρ st ca)).bind k) Q)
  (n:∀b H1 st1 φ1,Step φ H φ1 H1->yp X.K S.cl B φ1 H1 st1->yG X.K S.cl B φ1 H1 ρ σ->Run S X σ B φ1 H1 Rel2 (k b st1) Q->P b H1):tTs S X ca σ H P :=
 ⟨B,φ,st,ρ,rs,re,(Run.bind h).mono λx H1 ⟨v,st1,φ1,s,rs1,rv,h1⟩=>by
  subst rv
  exact n v H1 st1 φ1 s rs1 (re.step s) h1⟩
theorem zeE (r:R PV)(f:Bool->Store->R PV):yaX (r.bind λx st1=>onBl x λb=>f b st1)=r.bind λx st1=>onBl x λb=>yaX (f b st1):=by
 unfold yaX
 rw[R.bind_assoc]
 congr 1
 funext x st1
 cases x <;> rfl
theorem Run.bl_tru {r:R PV}{k:Bool->Store->R Bool}{Q:Bool->Hp->Prop}(h:Run S X σ B φ H RB (r.bind λx st1=>onBl x λb=>k b st1) Q):Run S X σ B φ H RB ((yaX r).bind k) Q:=by
 cases r with
 |bad=>exact h
 |exc c s=>exact h
 |ok v s =>
  cases v with
  |bl b=>exact h
  |_=>exact h.elim
theorem znc (ha:PT X a (tTs S X ca)):PT X (.UnaryOp .Not a pos) (tTs S X (.not ca)) :=
 (zmG ha).imp λσ H Q ⟨B,φ,st,ρ,rs,re,h⟩=>by
  simp only[ev]at h
  rw[zeE _ λk st1=>.ok (.bl (!k)) st1]at h
  exact tTs.bind rs re (Run.bl_tru (k:=λb st1=>.ok (!b) st1) h) λb H1 st1 φ1 s1 rs1 re1 h1=>h1.ok rs1 rfl
variable {rest:List Expr}
theorem zli (ha:PT X a (tTs S X ca)):PW X (.BoolOp .And [a] pos) (tTs S X ca):=zkS ha
theorem znj (ha:PT X a (tTs S X ca)):PW X (.BoolOp .Or [a] pos) (tTs S X ca):=zn4 ha
theorem zod (ha:PT X a (tTs S X ca))(hb:PW X (.BoolOp .And (b::rest) pos) (tTs S X cb)):PW X (.BoolOp .And (a::b::rest) pos) (tTs S X (.and ca cb)) :=
 (zm1 ha hb).imp λσ H Q ⟨B,φ,st,ρ,rs,re,h⟩=>by
  simp only[ev]at h
  rw[zeE _ λk st1=>cond k (ev S.call ρ st1 cb) (.ok (.bl false) st1)]at h
  refine tTs.bind rs re (Run.bl_tru h) λk H1 st1 φ1 s1 rs1 re1 h1=>?_
  cases k with
  |false=>exact h1.ok rs1 rfl
  |true=>exact⟨B,φ1,st1,ρ,rs1,re1,h1⟩
theorem zoD (ha:PT X a (tTs S X ca))(hb:PW X (.BoolOp .Or (b::rest) pos) (tTs S X cb)):PW X (.BoolOp .Or (a::b::rest) pos) (tTs S X (.or ca cb)) :=
 (zov ha hb).imp λσ H Q ⟨B,φ,st,ρ,rs,re,h⟩=>by
  simp only[ev]at h
  rw[zeE _ λk st1=>cond k (.ok (.bl true) st1) (ev S.call ρ st1 cb)]at h
  refine tTs.bind rs re (Run.bl_tru h) λk H1 st1 φ1 s1 rs1 re1 h1=>?_
  cases k with
  |true=>exact h1.ok rs1 rfl
  |false=>exact⟨B,φ1,st1,ρ,rs1,re1,h1⟩
theorem zkc {op:BoolOp}(h:PE X a (tE S X ca)):PE X (.BoolOp op [a] pos) (tE S X ca):=zmM h
theorem zki (ha:PE X a (tE S X ca))(hb:PE X (.BoolOp .And (b::rest) pos) (tE S X cb)):PE X (.BoolOp .And (a::b::rest) pos) (tE S X (.and ca cb)) :=
 (znb ha hb).imp λσ H Q ⟨B,φ,st,ρ,rs,re,h⟩=>by
  simp only[ev]at h
  refine tE.bind rs re h λx H1 v st1 φ1 s1 rs1 re1 rv h1=>?_
  cases v with
  |bl k =>
   simp only[yd]at rv
   refine⟨k,rv,?_⟩
   cases k with
   |true=>exact⟨B,φ1,st1,ρ,rs1,re1,h1⟩
   |false=>exact h1.ok rs1 (by simp only[yd])
  |_=>exact h1.elim
theorem znq (ha:PE X a (tE S X ca))(hb:PE X (.BoolOp .Or (b::rest) pos) (tE S X cb)):PE X (.BoolOp .Or (a::b::rest) pos) (tE S X (.or ca cb)) :=
 (zoJ ha hb).imp λσ H Q ⟨B,φ,st,ρ,rs,re,h⟩=>by
  simp only[ev]at h
  refine tE.bind rs re h λx H1 v st1 φ1 s1 rs1 re1 rv h1=>?_
  cases v with
  |bl k =>
   simp only[yd]at rv
   refine⟨k,rv,?_⟩
   cases k with
   |false=>exact⟨B,φ1,st1,ρ,rs1,re1,h1⟩
   |true=>exact h1.ok rs1 (by simp only[yd])
  |_=>exact h1.elim
theorem zm9 (ha:PE X a (tE S X ca)):PE X (.UnaryOp .Not a pos) (tE S X (.not ca)) :=
 (zne ha).imp λσ H Q ⟨B,φ,st,ρ,rs,re,h⟩=>by
  simp only[ev]at h
  refine tE.bind rs re h λx H1 v st1 φ1 s1 rs1 re1 rv h1=>?_
  cases v with
  |bl k =>
   simp only[yd]at rv
   exact⟨k,rv,h1.ok rs1 (by simp only[yd])⟩
  |_=>exact h1.elim
theorem zj8 (ha:PE X a (tE S X ca)):PE X (.UnaryOp .USub a pos) (tE S X (.neg ca)) :=
 (zn1 zkb ha).imp λσ H Q ⟨B,φ,st,ρ,rs,re,h⟩=>by
  simp only[ev]at h
  refine tE.bind rs re h λx H1 v st1 φ1 s1 rs1 re1 rv h1=>?_
  split at h1
  ·simp only[yd]at rv
   exact⟨_,rv,h1.ok rs1 (by simp only[yd])⟩
  ·exact h1.elim
theorem znY (hc:PT X c (tTs S X cc))(ha:PE X a (tE S X ca))(hb:PE X b (tE S X cb)):PE X (.IfExp c a b pos) (tE S X (.ite cc ca cb)) :=
 (ziI hc ha hb).imp λσ H Q ⟨B,φ,st,ρ,rs,re,h⟩=>by
  simp only[ev]at h
  have e:((ev S.call ρ st cc).bind λx st1=>onO (yaD st1 x) λk=>cond k (ev S.call ρ st1 ca) (ev S.call ρ st1 cb))=(yaX (ev S.call ρ st cc)).bind λk st1=>cond k (ev S.call ρ st1 ca) (ev S.call ρ st1 cb):=by
   unfold yaX
   rw[R.bind_assoc]
   congr 1
   funext x st1
   cases yaD st1 x <;> rfl
  rw[e]at h
  refine tTs.bind rs re h λk H1 st1 φ1 s1 rs1 re1 h1=>?_
  cases k with
  |true=>exact⟨B,φ1,st1,ρ,rs1,re1,h1⟩
  |false=>exact⟨B,φ1,st1,ρ,rs1,re1,h1⟩
theorem zfm:PA X [] (tAs S X .nil):=yaO.imp λσ H Q ⟨B,φ,st,ρ,rs,re,h⟩=>by
 simp only[evs]at h
 exact h.ok rs (by simp only[yh])
theorem zch (ha:PE X a (tE S X ca))(hr:PA X es (tAs S X ces))(hs:starEach (a::es) X.env=(false,eval a X.env)::starEach es X.env:=by rfl):PA X (a::es) (tAs S X (.cons ca ces)) :=
 (zO ha hr hs).imp λσ H Q ⟨B,φ,st,ρ,rs,re,h⟩=>by
  simp only[evs]at h
  refine tE.bind rs re h λx H1 v st1 φ1 s1 rs1 re1 rv h1=>tAs.bind rs1 re1 h1 λxs H2 vs st2 φ2 s2 rs2 re2 rvs h2=>?_
  refine h2.ok rs2 ?_
  simp only[yh]
  exact⟨x,xs,rfl,rv.step s2,rvs⟩
theorem zob {k:Nat}(h:PA X es (tAs S X ces)):PE X (.Tuple es k pos) (tE S X (.tup ces)) :=
 (znE h).imp λσ H Q ⟨B,φ,st,ρ,rs,re,h⟩=>by
  simp only[ev]at h
  refine tAs.bind rs re h λxs H1 vs st1 φ1 s1 rs1 re1 rv h1=>?_
  split at h1
  ·rename_i c
   refine⟨by rw[<- zo,<- rv.length];exact c,λp hp=>h1 _ _ φ1 (.upd hp) (rs1.upd hp) (.tup_new hp rs1 rv)⟩
  ·exact h1.elim
theorem zmc (h:PA X es (tAs S X ces)):PE X (.List es pos) (tE S X (.lst ces)) :=
 (zkk h).imp λσ H Q ⟨B,φ,st,ρ,rs,re,h⟩=>by
  simp only[ev]at h
  refine tAs.bind rs re h λxs H1 vs st1 φ1 s1 rs1 re1 rv h1=>?_
  split at h1
  ·rename_i c
   refine⟨by rw[<- zo,<- rv.length];exact c,λp hp=>h1 _ _ φ1 (.upd hp) (rs1.upd hp) (.lst_new hp rs1 rv)⟩
  ·exact h1.elim
theorem Step.push {p:Addr}{o:HO}(hp:H p=none):Step φ H (φ++[some p]) (L2.upd H p o):=by
 refine⟨λb u n e=>by rw[zd (zh e hp)];exact e,by simp,λn a hn e=>?_,λb h=>?_⟩
 ·rw[List.getElem?_append_left hn]at e
  exact e
 ·rw[List.mem_append]at h
  rcases h with h|h
  ·exact .inl h
  ·have:b=p:=by simpa using h
   subst this
   exact .inr hp
theorem yp.push {K:PySem.W.Frag}{cl:Nat->Addr}{p:Addr}{u:HO}{o:Ob}(rs:yp K cl B φ H st)(hp:H p=none)(hb:¬B p)(ho:ybU K cl B (φ++[some p]) (L2.upd H p u) o p):yp K cl B (φ++[some p]) (L2.upd H p u) (st++[o]):=by
 have s:Step φ H (φ++[some p]) (L2.upd H p u):=.push hp
 have np:some p∉φ:=λz=>by
  obtain⟨w,e⟩:=rs.there z
  rw[hp]at e;cases e
 have hl:φ.length=st.length:=rs.len
 refine⟨by simp[hl],λm n a e1 e2=>?_,λn a e=>?_,λn o' e ho'=>?_,λa h=>?_,λa h=>?_⟩
 ·by_cases hm:m<φ.length
  ·rw[List.getElem?_append_left hm]at e1
   by_cases hn:n<φ.length
   ·rw[List.getElem?_append_left hn]at e2
    exact rs.inj m n a e1 e2
   ·rw[List.getElem?_append_right (by omega)]at e2
    have:a=p:=by
     cases q:n - φ.length with
     |zero=>rw[q]at e2;simpa using e2.symm
     |succ k=>rw[q]at e2;simp at e2
    subst this
    exact absurd (List.mem_of_getElem? e1) np
  ·rw[List.getElem?_append_right (by omega)]at e1
   have:m - φ.length=0/\a=p:=by
    cases q:m - φ.length with
    |zero=>rw[q]at e1;exact⟨rfl,by simpa using e1.symm⟩
    |succ k=>rw[q]at e1;simp at e1
   obtain⟨q1,rfl⟩:=this
   by_cases hn:n<φ.length
   ·rw[List.getElem?_append_left hn]at e2
    exact absurd (List.mem_of_getElem? e2) np
   ·rw[List.getElem?_append_right (by omega)]at e2
    have:n - φ.length=0:=by
     cases q:n - φ.length with
     |zero=>rfl
     |succ k=>rw[q]at e2;simp at e2
    omega
 ·by_cases hn:n<φ.length
  ·rw[List.getElem?_append_left hn]at e
   obtain⟨o',q,r⟩:=rs.obj n a e
   refine⟨o',by rw[List.getElem?_append_left (by omega)];exact q,r.step s ?_⟩
   rw[zd]
   rintro rfl
   exact np (List.mem_of_getElem? e)
  ·rw[List.getElem?_append_right (by omega)]at e
   have:n - φ.length=0/\a=p:=by
    cases q:n - φ.length with
    |zero=>rw[q]at e;exact⟨rfl,by simpa using e.symm⟩
    |succ k=>rw[q]at e;simp at e
   obtain⟨q1,rfl⟩:=this
   refine⟨o,?_,ho⟩
   rw[List.getElem?_append_right (by omega)]
   have:n - st.length=0:=by omega
   rw[this];rfl
 ·by_cases hn:n<φ.length
  ·rw[List.getElem?_append_left (by omega)]at e
   obtain⟨a,q⟩:=rs.liv n o' e ho'
   exact⟨a,by rw[List.getElem?_append_left hn];exact q⟩
  ·rw[List.getElem?_append_right (by omega)]at e
   have:n - st.length=0:=by
    cases q:n - st.length with
    |zero=>rfl
    |succ k=>rw[q]at e;simp at e
   refine⟨p,?_⟩
   rw[List.getElem?_append_right (by omega)]
   have:n - φ.length=0:=by omega
   rw[this];rfl
 ·rw[List.mem_append]at h
  rcases h with h|h
  ·exact rs.nb a h
  ·have:a=p:=by simpa using h
   subst this
   exact hb
 ·obtain⟨w,e⟩:=rs.dom a h
  exact⟨w,by rw[zd (zh e hp)];exact e⟩
theorem yp.nB {K:PySem.W.Frag}{cl:Nat->Addr}{p:Addr}(rs:yp K cl B φ H st)(hp:H p=none):¬B p:=λz=>by
 obtain⟨o,e⟩:=rs.dom p z
 rw[hp]at e;cases e
theorem yd.loc_new {K:PySem.W.Frag}{cl:Nat->Addr}{p:Addr}(rs:yp K cl B φ H st):yd K cl B (φ++[some p]) H1 (.loc st.length) (.ref p):=by
 simp only[yd]
 have hl:=rs.len
 refine⟨by simp[hl],p,rfl,λb e=>?_⟩
 rw[List.getElem?_append_right (by omega)]at e
 have:st.length - φ.length=0:=by omega
 rw[this]at e
 simpa using e.symm
theorem zld (h:PA X es (tAs S X ces)):PE X (.List es pos) (tE S X (.newl ces)) :=
 (zkk h).imp λσ H Q ⟨B,φ,st,ρ,rs,re,h⟩=>by
  simp only[ev]at h
  refine tAs.bind rs re h λxs H1 vs st1 φ1 s1 rs1 re1 rv h1=>?_
  split at h1
  ·rename_i c
   refine⟨by rw[<- zo,<- rv.length];exact c,λp hp=>h1 _ _ (φ1++[some p]) (.push hp) (rs1.push hp (rs1.nB hp) ⟨xs,zj,rv.step (.push hp)⟩) (.loc_new rs1)⟩
  ·exact h1.elim
end
section
variable {S:Se}{X:Cx}{σ:St}{B:Addr->Prop}{φ φ1:Ph}{H H1:Hp}{st:Store}{ρ:IC.Env}{pos p2:Pos}{a b c d:Expr}{ca cb cc:Ce}{es:List Expr}{ces:Ces}{K:PySem.W.Frag}{cl:Nat->Addr}
theorem zg3 {o:COp}{v w:PV}{α β:Type}{Rel:Ph->Hp->α->β->Prop}{k:Bool->R α}{Q:β->Hp->Prop}(h:Run S X σ B φ H Rel (onO (blO (ye o v w)) k) Q):∃b,ye o v w=some (.bl b)/\Run S X σ B φ H Rel (k b) Q:=by
 cases e:ye o v w with
 |none=>rw[e]at h;exact h.elim
 |some z =>
  obtain⟨b,rfl⟩:=zc2 e
  rw[e]at h
  exact⟨b,rfl,h⟩
theorem ziw {op op':CmpOp}{o p:COp}(ho:OpR X (compareOp op) (rT2 S X (ye o)))(ho':OpR X (compareOp op') (rT2 S X (ye p)))(ha:PE X a (tE S X ca))(hb:PE X b (tE S X cb))(hc:PE X c (tE S X cc))
  (hm:lastMarks [op,op'] [b,c]=false:=by ac_rfl):PE X (.Compare a [op,op'] [b,c] pos) (tE S X (.chain o p ca cb cc)) :=
 (ziz ho ho' ha hb hc hm).imp λσ H Q ⟨B,φ,st,ρ,rs,re,h⟩=>by
  simp only[ev]at h
  refine tE.bind rs re h λx H1 v st1 φ1 s1 rs1 re1 rv h1=>tE.bind rs1 re1 h1 λy H2 w st2 φ2 s2 rs2 re2 rw h2=>?_
  obtain⟨k,e,h2⟩:=zg3 h2
  refine⟨B,φ2,st2,v,w,.bl k,rs2,rv.step s2,rw,e,λz' H' φ' s' rs' rz=>?_⟩
  simp only[yd]at rz
  refine⟨k,rz,?_⟩
  cases k with
  |false=>exact h2 _ H' φ' s' rs' (by simp only[yd])
  |true =>
   refine tE.bind rs' (re2.step s') (Run.on s' h2) λz H3 v3 st3 φ3 s3 rs3 re3 rv3 h3=>?_
   obtain⟨q,eq,hq⟩:=zN h3 rs3
   exact⟨B,φ3,st3,w,v3,q,rs3,(rw.step s').step s3,rv3,eq,hq⟩
theorem ziV {op op':CmpOp}{o p:COp}(ho:OpR X (compareOp op) (rT2 S X (ye o)))(ho':OpR X (compareOp op') (rT2 S X (ye p)))(ha:PE X a (tE S X ca))(hb:PE X b (tE S X cb))(hc:PE X c (tE S X cc))
  (hm:lastMarks [op,op'] [b,c]=false:=by ac_rfl):PT X (.Compare a [op,op'] [b,c] pos) (tTs S X (.chain o p ca cb cc)) :=
 (zjM ho ho' ha hb hc hm).imp λσ H Q ⟨B,φ,st,ρ,rs,re,h⟩=>by
  simp only[ev,yaX,R.bind_assoc]at h
  refine tE.bind rs re h λx H1 v st1 φ1 s1 rs1 re1 rv h1=>tE.bind rs1 re1 h1 λy H2 w st2 φ2 s2 rs2 re2 rw h2=>?_
  have h2':Run S X σ B φ2 H2 RB (onO (blO (ye o v w)) λk=>cond k ((ev S.call ρ st2 cc).bind λz st3=>(toR (ye p w z) st3).bind λx st=>onO (yaD st x) λb=>.ok b st) (.ok false st2)) Q:=by
   cases e:ye o v w with
   |none=>rw[e]at h2;exact h2
   |some z =>
    obtain⟨b,rfl⟩:=zc2 e
    rw[e]at h2
    cases b with
    |false=>exact h2
    |true =>
     simp only[blO,onO,cond_true,R.bind_assoc]at h2 ⊢
     exact h2
  obtain⟨k,e,h2⟩:=zg3 h2'
  refine⟨B,φ2,st2,v,w,.bl k,rs2,rv.step s2,rw,e,λz' H' φ' s' rs' rz=>?_⟩
  simp only[yd]at rz
  refine⟨k,rz,?_⟩
  cases k with
  |false=>exact⟨false,rfl,h2 _ H' φ' s' rs' rfl⟩
  |true =>
   refine tE.bind rs' (re2.step s') (Run.on s' h2) λz H3 v3 st3 φ3 s3 rs3 re3 rv3 h3=>?_
   cases eq:ye p w v3 with
   |none=>rw[eq]at h3;exact h3.elim
   |some q =>
    obtain⟨b,rfl⟩:=zc2 eq
    rw[eq]at h3
    refine⟨B,φ3,st3,w,v3,.bl b,rs3,(rw.step s').step s3,rv3,eq,λz2 H4 φ4 s4 rs4 rz4=>?_⟩
    simp only[yd]at rz4
    exact⟨b,rz4,h3 b H4 φ4 s4 rs4 rfl⟩
theorem yh.at {vs:List PV}{xs:List V}{i:Int}{v:PV}(l:yh K cl B φ H vs xs)(h:at? vs i=some v):∃x,atI xs i=some x/\yd K cl B φ H v x:=by
 unfold at? at h
 rw[l.length]at h
 unfold atI
 cases e:ixI xs.length i with
 |none=>rw[e]at h;cases h
 |some j =>
  rw[e]at h
  have e':ixN xs.length i=some j:=e
  rw[e']
  exact l.get j h
theorem yp.list {n:Nat}{vs:List PV}{x:V}(rs:yp K cl B φ H st)(r:yd K cl B φ H (.loc n) x)(h:st[n]?=some (.lst vs)):∃a xs,x=.ref a/\φ[n]?=some (some a)/\H a=some (.lst xs)/\yh K cl B φ H vs xs:=by
 simp only[yd]at r
 obtain⟨hn,a,rfl,ha⟩:=r
 obtain⟨b,hb⟩:=rs.liv n _ h (by intro z;cases z)
 obtain rfl:=ha b hb
 obtain⟨o,ho,ro⟩:=rs.obj n b hb
 rw[h]at ho;cases ho
 obtain⟨xs,hx,l⟩:=ro
 exact⟨b,xs,rfl,hb,hx,l⟩
def rTS (S:Se)(X:Cx)(f:Store->PV->PV->Option PV):R2:=λx y H Q=>∃B φ st v w z,yp X.K S.cl B φ H st/\yd X.K S.cl B φ H v x/\yd X.K S.cl B φ H w y/\f st v w=some z /\
 ∀z' H' φ',Step φ H φ' H'->yp X.K S.cl B φ' H' st->yd X.K S.cl B φ' H' z z'->Q z' H'
theorem zbC {α:Type}{xs:List α}{i:PV}{z:α}(h:yaU xs i=some z):∃k,i=.int k/\at? xs k=some z:=by
 cases i with
 |int k=>exact⟨k,rfl,h⟩
 |_=>cases h
theorem zkB:IxR X (rTS S X idxV):=by
 rintro value slice pins s σ H x y v u Q I rx ry ⟨B,φ,st,a,i,z,rs,ra,ri,e,q⟩ hs
 cases a with
 |tp k vs =>
  obtain⟨k,rfl,e⟩:=zbC e
  simp only[yd]at ra ri
  subst ri
  obtain⟨p,xs,rfl,rt,l⟩:=ra
  obtain⟨w,e1,rw⟩:=l.at e
  exact zfU value slice pins s σ H _ _ v u Q I rx ry (.inr (.inl ⟨p,xs,k,w,rfl,rfl,rt.sq,e1,q w H φ .rfl rs rw⟩)) hs
 |lst vs =>
  obtain⟨k,rfl,e⟩:=zbC e
  simp only[yd]at ra ri
  subst ri
  obtain⟨p,xs,rfl,rt,l⟩:=ra
  obtain⟨w,e1,rw⟩:=l.at e
  exact zfU value slice pins s σ H _ _ v u Q I rx ry (.inl ⟨p,xs,k,w,rfl,rfl,rt.sq,e1,q w H φ .rfl rs rw⟩) hs
 |loc n =>
  simp only[idxV]at e
  split at e
  ·rename_i vs h1
   obtain⟨k,rfl,e⟩:=zbC e
   simp only[yd]at ri
   subst ri
   obtain⟨p,xs,rfl,_,hx,l⟩:=rs.list ra h1
   obtain⟨w,e1,rw⟩:=l.at e
   exact zfU value slice pins s σ H _ _ v u Q I rx ry (.inl ⟨p,xs,k,w,rfl,rfl,.of hx,e1,q w H φ .rfl rs rw⟩) hs
  ·cases e
 |str t =>
  simp only[idxV]at e
  split at e
  ·rename_i hl
   cases e1:yaU t.cps.toList i with
   |none=>rw[e1]at e;cases e
   |some c =>
    rw[e1]at e
    cases e
    obtain⟨k,rfl,e1⟩:=zbC e1
    simp only[yd]at ra ri
    subst ra ri
    exact zfU value slice pins s σ H _ _ v u Q I rx ry (.inr (.inr ⟨t,k,c,rfl,rfl,by rw[<- zo];exact hl,e1,q _ H φ .rfl rs (by simp only[yd])⟩)) hs
  ·cases e
 |_=>cases e
theorem znA (ha:PE X a (tE S X ca))(hb:PE X b (tE S X cb))(hs:ybf b:=by exact λ_ _=>rfl):PE X (.Subscript a b pos) (tE S X (.idx ca cb)) :=
 (zoP zkB ha hb hs).imp λσ H Q ⟨B,φ,st,ρ,rs,re,h⟩=>by
  simp only[ev]at h
  refine tE.bind rs re h λx H1 v st1 φ1 s1 rs1 re1 rv h1=>tE.bind rs1 re1 h1 λy H2 w st2 φ2 s2 rs2 re2 rw h2=>?_
  obtain⟨z,e,q⟩:=zN h2 rs2
  exact⟨B,φ2,st2,v,w,z,rs2,rv.step s2,rw,e,q⟩
theorem yh.cut {vs:List PV}{xs:List V}(lo hi:Option Int)(l:yh K cl B φ H vs xs):yh K cl B φ H (IC.cut vs lo hi) (yca xs lo hi):=by
 have e1:∀n o,ych n o=HT.sIx n 0 o:=λn o=>by cases o <;> rfl
 have e2:∀n o,ycB n o=HT.sIx n n o:=λn o=>by cases o <;> rfl
 unfold IC.cut yca
 rw[l.length,e1,e2]
 exact(l.drop _).take _
def tO (S:Se)(X:Cx)(c:Ce):TO:=λσ H Q=>tE S X c σ H λx H1=>(x=.non/\Q none H1) \/ ∃i,x=.int i/\Q (some i) H1
theorem zkH:PO X none (tO S X (.cst .non)):=λpins s σ H Q I h=>by
 refine zk6 pins s σ H Q I ?_
 obtain⟨B,φ,st,ρ,rs,re,h⟩:=h
 simp only[ev]at h
 rcases h.ok rs (x:=V.non) (by simp only[yd])with q|⟨i,z,_⟩
 ·exact q.2
 ·cases z
theorem zkR (ha:PE X a (tE S X ca)):PO X (some a) (tO S X ca):=by
 intro pins s σ H Q I hw
 rw[evalPart_some]
 refine thn (ha pins s σ H _ I hw) λu s1 ⟨x,H1,I1,r1,q1⟩=>?_
 rcases q1 with⟨rfl,q⟩|⟨i,rfl,q⟩
 ·cases r1
  exact⟨none,H1,I1,.none,q⟩
 ·obtain⟨t,rfl⟩:=r1
  exact⟨some i,H1,I1,.int i t,q⟩
def rSl (S:Se)(X:Cx):V->Option Int->Option Int->Hp->VK->Prop:=λx lo hi H Q=>∃B φ st v z,yp X.K S.cl B φ H st/\yd X.K S.cl B φ H v x/\yb1 v lo hi=some z /\
 ∀z' H' φ',Step φ H φ' H'->yp X.K S.cl B φ' H' st->yd X.K S.cl B φ' H' z z'->Q z' H'
theorem zat {prog:Program}{w:World}{A:Around}{E:Value->Shared->Prop}{s:Shared}{t sl:Addr}{items:Array Value}{vl vu:Value}{lo hi:Option Int}{Q:Value->Shared->Prop}(ht:IsTup s.heap t items)(hs:s.heap.IsSliceOf sl vl vu .none)(pl:IsPart vl lo)(pu:IsPart vu hi)
  (hw:HT.sIx items.size 0 lo=0/\HT.sIx items.size items.size hi=items.size)
  (h:Q (.ref t) s):wpAny (model prog w) A (getItem (.ref t) (.ref sl)) Q E s:=by
 obtain⟨os,hos,hcs,hds⟩:=id hs
 have hTs:s.TypeIs (.ref sl) "slice":=⟨os,hos,hcs⟩
 unfold getItem
 try with_reducible refine wpAny_holding ?_
 first|refine wpAny_bind (wpAny_pure ?_)|skip
 refine wpAny_bind (wpAny_sequenceKey ht.typeIs (by decide) ?_)
 refine wpAny_bind (wpAny_callSpecial?_slot (name:=Str.ofString "__getitem__") ht.typeIs PyProof.Rows.slot_tuple_getitem
  (wpAny_call_entry PyProof.Rows.slot_tuple_getitem ht.typeIs entry_tuple_getitem ?_ (args_tuple_getitem _ _)))
 show wpAny _ _ (Builtin.Tuple.tupleItemsOf (.ref t) >>= _) _ _ s
 refine wpAny_bind (PyProof.Rows.tupleItemsOf_ ht ?_)
 refine wpAny_bind (wpAny_typeOf hTs ?_)
 rw[if_pos (by decide)]
 refine wpAny_bind (HT.sliceApplied_gen hs pl pu ?_)
 have hyes:(((HT.sIx items.size 0 lo:Nat):Int) == 0 && (1:Int) == 1 && (HT.sIx items.size items.size hi - HT.sIx items.size 0 lo) == items.size)=true:=by
  rw[hw.1,hw.2]
  simp
 show wpAny _ _ (if (((HT.sIx items.size 0 lo:Nat):Int) == 0 && (1:Int) == 1 && (HT.sIx items.size items.size hi - HT.sIx items.size 0 lo) == items.size)=true then _ else _) _ _ s
 rw[if_pos hyes]
 refine wpAny_bind (wpAny_bind (wpAny_typeOf ht.typeIs (wpAny_pure ?_)))
 rw[if_pos (by decide)]
 first
  | exact wpAny_bind (wpAny_pure (wpAny_pure ⟨_,rfl,wpAny_pure h⟩))
  | exact wpAny_bind (wpAny_rule (wpAny_pure ⟨_,rfl,wpAny_pure h⟩))
  | (wp_step;wp_step;exact⟨_,rfl,wpAny_pure h⟩)
noncomputable def yfi (K:PySem.W.Frag):V->Option Int->Option Int->Hp->VK->Prop:=λx lo hi H Q=>∃a xs,x=.ref a/\SqT K H a xs /\
 (HT.sIx xs.length 0 lo=0/\HT.sIx xs.length xs.length hi=xs.length)/\Q (.ref a) H
theorem ziy:SlR X (yfi X.K):=by
 intro pins s σ H x v vl vu lo hi sl Q I rx hs pl pu h
 obtain⟨a,xs,rfl,hx,hw,q⟩:=h
 cases rx
 obtain⟨its,r,ht,hz⟩:=I.tuple hx
 have hlen:its.toArray.size=xs.length:=by rw[List.size_toArray];exact r.length.symm
 refine⟨"tuple",_,PyProof.Rows.slot_tuple_getitem.lookup,ht.typeIs,?_⟩
 exact zat ht hs pl pu (by rw[hlen];exact hw) ⟨.ref a,H,I,rfl,q⟩
noncomputable def yf1:V->Option Int->Option Int->Hp->VK->Prop:=λx lo hi H Q=>∃y:Str,x=.str y/\y.length<=sizeLine/\Q (.str ⟨((y.cps.toList.drop (HT.sIx y.cps.toList.length 0 lo)).take (HT.sIx y.cps.toList.length y.cps.toList.length hi - HT.sIx y.cps.toList.length 0 lo)).toArray⟩) H
theorem yfo (lo hi:Option Int)(n:Nat):Builtin.Str.strSliceIndices lo hi 1 n=sliceRange ((HT.sIx n 0 lo:Nat):Int) ((HT.sIx n n hi:Nat):Int) 1:=by
 unfold Builtin.Str.strSliceIndices
 simp only[show (1:Int) > 0 by decide,if_true]
 congr 1
 ·cases lo with
  |none=>simp[HT.sIx]
  |some i =>
   simp only[HT.sIx]
   by_cases h:i<0
   ·simp only[h,if_true] <;> omega
   ·simp only[h,if_false] <;> omega
 ·cases hi with
  |none=>simp[HT.sIx]
  |some i =>
   simp only[HT.sIx]
   by_cases h:i<0
   ·simp only[h,if_true] <;> omega
   ·simp only[h,if_false] <;> omega
theorem zii (y:Str)(lo hi:Option Int):Txt.slice y lo hi=⟨((y.cps.toList.drop (HT.sIx y.cps.toList.length 0 lo)).take (HT.sIx y.cps.toList.length y.cps.toList.length hi - HT.sIx y.cps.toList.length 0 lo)).toArray⟩:=by
 have hn:y.length=y.cps.toList.length:=by simp[Str.length]
 unfold Txt.slice
 rw[yfo,hn,sliceRange_one]
 have ha:=HT.sIx_le y.cps.toList.length 0 (Nat.zero_le _) lo
 have hb:=HT.sIx_le y.cps.toList.length y.cps.toList.length (Nat.le_refl _) hi
 generalize HT.sIx y.cps.toList.length 0 lo=a at *
 generalize HT.sIx y.cps.toList.length y.cps.toList.length hi=b at *
 split
 ·rename_i c
  simp only[List.length_map,List.length_range,Bool.and_eq_true,beq_iff_eq]at c
  obtain⟨rfl,rfl⟩:a=0/\b=y.cps.toList.length:=by omega
  rw[List.drop_zero,Nat.sub_zero,List.take_length]
 ·rw[pick_run]
theorem zk7:SlR X yf1:=by
 intro pins s σ H x v vl vu lo hi sl Q I rx hs pl pu h
 obtain⟨y,rfl,hz,q⟩:=h
 obtain⟨t,rfl⟩:=rx
 rw[<- zii]at q
 refine⟨"str",_,PySem.F.slot_str_getitem.lookup,typeIs_str _ _ _,?_⟩
 have go:∀l u:Option (Int×Tok),vl=partValue l->vu=partValue u->lo=l.map (·.1)->hi=u.map (·.1)->wpAny (model X.prog X.w) X.A (getItem (.str y t) (.ref sl)) (EP X pins σ Q) X.xe s:=by
  rintro l u rfl rfl rfl rfl
  refine wpAny_getItem_str_slice (l:=l) (u:=u) (st:=none) hs rfl ?_
  exact post_val_or_str ⟨Nat.le_trans (Txt.slice_le y _ _) hz,λt' k=>⟨.str _,H,I.tok k,⟨_,rfl⟩,q⟩⟩
 cases pl with
 |none =>
  cases pu with
  |none=>exact go none none rfl rfl rfl rfl
  |int j u=>exact go none (some (j,u)) rfl rfl rfl rfl
 |int i t1 =>
  cases pu with
  |none=>exact go (some (i,t1)) none rfl rfl rfl rfl
  |int j u=>exact go (some (i,t1)) (some (j,u)) rfl rfl rfl rfl
theorem zlB:SlR X (rSl S X):=by
 rintro pins s σ H x v vl vu lo hi sl Q I rx hs pl pu ⟨B,φ,st,w,z,rs,rw,e,q⟩
 have e1:∀n o,ych n o=HT.sIx n 0 o:=λn o=>by cases o <;> rfl
 have e2:∀n o,ycB n o=HT.sIx n n o:=λn o=>by cases o <;> rfl
 cases w with
 |tp k vs =>
  simp only[yb1]at e
  split at e
  ·rename_i c
   cases e
   have rw':=rw
   simp only[yd]at rw
   obtain⟨p,xs,rfl,rt,l⟩:=rw
   refine ziy pins s σ H _ v vl vu lo hi sl Q I rx hs pl pu ⟨p,xs,rfl,rt.sq,?_,q _ H φ .rfl rs rw'⟩
   rw[l.length,e1,e2]at c
   exact c
  ·rename_i c
   cases e
   simp only[yd]at rw
   obtain⟨p,xs,rfl,rt,l⟩:=rw
   refine zoj pins s σ H _ v vl vu lo hi sl Q I rx hs pl pu ⟨p,xs,rfl,rt.sq,?_,λt ht=>q _ _ φ (.upd ht) (rs.upd ht) (.tup_new ht rs (l.cut lo hi))⟩
   rw[l.length,e1,e2]at c
   exact c
 |str y =>
  simp only[yb1]at e
  split at e
  ·rename_i c
   cases e
   simp only[yd]at rw
   subst rw
   refine zk7 pins s σ H _ v vl vu lo hi sl Q I rx hs pl pu ⟨y,rfl,by rw[<- zo];exact c,?_⟩
   have:=q (.str ⟨(cut y.cps.toList lo hi).toArray⟩) H φ .rfl rs (by simp only[yd])
   rw[cut,e1,e2]at this
   exact this
  ·cases e
 |lst vs =>
  simp only[yb1]at e
  cases e
  simp only[yd]at rw
  obtain⟨p,xs,rfl,rt,l⟩:=rw
  exact zhW pins s σ H _ v vl vu lo hi sl Q I rx hs pl pu ⟨p,xs,rfl,rt.sq,λt ht=>q _ _ φ (.upd ht) (rs.upd ht) (.lst_new ht rs (l.cut lo hi))⟩
 |scr vs =>
  simp only[yb1]at e
  cases e
  simp only[yd]at rw
  obtain⟨p,xs,rfl,rt,l⟩:=rw
  exact zhW pins s σ H _ v vl vu lo hi sl Q I rx hs pl pu ⟨p,xs,rfl,(by rcases rt with rt|rt;exact .inl rt.1;exact .inr rt),λt ht=>q _ _ φ (.upd ht) (rs.upd ht) (.lst_new ht rs (l.cut lo hi))⟩
 |_=>cases e
theorem zm6 {lo hi:Option Expr}(ha:PE X a (tE S X ca))(hl:PO X lo (tO S X cb))(hh:PO X hi (tO S X cc)):PE X (.Subscript a (.Slice lo hi none p2) pos) (tE S X (.slc ca cb cc)) :=
 (zi7 zlB ha hl hh).imp λσ H Q ⟨B,φ,st,ρ,rs,re,h⟩=>by
  simp only[ev]at h
  have oi:∀{v:PV} {x:V} {o:Option Int} {B φ H},yd X.K S.cl B φ H v x->yaE v=some o->(x=.non/\o=none) \/ ∃i,x=.int i/\o=some i:=λ{v x o B φ H} r e=>by
   cases v with
   |non=>simp only[yd]at r;cases e;exact .inl ⟨r,rfl⟩
   |int i=>simp only[yd]at r;cases e;exact .inr ⟨i,r,rfl⟩
   |_=>cases e
  refine tE.bind rs re h λx H1 v st1 φ1 s1 rs1 re1 rv h1=>tE.bind rs1 re1 h1 λy H2 w st2 φ2 s2 rs2 re2 rw h2=>?_
  cases eo:yaE w with
  |none=>rw[eo]at h2;exact h2.elim
  |some o1 =>
   rw[eo]at h2
   have key:tO S X cc σ H2 λu H3=>rSl S X x o1 u H3 Q:=by
    refine tE.bind rs2 re2 h2 λy' H3 w' st3 φ3 s3 rs3 re3 rw' h3=>?_
    obtain⟨z,e,q⟩:=zN h3 rs3
    unfold yb6 at e
    cases eo':yaE w' with
    |none=>rw[eo']at e;cases e
    |some o2 =>
     rw[eo']at e
     have fin:rSl S X x o1 o2 H3 Q:=⟨B,φ3,st3,v,z,rs3,(rv.step s2).step s3,e,q⟩
     rcases oi rw' eo' with⟨rfl,rfl⟩|⟨i,rfl,rfl⟩
     ·exact .inl ⟨rfl,fin⟩
     ·exact .inr ⟨i,rfl,fin⟩
   rcases oi rw eo with⟨rfl,rfl⟩|⟨i,rfl,rfl⟩
   ·exact .inl ⟨rfl,key⟩
   ·exact .inr ⟨i,rfl,key⟩
end
section
variable {S:Se}{X:Cx}{σ:St}{B:Addr->Prop}{φ φ1:Ph}{H H1:Hp}{st:Store}{ρ:IC.Env}{p pos p2:Pos}{a b c d:Expr}{ca cb cc:Ce}{es:List Expr}{ces:Ces}{K:PySem.W.Frag}{cl:Nat->Addr}
def rB (S:Se)(X:Cx)(k:Blt):List V->Hp->VK->Prop:=λxs H Q=>∃B φ st vs z,yp X.K S.cl B φ H st/\yh X.K S.cl B φ H vs xs/\yan k st vs=some z /\
 ∀z' H' φ',Step φ H φ' H'->yp X.K S.cl B φ' H' st->yd X.K S.cl B φ' H' z z'->Q z' H'
theorem yh.one {v:PV}{xs:List V}(l:yh K cl B φ H [v] xs):∃x,xs=[x]/\yd K cl B φ H v x:=by
 simp only[yh]at l
 obtain⟨y,ys,rfl,r,rfl⟩:=l
 exact⟨y,rfl,r⟩
theorem yh.two {v w:PV}{xs:List V}(l:yh K cl B φ H [v,w] xs):∃x y,xs=[x,y]/\yd K cl B φ H v x/\yd K cl B φ H w y:=by
 simp only[yh]at l
 obtain⟨y,ys,rfl,r,z,zs,rfl,r2,rfl⟩:=l
 exact⟨y,z,rfl,r,r2⟩
theorem zbV {k:Blt}{st:Store}{vs:List PV}{z:PV}(h:yan k st vs=some z)(h2:∀x y,yan k st [x,y]=none):∃x,vs=[x]:=by
 match vs,h with
 | [x],_=>exact⟨x,rfl⟩
 | [x,y],h=>rw[h2]at h;cases h
theorem zbX {v:PV}{x:V}{vs:List PV}(rs:yp K cl B φ H st)(r:yd K cl B φ H v x)(h:yV st v=some vs):∃a xs,x=.ref a/\SqL K H a xs/\yh K cl B φ H vs xs:=by
 cases v with
 |lst ws =>
  cases h
  simp only[yd]at r
  obtain⟨a,xs,rfl,rt,l⟩:=r
  exact⟨a,xs,rfl,rt.sq,l⟩
 |loc n =>
  simp only[yV]at h
  split at h
  ·rename_i ws hw
   cases h
   obtain⟨a,xs,rfl,_,hx,l⟩:=rs.list r hw
   exact⟨a,xs,rfl,.of hx,l⟩
  ·cases h
 |_=>cases h
theorem zme {v:PV}{x:V}{vs:List PV}(rs:yp K cl B φ H st)(r:yd K cl B φ H v x)(h:ybR st v=some vs):∃a xs,x=.ref a/\(SqL K H a xs \/ SqT K H a xs)/\yh K cl B φ H vs xs:=by
 cases v with
 |tp k ws =>
  cases h
  simp only[yd]at r
  obtain⟨a,xs,rfl,rt,l⟩:=r
  exact⟨a,xs,rfl,.inr rt.sq,l⟩
 |lst ws =>
  obtain⟨a,xs,e,q,l⟩:=zbX rs r (vs:=vs) h
  exact⟨a,xs,e,.inl q,l⟩
 |loc n =>
  obtain⟨a,xs,e,q,l⟩:=zbX rs r (vs:=vs) h
  exact⟨a,xs,e,.inl q,l⟩
 |_=>cases h
theorem znX:yaa X (.builtin "len") (rB S X .len):=by
 rintro pins s σ H xs us Q I r ⟨B,φ,st,vs,z,rs,l,e,q⟩
 obtain⟨v,rfl⟩:=zbV e λ_ _=>rfl
 obtain⟨x,rfl,rv⟩:=l.one
 simp only[yan,lenV]at e
 split at e
 ·rename_i t
  split at e
  ·rename_i c
   cases e
   simp only[yd]at rv
   subst rv
   exact zd3 pins s σ H _ us Q I r ⟨t,rfl,by rw[<- zo];exact c,q _ H φ .rfl rs (by simp only[yd])⟩
  ·cases e
 ·cases e1:ybR st v with
  |none=>rw[e1]at e;cases e
  |some ws =>
   rw[e1]at e
   cases e
   obtain⟨a,ys,rfl,h,l⟩:=zme rs rv e1
   refine zdm pins s σ H _ us Q I r ⟨a,ys,rfl,?_,q _ H φ .rfl rs (by simp only[yd];rw[l.length])⟩
   exact h
theorem zmz:yaa X (.type "int") (rB S X .int):=by
 rintro pins s σ H xs us Q I r ⟨B,φ,st,vs,z,rs,l,e,q⟩
 obtain⟨v,rfl⟩:=zbV e λ_ _=>rfl
 obtain⟨x,rfl,rv⟩:=l.one
 simp only[yan]at e
 cases v with
 |int i =>
  cases e
  simp only[yd]at rv
  subst rv
  exact zdM pins s σ H _ us Q I r (.inl ⟨i,rfl,q _ H φ .rfl rs (by simp only[yd])⟩)
 |bl k =>
  cases e
  simp only[yd]at rv
  subst rv
  exact zdM pins s σ H _ us Q I r (.inr ⟨k,rfl,q _ H φ .rfl rs (by simp only[yd,bi])⟩)
 |_=>cases e
theorem znv:yaa X (.builtin "abs") (rB S X .abs):=by
 rintro pins s σ H xs us Q I r ⟨B,φ,st,vs,z,rs,l,e,q⟩
 obtain⟨v,rfl⟩:=zbV e λ_ _=>rfl
 obtain⟨x,rfl,rv⟩:=l.one
 simp only[yan]at e
 cases v with
 |int i =>
  cases e
  simp only[yd]at rv
  subst rv
  exact zjk pins s σ H _ us Q I r ⟨i,rfl,q _ H φ .rfl rs (by simp only[yd])⟩
 |_=>cases e
theorem zlT {k:Blt}{st:Store}{vs:List PV}{z:PV}(h:yan k st vs=some z)(h2:∀x,yan k st [x]=none):∃x y,vs=[x,y]:=by
 match vs,h with
 | [x,y],_=>exact⟨x,y,rfl⟩
 | [x],h=>rw[h2]at h;cases h
theorem zn3 (hc:X.calm=true):yaa X (.builtin "min") (rB S X .min):=by
 rintro pins s σ H xs us Q I r ⟨B,φ,st,vs,z,rs,l,e,q⟩
 obtain⟨v,w,rfl⟩:=zlT e λ_=>rfl
 obtain⟨x,y,rfl,rv,rw⟩:=l.two
 simp only[yan,ydo]at e
 split at e
 ·cases e
  simp only[yd]at rv rw
  subst rv rw
  exact zhn hc pins s σ H _ us Q I r ⟨_,_,rfl,q _ H φ .rfl rs (by simp only[yd])⟩
 ·cases e
theorem zj7:∀{vs:List PV} {m:Int},yc6 vs=some m->∃ns:List Int,vs=ns.map .int/\m∈ns/\∀a∈ns,a<=m
 | [],m,h=>by cases h
 | [.int i],m,h=>by cases h;exact⟨[i],rfl,by simp,by simp⟩
 | .int i::w::r,m,h=>by
  simp only[yc6]at h
  split at h
  ·rename_i c e
   cases h
   obtain⟨ns,e1,e2,e3⟩:=zj7 e
   refine⟨i::ns,by rw[e1];rfl,?_,λa ha=>?_⟩
   ·split
    ·exact List.mem_cons_of_mem _ e2
    ·exact List.mem_cons_self
   ·rcases List.mem_cons.mp ha with rfl|ha
    ·split <;> omega
    ·have:=e3 a ha
     split <;> omega
  ·cases h
 | .non::r,m,h=>by cases r <;> cases h
 | .bl _::r,m,h=>by cases r <;> cases h
 | .str _::r,m,h=>by cases r <;> cases h
 | .tp _ _::r,m,h=>by cases r <;> cases h
 | .lst _::r,m,h=>by cases r <;> cases h
 | .loc _::r,m,h=>by cases r <;> cases h
 | .exn _::r,m,h=>by cases r <;> cases h
 | .scr _::r,m,h=>by cases r <;> cases h
theorem yh.ints:∀{ns:List Int} {xs:List V},yh K cl B φ H (ns.map .int) xs->xs=ns.map V.int
 | [],xs,h=>by simpa only[List.map_nil,yh] using h
 |n::ns,xs,h=>by
  simp only[List.map_cons,yh]at h
  obtain⟨y,ys,rfl,r,l⟩:=h
  simp only[yd]at r
  rw[r,yh.ints l]
  rfl
theorem yh.bls:∀{ns:List Bool} {xs:List V},yh K cl B φ H (ns.map .bl) xs->xs=ns.map V.bl
 | [],xs,h=>by simpa only[List.map_nil,yh] using h
 |n::ns,xs,h=>by
  simp only[List.map_cons,yh]at h
  obtain⟨y,ys,rfl,r,l⟩:=h
  simp only[yd]at r
  rw[r,yh.bls l]
  rfl
theorem zky {v w z:PV}(e:maxV v w=some z):∃i j,v=.int i/\w=.int j/\z=.int (if i<j then j else i):=by
 unfold maxV at e
 split at e
 ·exact⟨_,_,rfl,rfl,(Option.some.inj e).symm⟩
 ·cases e
theorem zmi (hc:X.calm=true):yaa X (.builtin "max") (rB S X .max):=by
 rintro pins s σ H xs us Q I r ⟨B,φ,st,vs,z,rs,l,e,q⟩
 rcases vs with _|⟨v,_|⟨w,_|⟨u',t⟩⟩⟩
 ·simp[yan]at e
 ·obtain⟨x,rfl,rv⟩:=l.one
  simp only[yan]at e
  cases e1:yV st v with
  |none=>rw[e1]at e;cases e
  |some ws =>
   rw[e1]at e
   simp only[Option.bind_some]at e
   cases e2:yc6 ws with
   |none=>rw[e2]at e;cases e
   |some m =>
    rw[e2]at e
    obtain rfl:=Option.some.inj e
    obtain⟨ns,rfl,hm,hb⟩:=zj7 e2
    obtain⟨a,ys,rfl,h,l⟩:=zbX rs rv e1
    rw[l.ints]at h
    refine zhl hc pins s σ H _ us Q I r ⟨a,ns,rfl,h,List.length_pos_of_mem hm,λM h1 h2=>?_⟩
    have:M=m:=by
     have:=hb M h1
     have:=h2 m hm
     omega
    subst this
    exact q _ H φ .rfl rs (by simp only[yd])
 ·obtain⟨x,y,rfl,rv,rw⟩:=l.two
  have e:maxV v w=some z:=e
  obtain⟨i,j,rfl,rfl,rfl⟩:=zky e
  simp only[yd]at rv rw
  subst rv rw
  exact zgN hc pins s σ H _ us Q I r ⟨i,j,rfl,q (.int (if i<j then j else i)) H φ .rfl rs (by simp only[yd])⟩
 ·simp[yan]at e
theorem zix:yaa X (.type "tuple") (rB S X .tuple):=by
 rintro pins s σ H xs us Q I r ⟨B,φ,st,vs,z,rs,l,e,q⟩
 obtain⟨v,rfl⟩:=zbV e λ_ _=>rfl
 obtain⟨x,rfl,rv⟩:=l.one
 simp only[yan,ycK]at e
 split at e
 ·cases e
  simp only[yd]at rv
  obtain⟨a,ys,rfl,rt,l⟩:=rv
  exact zaC pins s σ H _ us Q I r ⟨a,ys,rfl,.inr ⟨rt.sq,q _ H φ .rfl rs (by simp only[yd];exact⟨a,ys,rfl,rt,l⟩)⟩⟩
 ·cases e1:yV st v with
  |none=>rw[e1]at e;cases e
  |some ws =>
   rw[e1]at e
   cases e
   obtain⟨a,ys,rfl,h,l⟩:=zbX rs rv e1
   exact zaC pins s σ H _ us Q I r ⟨a,ys,rfl,.inl ⟨h,λt ht=>q _ _ φ (.upd ht) (rs.upd ht) (.tup_new ht rs l)⟩⟩
theorem zj5:∀{vs:List PV} {m:Bool},IC.allB vs=some m->∃ns:List Bool,vs=ns.map .bl/\m=ns.all id
 | [],m,h=>by cases h;exact⟨[],rfl,rfl⟩
 | .bl i::r,m,h=>by
  simp only[IC.allB]at h
  split at h
  ·rename_i c e
   cases h
   obtain⟨ns,e1,e2⟩:=zj5 e
   exact⟨i::ns,by rw[e1];rfl,by rw[e2];rfl⟩
  ·cases h
 | .non::r,m,h=>by cases h
 | .int _::r,m,h=>by cases h
 | .str _::r,m,h=>by cases h
 | .tp _ _::r,m,h=>by cases h
 | .lst _::r,m,h=>by cases h
 | .loc _::r,m,h=>by cases h
 | .exn _::r,m,h=>by cases h
 | .scr _::r,m,h=>by cases h
theorem zmo (hc:X.calm=true):yaa X (.builtin "all") (rB S X .all):=by
 rintro pins s σ H xs us Q I r ⟨B,φ,st,vs,z,rs,l,e,q⟩
 obtain⟨v,rfl⟩:=zbV e λ_ _=>rfl
 obtain⟨x,rfl,rv⟩:=l.one
 simp only[yan]at e
 cases e1:yV st v with
 |none=>rw[e1]at e;cases e
 |some ws =>
  rw[e1]at e
  simp only[Option.bind_some]at e
  cases e2:IC.allB ws with
  |none=>rw[e2]at e;cases e
  |some m =>
   rw[e2]at e
   cases e
   obtain⟨ns,rfl,rfl⟩:=zj5 e2
   obtain⟨a,ys,rfl,h,l⟩:=zbX rs rv e1
   rw[l.bls]at h
   exact ziK hc pins s σ H _ us Q I r ⟨a,ns,rfl,h,q _ H φ .rfl rs (by simp only[yd])⟩
variable {x:Str}{id T:String}{k:Blt}
theorem zmO (hc:yaa X (.builtin id) (rB S X k))(hg:Gl X x)(hm:X.mg x=none)(hv:bootBuiltins x=some (.builtin id))(ha:PA X (a::es) (tAs S X ces))(hn:x ≠ "__name__":=by decide)(hdb:(x == ("__debug__":Str))=false:=by decide)
  (he:starEach (a::es) X.env=(false,eval a X.env)::starEach es X.env:=by rfl) (hpl:(backTo pos (starEach es X.env)).any (·.1)=false:=by rfl):PE X (.Call (.Name x p) (a::es) [] pos) (tE S X (.blt k ces)) :=
 (zfy hc hg hm hv ha hn hdb he hpl).imp λσ H Q ⟨B,φ,st,ρ,rs,re,h⟩=>by
  simp only[ev]at h
  refine tAs.bind rs re h λxs H1 vs st1 φ1 s1 rs1 re1 rv h1=>?_
  obtain⟨z,e,q⟩:=zN h1 rs1
  exact⟨B,φ1,st1,vs,z,rs1,rv,e,q⟩
theorem zkC (hc:yaa X (.type T) (rB S X k))(hg:Gl X x)(hm:X.mg x=none)(hv:bootBuiltins x=some (.type T))(ha:PA X (a::es) (tAs S X ces))(hn:x ≠ "__name__":=by decide)(hdb:(x == ("__debug__":Str))=false:=by decide)
  (he:starEach (a::es) X.env=(false,eval a X.env)::starEach es X.env:=by rfl) (hpl:(backTo pos (starEach es X.env)).any (·.1)=false:=by rfl):PE X (.Call (.Name x p) (a::es) [] pos) (tE S X (.blt k ces)) :=
 (zir hc hg hm hv ha hn hdb he hpl).imp λσ H Q ⟨B,φ,st,ρ,rs,re,h⟩=>by
  simp only[ev]at h
  refine tAs.bind rs re h λxs H1 vs st1 φ1 s1 rs1 re1 rv h1=>?_
  obtain⟨z,e,q⟩:=zN h1 rs1
  exact⟨B,φ1,st1,vs,z,rs1,rv,e,q⟩
end
section
variable {S:Se}{X:Cx}{σ:St}{B:Addr->Prop}{φ φ1:Ph}{H H1:Hp}{st:Store}{ρ:IC.Env}{p pos p2 apos:Pos}{a b c d:Expr}{ca cb cc:Ce}{es:List Expr}{ces:Ces}{K:PySem.W.Frag}{cl:Nat->Addr}
theorem Step.put {l:Addr}{u:HO}(hl:some l∈φ):Step φ H φ (L2.upd H l u) :=
 ⟨λb o n e=>by rw[zd (show b≠l from λz=>n (by rw[z];exact hl))];exact e,Nat.le_refl _,λ_ _ _ e=>e,λ_ h=>.inl h⟩
theorem yp.put {n:Nat}{l:Addr}{u:HO}{o:Ob}(rs:yp K cl B φ H st)(hn:φ[n]?=some (some l))(ho:ybU K cl B φ (L2.upd H l u) o l):yp K cl B φ (L2.upd H l u) (st.set n o):=by
 have hm:some l∈φ:=List.mem_of_getElem? hn
 have s:Step φ H φ (L2.upd H l u):=.put hm
 have hlt:n<st.length:=by rw[<- rs.len];exact(List.getElem?_eq_some_iff.mp hn).1
 refine⟨by rw[List.length_set];exact rs.len,rs.inj,λm a e=>?_,λm o' e ho'=>?_,rs.nb,λa h=>?_⟩
 ·by_cases hmn:m=n
  ·subst hmn
   rw[hn]at e;cases e
   exact⟨o,by rw[List.getElem?_set_self hlt],ho⟩
  ·obtain⟨o',q,r⟩:=rs.obj m a e
   refine⟨o',by rw[List.getElem?_set_ne (Ne.symm hmn)];exact q,r.step s ?_⟩
   rw[zd]
   rintro rfl
   exact hmn (rs.inj m n a e hn)
 ·by_cases hmn:m=n
  ·subst hmn
   exact⟨l,hn⟩
  ·rw[List.getElem?_set_ne (Ne.symm hmn)]at e
   exact rs.liv m o' e ho'
 ·obtain⟨w,e⟩:=rs.dom a h
  by_cases z:a=l
  ·subst z;exact⟨u,zj⟩
  ·exact⟨w,by rw[zd z];exact e⟩
theorem ybe:1000000<=sizeLine:=by rw[sizeLine_eq];decide
theorem zeL {m:Mth}{v:PV}{st:Store}{α β:Type}{Rel:Ph->Hp->α->β->Prop}{k:Bool->R α}{Q:β->Hp->Prop}(h:Run S X σ B φ H Rel (onO (yas m st v) k) Q):∃b,yas m st v=some b/\Run S X σ B φ H Rel (k b) Q:=by
 cases e:yas m st v with
 |none=>rw[e]at h;exact h.elim
 |some z=>rw[e]at h;exact⟨z,rfl,h⟩
theorem zg2 (ha:PE X a (tE S X ca))(hb:PE X b (tE S X cb))(hs:starEach [b] X.env=[(false,eval b X.env)]:=by rfl)(hbase:attributeBase a "append" X.env (eval a X.env)=eval a X.env:=by rfl)(hline:(apos.endLine == pos.line)=true:=by rfl)
  (hfew:((backTo pos (starEach [b] X.env)).all (λx=>!x.1) && (backToKw pos (keywordEach [] X.env)).all (λx=>x.1.isSome) && decide (([b]:List Expr).length+([]:List Keyword).length+(if ([]:List Keyword).isEmpty then 0 else 1)<30))=true:=by rfl) :
  PE X (.Call (.Attribute a "append" apos) [b] [] pos) (tE S X (.mth .append ca (.cons cb .nil))) :=
 (zmZ PySem.F.plainAttrs_list PySem.F.slot_list_append PySem.F.type_list_append zd1 ha (zch (S:=S) hb zfm hs) hbase hfew hline hs rfl).imp λσ H Q ⟨B,φ,st,ρ,rs,re,h⟩=>by
  simp only[ev]at h
  refine tE.bind rs re h λx H1 v st1 φ1 s1 rs1 re1 rv h1=>?_
  obtain⟨_,e1,h1⟩:=zeL h1
  have t1:∃ws,yV st1 v=some ws:=by
   simp only[yas]at e1
   cases q:yV st1 v with
   |none=>rw[q]at e1;cases e1
   |some ws=>exact⟨ws,rfl⟩
  obtain⟨ws,t1⟩:=t1
  obtain⟨l,xs,rfl,hl,_⟩:=zbX rs1 rv t1
  refine⟨.inl ⟨rfl,xs,hl⟩,tAs.bind rs1 re1 h1 λys H2 vs st2 φ2 s2 rs2 re2 rvs h2=>?_⟩
  have rv2:=rv.step s2
  rcases vs with _|⟨w,_|⟨w',t⟩⟩
  ·exact h2.elim
  ·obtain⟨y,rfl,rw⟩:=rvs.one
   unfold ybq at h2;simp only[yc1]at h2
   split at h2
   ·rename_i n
    split at h2
    ·rename_i zs hz
     split at h2
     ·rename_i c
      obtain⟨l',xs',e,hn,hx,lr⟩:=rs2.list rv2 hz
      cases e
      refine⟨l,xs',y,rfl,rfl,hx,by have:=ybe;have:=lr.length;omega,?_⟩
      exact h2 _ _ φ2 (.put (List.mem_of_getElem? hn)) (rs2.put hn ⟨_,zj,(lr.append (by simp only[yh];exact⟨y,[],rfl,rw,rfl⟩)).step (.put (List.mem_of_getElem? hn))⟩) (by simp only[yd])
     ·exact h2.elim
    ·exact h2.elim
   ·exact h2.elim
  ·exact h2.elim
theorem zhY (ha:PE X a (tE S X ca))(hb:PE X b (tE S X cb))(hs:starEach [b] X.env=[(false,eval b X.env)]:=by rfl)(hbase:attributeBase a "extend" X.env (eval a X.env)=eval a X.env:=by rfl)(hline:(apos.endLine == pos.line)=true:=by rfl)
  (hfew:((backTo pos (starEach [b] X.env)).all (λx=>!x.1) && (backToKw pos (keywordEach [] X.env)).all (λx=>x.1.isSome) && decide (([b]:List Expr).length+([]:List Keyword).length+(if ([]:List Keyword).isEmpty then 0 else 1)<30))=true:=by rfl) :
  PE X (.Call (.Attribute a "extend" apos) [b] [] pos) (tE S X (.mth .extend ca (.cons cb .nil))) :=
 (zmZ PySem.F.plainAttrs_list PySem.F.slot_list_extend PySem.F.type_list_extend zh7 ha (zch (S:=S) hb zfm hs) hbase hfew hline hs rfl).imp λσ H Q ⟨B,φ,st,ρ,rs,re,h⟩=>by
  simp only[ev]at h
  refine tE.bind rs re h λx H1 v st1 φ1 s1 rs1 re1 rv h1=>?_
  obtain⟨_,e1,h1⟩:=zeL h1
  have t1:∃ws,yV st1 v=some ws:=by
   simp only[yas]at e1
   cases q:yV st1 v with
   |none=>rw[q]at e1;cases e1
   |some ws=>exact⟨ws,rfl⟩
  obtain⟨ws,t1⟩:=t1
  obtain⟨l,xs,rfl,hl,_⟩:=zbX rs1 rv t1
  refine⟨.inl ⟨rfl,xs,hl⟩,tAs.bind rs1 re1 h1 λys H2 vs st2 φ2 s2 rs2 re2 rvs h2=>?_⟩
  have rv2:=rv.step s2
  rcases vs with _|⟨w,_|⟨w',t⟩⟩
  ·exact h2.elim
  ·obtain⟨y,rfl,rw⟩:=rvs.one
   unfold ybq at h2;simp only[yd8]at h2
   split at h2
   ·rename_i n
    split at h2
    ·rename_i zs hz
     split at h2
     ·rename_i ks
      split at h2
      ·rename_i c
       obtain⟨l',xs',e,hn,hx,lr⟩:=rs2.list rv2 hz
       cases e
       simp only[yd]at rw
       obtain⟨b',ys',rfl,rl,lr2⟩:=rw
       refine⟨l,b',xs',ys',rfl,rfl,hx,rl.1,by have:=ybe;have:=lr.length;have:=lr2.length;omega,?_⟩
       exact h2 _ _ φ2 (.put (List.mem_of_getElem? hn)) (rs2.put hn ⟨_,zj,(lr.append lr2).step (.put (List.mem_of_getElem? hn))⟩) (by simp only[yd])
      ·exact h2.elim
     ·exact h2.elim
    ·exact h2.elim
   ·exact h2.elim
  ·exact h2.elim
theorem znQ (ha:PE X a (tE S X ca)):PE X a (tE S X (.frz ca)) :=
 ha.imp λσ H Q ⟨B,φ,st,ρ,rs,re,h⟩=>by
  simp only[ev]at h
  refine tE.bind rs re h λx H1 v st1 φ1 s1 rs1 re1 rv h1=>?_
  unfold ydu at h1
  split at h1
  ·rename_i n
   split at h1
   ·rename_i vs hv
    obtain⟨l,xs,rfl,hn,hx,lr⟩:=rs1.list rv hv
    have hm:some l∈φ1:=List.mem_of_getElem? hn
    have hlt:n<φ1.length:=(List.getElem?_eq_some_iff.mp hn).1
    have nl:some l∉φ1.set n none:=λz=>by
     obtain⟨m,e⟩:=List.mem_iff_getElem?.mp z
     by_cases hmn:m=n
     ·subst hmn
      rw[List.getElem?_set_self hlt]at e;cases e
     ·rw[List.getElem?_set_ne (Ne.symm hmn)]at e
      exact hmn (rs1.inj m n l e hn)
    have sb:∀b,some b∈φ1.set n none->some b∈φ1:=λb z=>by
     obtain⟨m,e⟩:=List.mem_iff_getElem?.mp z
     by_cases hmn:m=n
     ·subst hmn
      rw[List.getElem?_set_self hlt]at e;cases e
     ·rw[List.getElem?_set_ne (Ne.symm hmn)]at e
      exact List.mem_of_getElem? e
    have s:Step φ1 H1 (φ1.set n none) H1:=⟨λ_ _ _ e=>e,by simp,λm a hm' e=>by
     by_cases hmn:m=n
     ·subst hmn
      rw[List.getElem?_set_self hlt]at e;cases e
     ·rw[List.getElem?_set_ne (Ne.symm hmn)]at e
      exact e,λb z=>.inl (sb b z)⟩
    refine h1 _ H1 (φ1.set n none) s ⟨by simp[rs1.len],λm k a e1 e2=>?_,λm a e=>?_,λm o e ho=>?_,λa z=>rs1.nb a (sb a z),rs1.dom⟩ ?_
    ·by_cases h1':m=n
     ·subst h1';rw[List.getElem?_set_self hlt]at e1;cases e1
     ·by_cases h2':k=n
      ·subst h2';rw[List.getElem?_set_self hlt]at e2;cases e2
      ·rw[List.getElem?_set_ne (Ne.symm h1')]at e1
       rw[List.getElem?_set_ne (Ne.symm h2')]at e2
       exact rs1.inj m k a e1 e2
    ·by_cases hmn:m=n
     ·subst hmn;rw[List.getElem?_set_self hlt]at e;cases e
     ·rw[List.getElem?_set_ne (Ne.symm hmn)]at e
      obtain⟨o,q,r⟩:=rs1.obj m a e
      exact⟨o,by rw[List.getElem?_set_ne (Ne.symm hmn)];exact q,r.step s rfl⟩
    ·by_cases hmn:m=n
     ·subst hmn
      rw[List.getElem?_set_self (by rw[<- rs1.len];exact hlt)]at e;cases e
      exact absurd rfl ho
     ·rw[List.getElem?_set_ne (Ne.symm hmn)]at e ⊢
      exact rs1.liv m o e ho
    ·simp only[yd]
     exact⟨l,xs,rfl,⟨hx,rs1.nb l hm,nl⟩,lr.step s⟩
   ·exact h1.elim
  ·exact h1.ok rs1 rv
end
section
variable (S:Se)(X:Cx)
def yay (B:Addr->Prop)(φ:Ph)(H:Hp)(f:Fl)(D:Ends):Prop :=
 match f with
 | .nx ρ' st'=>∀σ' H' φ',Step φ H φ' H'->yp X.K S.cl B φ' H' st'->yG X.K S.cl B φ' H' ρ' σ'->D.nx σ' H'
 | .rt v st'=>∀x H' φ',Step φ H φ' H'->yp X.K S.cl B φ' H' st'->yd X.K S.cl B φ' H' v x->D.rt x H'
 | .bk ρ' st'=>∀σ' H' φ',Step φ H φ' H'->yp X.K S.cl B φ' H' st'->yG X.K S.cl B φ' H' ρ' σ'->D.bk σ' H'
 | .ct ρ' st'=>∀σ' H' φ',Step φ H φ' H'->yp X.K S.cl B φ' H' st'->yG X.K S.cl B φ' H' ρ' σ'->D.ct σ' H'
 | .exc k ρ' st'=>∀σ' φ1 H1 e s',Step φ H φ1 H1->yG X.K S.cl B φ1 H1 ρ' σ'->ExcAt S X σ' B φ1 H1 k st' e s'->X.xe e s'
 | .bad=>False
def tS (c:Cs):TS:=λD σ H=>∃B φ st ρ,yp X.K S.cl B φ H st/\yG X.K S.cl B φ H ρ σ/\yay S X B φ H (ex S.call ρ st c) D
def tSs (c:Css):TS:=λD σ H=>∃B φ st ρ,yp X.K S.cl B φ H st/\yG X.K S.cl B φ H ρ σ/\yay S X B φ H (exs S.call ρ st c) D
end
section
variable {S:Se}{X:Cx}{σ:St}{B:Addr->Prop}{φ φ1:Ph}{H H1:Hp}{st:Store}{ρ:IC.Env}{D:Ends}{pos p2 px:Pos}{a b c o:Expr}{ca cb cc:Ce}{s1:Stmt}{ss ss':List Stmt}{c1:Cs}{cs cs':Css}
theorem yay.on {f:Fl}(s:Step φ H φ1 H1)(h:yay S X B φ H f D):yay S X B φ1 H1 f D:=by
 cases f with
 |nx ρ st=>exact λσ' H' φ' t=>h σ' H' φ' (s.trans t)
 |rt ρ st=>exact λσ' H' φ' t=>h σ' H' φ' (s.trans t)
 |bk ρ st=>exact λσ' H' φ' t=>h σ' H' φ' (s.trans t)
 |ct ρ st=>exact λσ' H' φ' t=>h σ' H' φ' (s.trans t)
 |exc k ρ st=>exact λσ' φ2 H2 e s' t=>h σ' φ2 H2 e s' (s.trans t)
 |bad=>exact h
theorem tE.fl {k:PV->Store->Fl}{P:V->Hp->Prop}(rs:yp X.K S.cl B φ H st)(re:yG X.K S.cl B φ H ρ σ)(h:yay S X B φ H ((ev S.call ρ st ca).fl ρ k) D)
  (n:∀x H1 v st1 φ1,Step φ H φ1 H1->yp X.K S.cl B φ1 H1 st1->yG X.K S.cl B φ1 H1 ρ σ->yd X.K S.cl B φ1 H1 v x->yay S X B φ1 H1 (k v st1) D->P x H1):tE S X ca σ H P:=by
 refine⟨B,φ,st,ρ,rs,re,?_⟩
 cases e:ev S.call ρ st ca with
 |ok v st' =>
  rw[e]at h
  exact λx H' φ' s rs' rv=>n x H' v st' φ' s rs' (re.step s) rv (h.on s)
 |exc k st' =>
  rw[e]at h
  exact λe s' x=>h σ φ H e s' .rfl re x
 |bad=>rw[e]at h;exact h
theorem PS.imp {t t':TS}(h:PS X s1 t')(k:∀D σ H,t D σ H->t' D σ H):PS X s1 t:=λpins s σ H D I q=>h pins s σ H D I (k D σ H q)
theorem PSs.imp {t t':TS}(h:PSs X ss t')(k:∀D σ H,t D σ H->t' D σ H):PSs X ss t:=λpins s σ H D I q=>h pins s σ H D I (k D σ H q)
theorem yG.set {K:PySem.W.Frag}{cl:Nat->Addr}(r:yG K cl B φ H ρ σ)(i:Nat){v:PV}{x:V}(rv:yd K cl B φ H v x):yG K cl B φ H (ρ.set i (some v)) (σ.set i (some x)):=by
 refine⟨by rw[List.length_set,List.length_set];exact r.len,λj w e=>?_⟩
 by_cases h:j=i
 ·subst h
  by_cases hl:j<ρ.length
  ·rw[List.getElem?_set_self hl]at e
   cases e
   exact⟨x,by rw[List.getElem?_set_self (by rw[<- r.len];exact hl)],rv⟩
  ·rw[List.getElem?_eq_none (by rw[List.length_set];omega)]at e
   cases e
 ·rw[List.getElem?_set_ne (Ne.symm h)]at e ⊢
  exact r.get j w e
theorem zms:PSs X [] (tSs S X .nil):=ycm.imp λD σ H ⟨B,φ,st,ρ,rs,re,h⟩=>by
 simp only[exs]at h
 exact h σ H φ .rfl rs re
theorem zl0 (h1:PS X s1 (tS S X c1))(h2:PSs X ss (tSs S X cs)):PSs X (s1::ss) (tSs S X (.cons c1 cs)) :=
 (ziJ h1 h2).imp λD σ H ⟨B,φ,st,ρ,rs,re,h⟩=>by
  simp only[exs]at h
  refine⟨B,φ,st,ρ,rs,re,?_⟩
  cases e:ex S.call ρ st c1 with
  |nx ρ1 st1 =>
   rw[e]at h
   exact λσ' H' φ' s rs' re'=>⟨B,φ',st1,ρ1,rs',re',h.on s⟩
  |rt v st1=>rw[e]at h;exact h
  |bk ρ1 st1=>rw[e]at h;exact h
  |ct ρ1 st1=>rw[e]at h;exact h
  |exc k ρ1 st1=>rw[e]at h;exact h
  |bad=>rw[e]at h;exact h
theorem zkE (he:PE X a (tE S X ca))(hs:swapsWith a none pos.line X.env=pure false:=by rfl):PS X (.Expr a pos) (tS S X (.expr ca)) :=
 (zlh he hs).imp λD σ H ⟨B,φ,st,ρ,rs,re,h⟩=>by
  simp only[ex]at h
  exact tE.fl rs re h λx H1 v st1 φ1 s rs1 re1 rv h1=>h1 σ H1 φ1 .rfl rs1 re1
theorem znd (he:PE X a (tE S X ca)):PS X (.Return (some a) pos) (tS S X (.ret ca)) :=
 (znG he).imp λD σ H ⟨B,φ,st,ρ,rs,re,h⟩=>by
  simp only[ex]at h
  exact tE.fl rs re h λx H1 v st1 φ1 s rs1 re1 rv h1=>h1 x H1 φ1 .rfl rs1 rv
theorem zkt:PS X (.Return none pos) (tS S X (.ret (.cst .non))) :=
 ycA.imp λD σ H ⟨B,φ,st,ρ,rs,re,h⟩=>by
  simp only[ex,ev,R.fl]at h
  exact h .non H φ .rfl rs (by simp only[yd])
theorem znN {i:Nat}{x:Str}(hN:X.N.Nodup)(hi:X.N[i]?=some x)(hx:Loc X.env.scope x)(he:PE X a (tE S X ca))(hs:swapsWith a (some (.Name x px)) pos.line X.env=pure false:=by rfl)
  (hf:X.fn x=true \/ X.env.scope.names.lookup x=some .local:=by first|exact .inl rfl|exact .inr rfl|assumption):PS X (.Assign [.Name x px] a pos) (tS S X (.asg (.n i) ca)) :=
 (zmY hN hi hx he hs hf).imp λD σ H ⟨B,φ,st,ρ,rs,re,h⟩=>by
  simp only[ex]at h
  exact tE.fl rs re h λx H1 v st1 φ1 s rs1 re1 rv h1=>h1 _ H1 φ1 .rfl rs1 (re1.set i rv)
theorem flT (r:R PV)(f:Bool->Store->Fl):(r.fl ρ λx st1=>onF (yaD st1 x) λk=>f k st1)=(yaX r).fl ρ f:=by
 cases r with
 |ok v s =>
  simp only[R.fl,yaX,R.bind]
  cases yaD s v <;> rfl
 |exc c s=>rfl
 |bad=>rfl
theorem tTs.fl {k:Bool->Store->Fl}{P:Bool->Hp->Prop}(rs:yp X.K S.cl B φ H st)(re:yG X.K S.cl B φ H ρ σ)(h:yay S X B φ H ((yaX (ev S.call ρ st ca)).fl ρ k) D)
  (n:∀b H1 st1 φ1,Step φ H φ1 H1->yp X.K S.cl B φ1 H1 st1->yG X.K S.cl B φ1 H1 ρ σ->yay S X B φ1 H1 (k b st1) D->P b H1):tTs S X ca σ H P:=by
 refine⟨B,φ,st,ρ,rs,re,?_⟩
 cases e:yaX (ev S.call ρ st ca)with
 |ok v st' =>
  rw[e]at h
  exact λx H' φ' s rs' rv=>by
   subst rv
   exact n v H' st' φ' s rs' (re.step s) (h.on s)
 |exc k st' =>
  rw[e]at h
  exact λe s' x=>h σ φ H e s' .rfl re x
 |bad=>rw[e]at h;exact h
theorem zoL (hc:PT X c (tTs S X cc))(ha:PSs X ss (tSs S X cs))(hb:PSs X ss' (tSs S X cs')):PS X (.If c ss ss' pos) (tS S X (.ite cc cs cs')) :=
 (zow hc ha hb).imp λD σ H ⟨B,φ,st,ρ,rs,re,h⟩=>by
  simp only[ex]at h
  rw[flT _ λk st1=>cond k (exs S.call ρ st1 cs) (exs S.call ρ st1 cs')]at h
  refine tTs.fl rs re h λk H1 st1 φ1 s rs1 re1 h1=>?_
  cases k with
  |true=>exact⟨B,φ1,st1,ρ,rs1,re1,h1⟩
  |false=>exact⟨B,φ1,st1,ρ,rs1,re1,h1⟩
theorem zn8 {i:Nat}{x:Str}{op:Operator}{bo:BOp}(hN:X.N.Nodup)(hi:X.N[i]?=some x)(hx:Loc X.env.scope x)(he:PE X a (tE S X ca))(ho:PIp X op (rT2 S X (ybE bo)))
  (hf:X.fn x=true \/ X.env.scope.names.lookup x=some .local:=by first|exact .inl rfl|exact .inr rfl|assumption) (hd:(x == ("__debug__":Str))=false:=by decide) (hcd:(x == ("__classdict__":Str))=false:=by decide):PS X (.AugAssign (.Name x px) op a pos) (tS S X (.aug i bo ca)) :=
 (zj9 hN hi hx he ho hf).imp λD σ H ⟨B,φ,st,ρ,rs,re,h⟩=>by
  simp only[ex]at h
  cases q:ρ[i]? with
  |none=>rw[q]at h;exact h.elim
  |some w =>
   cases w with
   |none=>rw[q]at h;exact h.elim
   |some w =>
    rw[q]at h
    obtain⟨y,hy,rw⟩:=re.get i w q
    refine⟨y,hy,tE.fl rs re h λz H1 v st1 φ1 s rs1 re1 rv h1=>?_⟩
    cases e:ybE bo w v with
    |none=>rw[e]at h1;exact h1.elim
    |some u =>
     rw[e]at h1
     exact⟨B,φ1,st1,w,v,u,rs1,rw.step s,rv,e,λz' H' φ' s' rs' rz=>h1 _ H' φ' s' rs' ((re1.step s').set i rz)⟩
end
section
variable (S:Se)(X:Cx)
structure Drw (B:Addr->Prop)(φ0:Ph)(H0:Hp)(xs:List PV)(J:It):Prop where
 stop:∀φ H,Step φ0 H0 φ H->J.stop xs.length H
 go:∀(i:Nat) φ H,Step φ0 H0 φ H->i<xs.length->J.go i H
 yld:∀(i:Nat) φ H st x H' (B':Addr->Prop),(∀y,B' y->B y \/ H0 y=none)->Step φ0 H0 φ H->yp X.K S.cl B' φ H st->i<xs.length->J.yld i H x H'->∃v,xs[i]?=some v/\yd X.K S.cl B' φ H' v x/\∀b o,H b=some o->H' b=some o
noncomputable abbrev RD (B:Addr->Prop):Ph->Hp->List PV->It->Prop:=λφ H=>Drw S X B φ H
def tI (c:Cit):TI:=λσ H R=>∃B φ st ρ,yp X.K S.cl B φ H st/\yG X.K S.cl B φ H ρ σ/\Run S X σ B φ H (RD S X B) (evi S.call ρ st c) R
end
section
variable {S:Se}{X:Cx}{σ:St}{B:Addr->Prop}{φ φ1:Ph}{H H1:Hp}{st:Store}{ρ:IC.Env}{D:Ends}{pos p p2 px:Pos}{a b c o tg l:Expr}{ca cb cc:Ce}{es:List Expr}{ces:Ces}{ss:List Stmt}{cs:Css}{ci:Cit}{ct:Tg}
theorem zks:PE X a (tE S X .nope):=λpins s σ H Q I ⟨B,φ,st,ρ,rs,re,h⟩=>by
 simp only[ev]at h
 exact h.elim
theorem zlA {s1:Stmt}:PS X s1 (tS S X .nope):=λpins s σ H D I ⟨B,φ,st,ρ,rs,re,h⟩=>by
 simp only[ex]at h
 exact h.elim
theorem PI.imp {t t':TI}(h:PI X tg l t')(k:∀σ H R,t σ H R->t' σ H R):PI X tg l t:=λpins s σ H R I q=>h pins s σ H R I (k σ H R q)
theorem zog {tl:TE}(hl:PE X l tl):PI X tg l (λσ H R=>tl σ H λx H1=>∃a,x=.ref a/\(((∃xs,SqL X.K H1 a xs)/\R (Itl X.K a) H1) \/ ((∃xs,SqT X.K H1 a xs)/\R (Itt X.K a) H1))):=by
 intro pins s σ H R I h
 refine thn (hl pins s σ H _ I h) λv s1 ⟨x,H1,I1,r1,q1⟩=>?_
 obtain⟨a,e,q1⟩:=q1
 subst e
 cases r1
 rcases q1 with⟨⟨xs,hq⟩,q⟩|⟨⟨xs,hq⟩,q⟩
 ·obtain⟨its,rv,p,hz⟩:=I1.list hq
  refine wpAny_pyIter_list p.isList ?_
  refine⟨s1.heap.objs.size,[s1.heap.objs.size],_,_,H1,rfl,I1.kept (t':=s1.toks) λb o e=>Heap.get?_push_of_some _ e,zhM a _,⟨_,Heap.get?_push_size _ rfl,rfl,rfl⟩,λb hb=>?_,q⟩
  have e:b=s1.heap.objs.size:=by simpa using hb
  subst e
  exact I1.fpOk (Nat.le_refl _) (I1.hok.fresh (Nat.le_refl _))
 ·obtain⟨its,rv,p,hz⟩:=I1.tuple hq
  refine wpAny_pyIter_tuple (show s1.heap.IsTuple a its.toArray from p) ?_
  refine⟨s1.heap.objs.size,[s1.heap.objs.size],_,_,H1,rfl,I1.kept (t':=s1.toks) λb o e=>Heap.get?_push_of_some _ e,zgi a _,⟨_,Heap.get?_push_size _ rfl,rfl,rfl⟩,λb hb=>?_,q⟩
  have e:b=s1.heap.objs.size:=by simpa using hb
  subst e
  exact I1.fpOk (Nat.le_refl _) (I1.hok.fresh (Nat.le_refl _))
theorem zkK {k:Bool}{vs:List PV}{xs:List V}{y:Addr}(rt:ybz X.K B φ H k y xs)(l:yh X.K S.cl B φ H vs xs):Drw S X B φ H vs (Itt X.K y):=by
 have hl:=l.length
 refine⟨λφ' H' s=>⟨xs,(rt.step s).sq,by omega⟩,λi φ' H' s hi=>⟨xs,xs[i]'(by omega),(rt.step s).sq,by simp[show i<xs.length by omega]⟩,λi φ' H' st x H2 B' hB s rs hi q=>?_⟩
 obtain⟨rfl,q⟩:=q
 obtain⟨v,hv⟩:∃v,vs[i]?=some v:=⟨vs[i],by simp[hi]⟩
 obtain⟨x',hx',rv⟩:=l.get i hv
 have:=q xs (rt.step s).sq
 rw[this]at hx'
 cases hx'
 exact⟨v,hv,(rv.moreB hB).step s,λ_ _ e=>e⟩
theorem zlC {vs:List PV}{xs:List V}{y:Addr}(rt:yct B φ H y xs)(l:yh X.K S.cl B φ H vs xs):Drw S X B φ H vs (Itl X.K y):=by
 have hl:=l.length
 refine⟨λφ' H' s=>⟨xs,(rt.step s).sq,by omega⟩,λi φ' H' s hi=>⟨xs,xs[i]'(by omega),(rt.step s).sq,by simp[show i<xs.length by omega]⟩,λi φ' H' st x H2 B' hB s rs hi q=>?_⟩
 obtain⟨rfl,q⟩:=q
 obtain⟨v,hv⟩:∃v,vs[i]?=some v:=⟨vs[i],by simp[hi]⟩
 obtain⟨x',hx',rv⟩:=l.get i hv
 have:=q xs (rt.step s).sq
 rw[this]at hx'
 cases hx'
 exact⟨v,hv,(rv.moreB hB).step s,λ_ _ e=>e⟩
theorem znR (hl:PE X l (tE S X ca)):PI X tg l (tI S X (.seq ca)) :=
 (zog hl).imp λσ H R ⟨B,φ,st,ρ,rs,re,h⟩=>by
  simp only[evi]at h
  refine tE.bind rs re h λx H1 v st1 φ1 s1 rs1 re1 rv h1=>?_
  cases v with
  |tp k vs =>
   simp only[yd]at rv
   obtain⟨y,xs,rfl,rt,l⟩:=rv
   exact⟨y,rfl,.inr ⟨⟨xs,rt.sq⟩,h1.ok rs1 (zkK rt l)⟩⟩
  |lst vs =>
   simp only[yd]at rv
   obtain⟨y,xs,rfl,rt,l⟩:=rv
   exact⟨y,rfl,.inl ⟨⟨xs,rt.sq⟩,h1.ok rs1 (zlC rt l)⟩⟩
  |_=>exact h1.elim
theorem zG:∀(n:Nat) (lo d:Int) (i:Nat),(yo n lo d)[i]?=if i<n then some (.int (lo+i*d))else none
 |0,lo,d,i=>by simp[yo]
 |n+1,lo,d,0=>by simp[yo]
 |n+1,lo,d,i+1=>by
  simp only[yo,List.getElem?_cons_succ]
  rw[zG n (lo+d) d i]
  by_cases h:i<n
  ·rw[if_pos h,if_pos (by omega),Int.natCast_succ,Int.add_mul,Int.one_mul,Int.add_assoc,Int.add_comm d]
  ·rw[if_neg h,if_neg (by omega)]
theorem zn:∀(n:Nat) (lo d:Int),(yo n lo d).length=n
 |0,lo,d=>rfl
 |n+1,lo,d=>by simp[yo,zn n]
theorem zdG {lo:Int}{n:Nat}:Drw S X B φ H (yo n lo 1) (Itr lo n):=by
 refine⟨λφ' H' s=>by rw[zn];exact Nat.le_refl _,λi φ' H' s hi=>by rw[zn]at hi;exact hi,λi φ' H' st x H2 B' hB s rs hi q=>?_⟩
 rw[zn]at hi
 obtain⟨rfl,rfl⟩:=q
 refine⟨.int (lo+i),?_,by simp only[yd],λ_ _ e=>e⟩
 rw[zG,if_pos hi,Int.mul_one]
theorem zcU {o:Option (List PV)}{st:Store}{Q:It->Hp->Prop}(h:Run S X σ B φ H (RD S X B) (toL o st) Q):∃xs,o=some xs/\Run S X σ B φ H (RD S X B) (.ok xs st) Q:=by
 cases o with
 |none=>exact h.elim
 |some z=>exact⟨z,rfl,h⟩
theorem zil (hg:Gl X "range")(hm:X.mg "range"=none)(ha:PE X a (tE S X ca))(hs:starEach [a] X.env=[(false,eval a X.env)]:=by rfl):PI X tg (.Call (.Name "range" p) [a] [] pos) (tI S X (.range1 ca)) :=
 (zhE hg hm (zO ha yaO hs) hs).imp λσ H R ⟨B,φ,st,ρ,rs,re,h⟩=>by
  simp only[evi]at h
  refine tE.bind rs re h λx H1 v st1 φ1 s1 rs1 re1 rv h1=>?_
  obtain⟨xs,e,h1⟩:=zcU h1
  cases v with
  |int j =>
   simp only[ya8]at e
   split at e
   ·cases e
    simp only[yd]at rv
    subst rv
    exact⟨j,rfl,by omega,by omega,h1.ok rs1 zdG⟩
   ·cases e
  |_=>cases e
theorem zi1 {x y:PV}{xs:List PV}(h:ydr x y=some xs):∃i j,x=.int i/\y=.int j/\i.natAbs<1000000000/\j.natAbs<1000000000/\xs=yo (j - i).toNat i 1:=by
 unfold ydr at h
 split at h
 ·split at h
  ·rename_i c
   exact⟨_,_,rfl,rfl,c.1,c.2,(Option.some.inj h).symm⟩
  ·cases h
 ·cases h
theorem ziH {x y:PV}{xs:List PV}(h:ycT x y=some xs):∃i j,x=.int i/\y=.int j/\i.natAbs<1000000000/\j.natAbs<1000000000/\xs=yo (i - j).toNat i (-1):=by
 unfold ycT at h
 split at h
 ·split at h
  ·rename_i c
   exact⟨_,_,rfl,rfl,c.1,c.2,(Option.some.inj h).symm⟩
  ·cases h
 ·cases h
theorem zhV (hg:Gl X "range")(hm:X.mg "range"=none)(ha:PE X a (tE S X ca))(hb:PE X b (tE S X cb))(hs:starEach [a,b] X.env=[(false,eval a X.env),(false,eval b X.env)]:=by rfl)(hs2:starEach [b] X.env=[(false,eval b X.env)]:=by rfl) :
  PI X tg (.Call (.Name "range" p) [a,b] [] pos) (tI S X (.range2 ca cb)) :=
 (zhc hg hm (zO ha (zO hb yaO hs2) (by rw[hs,hs2])) hs hs2).imp λσ H R ⟨B,φ,st,ρ,rs,re,h⟩=>by
  simp only[evi]at h
  refine tE.bind rs re h λx H1 v st1 φ1 s1 rs1 re1 rv h1=>tE.bind rs1 re1 h1 λy H2 w st2 φ2 s2 rs2 re2 rw h2=>?_
  obtain⟨xs,e,h2⟩:=zcU h2
  obtain⟨i,j,rfl,rfl,hi,hj,rfl⟩:=zi1 e
  simp only[yd]at rv rw
  subst rv rw
  exact⟨i,j,rfl,⟨by omega,by omega,by omega,by omega⟩,h2.ok rs2 zdG⟩
theorem zb9:∀(xs:List PV) (k i:Nat),(yU k xs)[i]?=(xs[i]?).map λx=>.tup [.int ((k+i:Nat):Int),x]
 | [],k,i=>by simp[yU]
 |x::xs,k,0=>by simp[yU]
 |x::xs,k,i+1=>by
  simp only[yU,List.getElem?_cons_succ]
  rw[zb9 xs (k+1) i]
  have:k+1+i=k+(i+1):=by omega
  rw[this]
theorem zbO:∀(xs:List PV) (k:Nat),(yU k xs).length=xs.length
 | [],k=>rfl
 |x::xs,k=>by simp[yU,zbO xs]
theorem zjw {k:Bool}{vs:List PV}{xs:List V}{y:Addr}(rt:ybz X.K B φ H k y xs)(l:yh X.K S.cl B φ H vs xs):Drw S X B φ H (yU 0 vs) (Ite X.K y):=by
 have hl:=l.length
 have hp:=zbO vs 0
 refine⟨λφ' H' s=>⟨xs,(rt.step s).sq,by omega⟩,λi φ' H' s hi=>⟨xs,xs[i]'(by omega),(rt.step s).sq,by simp[show i<xs.length by omega]⟩,λi φ' H' st x H2 B' hB s rs hi q=>?_⟩
 obtain⟨T,hT,rfl,q⟩:=q
 obtain⟨v,hv⟩:∃v,vs[i]?=some v:=⟨vs[i]'(by omega),by simp[show i<vs.length by omega]⟩
 obtain⟨x',hx',rv⟩:=l.get i hv
 have e:=q xs x' (rt.step s).sq hx'
 subst e
 refine⟨.tup [.int i,v],?_,.tup_new hT rs ?_,λb o e=>by rw[zd (zh e hT)];exact e⟩
 ·rw[zb9,hv]
  simp
 ·simp only[yh,yd]
  exact⟨_,_,rfl,rfl,x',[],rfl,(rv.moreB hB).step s,rfl⟩
theorem zlF {es:List Expr}{kk:Nat}{tp:Pos}(hg:Gl X "enumerate")(hm:X.mg "enumerate"=none)(ha:PE X a (tE S X ca))(hs:starEach [a] X.env=[(false,eval a X.env)]:=by rfl) :
  PI X (.Tuple es kk tp) (.Call (.Name "enumerate" p) [a] [] pos) (tI S X (.enum ca)) :=
 (ziG hg hm (zO ha yaO hs) hs).imp λσ H R ⟨B,φ,st,ρ,rs,re,h⟩=>by
  simp only[evi]at h
  refine tE.bind rs re h λx H1 v st1 φ1 s1 rs1 re1 rv h1=>?_
  cases v with
  |tp k vs =>
   simp only[yd]at rv
   obtain⟨y,xs,rfl,rt,l⟩:=rv
   exact⟨y,rfl,⟨xs,rt.sq⟩,h1.ok rs1 (zjw rt l)⟩
  |_=>exact h1.elim
def tG (S:Se)(X:Cx)(t:Tg):TG:=λv σ H Q=>∃B φ st ρ w ρ',yp X.K S.cl B φ H st/\yG X.K S.cl B φ H ρ σ/\yd X.K S.cl B φ H w v/\yJ t w ρ=some ρ'/\∀σ',yG X.K S.cl B φ H ρ' σ'->Q σ' H
theorem PG.imp {t t':TG}(h:PG X tg t')(k:∀v σ H Q,t v σ H Q->t' v σ H Q):PG X tg t:=λpins s σ H v u Q I rv q=>h pins s σ H v u Q I rv (k v σ H Q q)
theorem zkV {i:Nat}{x:Str}(hN:X.N.Nodup)(hi:X.N[i]?=some x)(hx:Loc X.env.scope x)(hf:X.fn x=true \/ X.env.scope.names.lookup x=some .local:=by first|exact .inl rfl|exact .inr rfl|assumption):PG X (.Name x pos) (tG S X (.n i)) :=
 (zhG hN hi hx hf).imp λv σ H Q ⟨B,φ,st,ρ,w,ρ',rs,re,rv,e,q⟩=>by
  cases e
  exact q _ (re.set i rv)
noncomputable def gNs (l:List Nat):TGs:=λvs σ H Q=>vs.length=l.length/\Q ((l.zip vs).foldl (λσ p=>σ.set p.1 (some p.2)) σ) H
theorem PGs.imp {es:List Expr}{t t':TGs}(h:PGs X es t')(k:∀v σ H Q,t v σ H Q->t' v σ H Q):PGs X es t:=λpins s σ H vs us Q I rv q=>h pins s σ H vs us Q I rv (k vs σ H Q q)
theorem zla:PGs X [] (gNs []):=yco.imp λvs σ H Q ⟨h,q⟩=>by
 cases vs with
 |nil=>exact⟨rfl,q⟩
 |cons _ _=>cases h
theorem ziZ {es:List Expr}{l:List Nat}{i:Nat}{x:Str}(hN:X.N.Nodup)(hi:X.N[i]?=some x)(hx:Loc X.env.scope x)(h2:PGs X es (gNs l))(hf:X.fn x=true \/ X.env.scope.names.lookup x=some .local:=by first|exact .inl rfl|exact .inr rfl|assumption):PGs X (.Name x pos::es) (gNs (i::l)) :=
 (zjo (zhG hN hi hx hf) h2).imp λvs σ H Q ⟨h,q⟩=>by
  cases vs with
  |nil=>cases h
  |cons v vs=>exact⟨v,vs,rfl,by simpa using h,q⟩
theorem yG.sets {K:PySem.W.Frag}{cl:Nat->Addr}:∀(l:List Nat) {vs:List PV} {xs:List V} {ρ:IC.Env} {σ:St},yG K cl B φ H ρ σ->yh K cl B φ H vs xs ->
  yG K cl B φ H ((l.zip vs).foldl (λρ p=>ρ.set p.1 (some p.2)) ρ) ((l.zip xs).foldl (λσ p=>σ.set p.1 (some p.2)) σ)
 | [],vs,xs,ρ,σ,re,l=>by simpa using re
 |i::is,[],xs,ρ,σ,re,l=>by
  simp only[yh]at l
  subst l
  simpa using re
 |i::is,v::vs,xs,ρ,σ,re,l=>by
  simp only[yh]at l
  obtain⟨y,ys,rfl,r,l⟩:=l
  simp only[List.zip_cons_cons,List.foldl_cons]
  exact yG.sets is (re.set i r) l
theorem zmI {es:List Expr}{l:List Nat}{k:Nat}(hc:X.calm=true)(h:PGs X es (gNs l))(hn:(assignEach es X.env).length=l.length:=by rfl)(hst:(assignEach es X.env).findIdx? (·.1)=none:=by rfl):PG X (.Tuple es k pos) (tG S X (.t l)) :=
 (zm8 hc h hn hst).imp λv σ H Q ⟨B,φ,st,ρ,w,ρ',rs,re,rv,e,q⟩=>by
  cases w with
  |tp kk vs =>
   simp only[yJ]at e
   split at e
   ·rename_i c
    cases e
    simp only[yd]at rv
    obtain⟨y,xs,rfl,rt,lr⟩:=rv
    have hl:=lr.length
    exact⟨y,xs,rfl,rt.sq,by omega,by omega,q _ (yG.sets l re lr)⟩
   ·cases e
  |_=>cases e
theorem zkZ {es:List Expr}{l:List Nat}{k:Nat}(he:PE X a (tE S X ca))(hg:PG X (.Tuple es k p2) (tG S X (.t l)))(hs:swapsWithSole [.Tuple es k p2] a pos.line X.env=pure false:=by rfl)(hw:swappedStores [.Tuple es k p2] a X.env=pure none:=by rfl) :
  PS X (.Assign [.Tuple es k p2] a pos) (tS S X (.asg (.t l) ca)) :=
 (zjZ he hg hs hw).imp λD σ H ⟨B,φ,st,ρ,rs,re,h⟩=>by
  simp only[ex]at h
  refine tE.fl rs re h λx H1 v st1 φ1 s rs1 re1 rv h1=>?_
  cases e:yJ (.t l) v ρ with
  |none=>rw[e]at h1;exact h1.elim
  |some ρ' =>
   rw[e]at h1
   exact⟨B,φ1,st1,ρ,v,ρ',rs1,re1,rv,e,λσ' re'=>h1 σ' H1 φ1 .rfl rs1 re'⟩
theorem tI.fl {k:List PV->Store->Fl}{P:It->Hp->Prop}(rs:yp X.K S.cl B φ H st)(re:yG X.K S.cl B φ H ρ σ)(h:yay S X B φ H ((evi S.call ρ st ci).fl ρ k) D)
  (n:∀x H1 v st1 φ1,Step φ H φ1 H1->yp X.K S.cl B φ1 H1 st1->yG X.K S.cl B φ1 H1 ρ σ->Drw S X B φ1 H1 v x->yay S X B φ1 H1 (k v st1) D->P x H1):tI S X ci σ H P:=by
 refine⟨B,φ,st,ρ,rs,re,?_⟩
 cases e:evi S.call ρ st ci with
 |ok v st' =>
  rw[e]at h
  exact λx H' φ' s rs' rv=>n x H' v st' φ' s rs' (re.step s) rv (h.on s)
 |exc k st' =>
  rw[e]at h
  exact λe s' x=>h σ φ H e s' .rfl re x
 |bad=>rw[e]at h;exact h
theorem zoe (hp:PassesOwn (model X.prog X.w) X.A X.env X.xe)(hc:X.calm=true)(hi:PI X tg l (tI S X ci))(hg:PG X tg (tG S X ct))(hb:PSs X ss (tSs S X cs))(hs:∀x,foldedSetIterable l X.env x=pure x:=by intro _;rfl) :
  PS X (.For tg l ss [] pos) (tS S X (.for ct ci cs)) :=
 (zns hp hc hi hg hb hs).imp λD σ H ⟨B,φ,st,ρ,rs,re,h⟩=>by
  simp only[ex]at h
  refine tI.fl rs re h λJ H1 xs st1 φ1 s1 rs1 re1 dr h1=>?_
  refine⟨λi m σ H=>∃φ st ρ,i+m=xs.length/\Step φ1 H1 φ H/\yp X.K S.cl B φ H st/\yG X.K S.cl B φ H ρ σ/\yay S X B φ H (forL ct (λρ2 st2=>exs S.call ρ2 st2 cs) (xs.drop i) ρ st) D,
   ⟨xs.length,φ1,st1,ρ,by omega,.rfl,rs1,re1,by simpa using h1⟩,?_⟩
  rintro i m σ2 H2 ⟨φ2,st2,ρ2,hm,s2,rs2,re2,h2⟩
  by_cases hi:i<xs.length
  ·refine .inr ⟨dr.go i φ2 H2 s2 hi,λσ' H'=>∃φ st ρ,Step φ1 H1 φ H'/\yp X.K S.cl B φ H' st/\yG X.K S.cl B φ H' ρ σ'/\yay S X B φ H' (forL ct (λρ2 st2=>exs S.call ρ2 st2 cs) (xs.drop (i+1)) ρ st) D,
    λσ' H' ⟨φ,st,ρ,s,q⟩=>⟨m - 1,by omega,φ,st,ρ,by omega,s,q⟩,λx H3 hy=>?_⟩
   obtain⟨v,hv,rv,kk⟩:=dr.yld i φ2 H2 st2 x H3 B (λ_ z=>.inl z) s2 rs2 hi hy
   have e:xs.drop i=v::xs.drop (i+1):=by
    rw[List.drop_eq_getElem_cons hi]
    rw[List.getElem?_eq_getElem hi]at hv
    rw[Option.some.inj hv]
   have s3:Step φ2 H2 φ2 H3:=⟨λb o _ e=>kk b o e,Nat.le_refl _,λ_ _ _ e=>e,λ_ h=>.inl h⟩
   have rs3:yp X.K S.cl B φ2 H3 st2:=rs2.same kk
   rw[e,forL]at h2
   cases eb:yJ ct v ρ2 with
   |none=>rw[eb]at h2;exact h2.elim
   |some ρ3 =>
    rw[eb]at h2
    refine⟨B,φ2,st2,ρ2,v,ρ3,rs3,re2.step s3,rv,eb,λσ' re'=>⟨B,φ2,st2,ρ3,rs3,re',?_⟩⟩
    have h3:=yay.on s3 h2
    dsimp only at h3
    cases ee:exs S.call ρ3 st2 cs with
    |nx ρ4 st4 =>
     rw[ee]at h3
     exact λσ4 H4 φ4 s4 rs4 re4=>⟨φ4,st4,ρ4,s2.trans (s3.trans s4),rs4,re4,yay.on s4 h3⟩
    |ct ρ4 st4 =>
     rw[ee]at h3
     exact λσ4 H4 φ4 s4 rs4 re4=>⟨φ4,st4,ρ4,s2.trans (s3.trans s4),rs4,re4,yay.on s4 h3⟩
    |bk ρ4 st4=>rw[ee]at h3;exact h3
    |rt v4 st4=>rw[ee]at h3;exact h3
    |exc k ρ4 st4=>rw[ee]at h3;exact h3
    |bad=>rw[ee]at h3;exact h3
  ·have e:i=xs.length:=by omega
   subst e
   rw[List.drop_length,forL]at h2
   exact .inl ⟨dr.stop φ2 H2 s2,h2 σ2 H2 φ2 .rfl rs2 re2⟩
theorem ziY (hp:PassesOwn (model X.prog X.w) X.A X.env X.xe)(hc:PT X c (tTs S X cc))(hb:PSs X ss (tSs S X cs)):PS X (.While c ss [] pos) (tS S X (.while cc cs)) :=
 (zjn hp hc hb).imp λD σ H ⟨B,φ,st,ρ,rs,re,h⟩=>by
  simp only[ex]at h
  refine⟨λm σ H=>∃φ st ρ,yp X.K S.cl B φ H st/\yG X.K S.cl B φ H ρ σ/\yay S X B φ H (yag (λρ2 st2=>ev S.call ρ2 st2 cc) (λρ2 st2=>exs S.call ρ2 st2 cs) m ρ st) D,⟨100000,φ,st,ρ,rs,re,h⟩,?_⟩
  rintro m σ2 H2 ⟨φ2,st2,ρ2,rs2,re2,h2⟩
  cases m with
  |zero=>exact h2.elim
  |succ m =>
   rw[yag]at h2
   rw[flT _ λk st1=>cond k (yak (exs S.call ρ2 st1 cs) λρ2 st2=>yag (λρ2 st2=>ev S.call ρ2 st2 cc) (λρ2 st2=>exs S.call ρ2 st2 cs) m ρ2 st2) (.nx ρ2 st1)]at h2
   refine tTs.fl rs2 re2 h2 λk H3 st3 φ3 s3 rs3 re3 h3=>?_
   cases k with
   |false=>exact h3 σ2 H3 φ3 .rfl rs3 re3
   |true =>
    refine⟨λσ' H'=>∃φ st ρ,yp X.K S.cl B φ H' st/\yG X.K S.cl B φ H' ρ σ'/\yay S X B φ H' (yag (λρ2 st2=>ev S.call ρ2 st2 cc) (λρ2 st2=>exs S.call ρ2 st2 cs) m ρ st) D,
     λσ' H' q=>⟨m,by omega,q⟩,B,φ3,st3,ρ2,rs3,re3,?_⟩
    simp only[cond_true]at h3
    cases ee:exs S.call ρ2 st3 cs with
    |nx ρ4 st4 =>
     rw[ee]at h3
     exact λσ4 H4 φ4 s4 rs4 re4=>⟨φ4,st4,ρ4,rs4,re4,yay.on s4 h3⟩
    |ct ρ4 st4 =>
     rw[ee]at h3
     exact λσ4 H4 φ4 s4 rs4 re4=>⟨φ4,st4,ρ4,rs4,re4,yay.on s4 h3⟩
    |bk ρ4 st4=>rw[ee]at h3;exact h3
    |rt v4 st4=>rw[ee]at h3;exact h3
    |exc k ρ4 st4=>rw[ee]at h3;exact h3
    |bad=>rw[ee]at h3;exact h3
end
section
variable (S:Se)(K:PySem.W.Frag)
def yeG {α β:Type}(B:Addr->Prop)(φ:Ph)(H:Hp)(Rel:Ph->Hp->α->β->Prop)(r:R α)(Q:β->Hp->Prop):Prop :=
 match r with
 | .ok v st'=>∀x H' φ',Step φ H φ' H'->yp K S.cl B φ' H' st'->Rel φ' H' v x->Q x H'
 |_=>False
def tE0 (c:Ce):TE:=λσ H Q=>∃B φ st ρ,yp K S.cl B φ H st/\yG K S.cl B φ H ρ σ/\yeG S K B φ H (λφ H=>yd K S.cl B φ H) (ev S.call ρ st c) Q
def tT0 (c:Ce):TT:=λσ H Q=>∃B φ st ρ,yp K S.cl B φ H st/\yG K S.cl B φ H ρ σ/\yeG S K B φ H RB (yaX (ev S.call ρ st c)) Q
def tG0 (t:Tg):TG:=λv σ H Q=>∃B φ st ρ w ρ',yp K S.cl B φ H st/\yG K S.cl B φ H ρ σ/\yd K S.cl B φ H w v/\yJ t w ρ=some ρ'/\∀σ',yG K S.cl B φ H ρ' σ'->Q σ' H
end
section
variable {S:Se}{X:Cx}{K:PySem.W.Frag}{cl:Nat->Addr}{σ:St}{B:Addr->Prop}{φ φ1:Ph}{H H1:Hp}{st:Store}{ρ:IC.Env}{pos p p2 px:Pos}{a b c o tg l elt iter:Expr}{ca cb cc ce:Ce}{ci:Cit}{ct:Tg}
theorem zlL (hK:X.K=K)(h:PE X a (tE S X ca)):PE X a (tE0 S K ca):=by
 subst hK
 refine h.imp λσ H Q ⟨B,φ,st,ρ,rs,re,q⟩=>⟨B,φ,st,ρ,rs,re,?_⟩
 cases e:ev S.call ρ st ca with
 |ok v st'=>rw[e]at q;exact q
 |exc k st'=>rw[e]at q;exact q.elim
 |bad=>rw[e]at q;exact q
theorem zlc (hK:X.K=K)(h:PT X a (tTs S X ca)):PTs X [a] (tT0 S K ca):=by
 subst hK
 refine zkX (h.imp λσ H Q ⟨B,φ,st,ρ,rs,re,q⟩=>⟨B,φ,st,ρ,rs,re,?_⟩)
 cases e:yaX (ev S.call ρ st ca)with
 |ok v st'=>rw[e]at q;exact q
 |exc k st'=>rw[e]at q;exact q.elim
 |bad=>rw[e]at q;exact q
theorem ziX:PTs X [] (tT0 S K (.cst (.bl true))):=λpins s σ H Q I ⟨B,φ,st,ρ,rs,re,q⟩=>by
 refine zkr pins s σ H Q I ?_
 simp only[ev,yaX,R.bind,yaD,onO]at q
 exact q true H φ .rfl rs rfl
theorem zlW (hK:X.K=K)(h:PG X tg (tG S X ct)):PG X tg (tG0 S K ct):=by
 subst hK
 exact h
theorem ybz.skip {k:Bool}{D y:Addr}{u:HO}{xs:List V}(hD:B D)(r:ybz K B φ H k y xs):ybz K B φ (L2.upd H D u) k y xs:=by
 rcases r with⟨r,b,n⟩|r
 ·exact .inl ⟨by rw[zd (show y≠D from λz=>b (z ▸ hD))];exact r,b,n⟩
 ·exact .inr r
mutual
theorem yd.skip {D:Addr}{u:HO}(hD:B D):∀(v:PV) (x:V),yd K cl B φ H v x->yd K cl B φ (L2.upd H D u) v x
 | .non,x,h=>by simp only[yd]at h ⊢;exact h
 | .bl b,x,h=>by simp only[yd]at h ⊢;exact h
 | .int i,x,h=>by simp only[yd]at h ⊢;exact h
 | .str y,x,h=>by simp only[yd]at h ⊢;exact h
 | .tp k vs,x,h=>by
  simp only[yd]at h ⊢
  obtain⟨y,xs,e,r,l⟩:=h
  exact⟨y,xs,e,r.skip hD,yh.skip hD vs xs l⟩
 | .lst vs,x,h=>by
  simp only[yd]at h ⊢
  obtain⟨y,xs,e,⟨r,b,n⟩,l⟩:=h
  exact⟨y,xs,e,⟨by rw[zd (show y≠D from λz=>b (z ▸ hD))];exact r,b,n⟩,yh.skip hD vs xs l⟩
 | .loc n,x,h=>by simp only[yd]at h ⊢;exact h
 | .exn c,x,h=>by
  simp only[yd]at h ⊢
  obtain⟨y,e,r,b,n⟩:=h
  exact⟨y,e,by rw[zd (show y≠D from λz=>b (z ▸ hD))];exact r,b,n⟩
 | .scr vs,x,h=>by
  simp only[yd]at h ⊢
  obtain⟨y,xs,e,r,l⟩:=h
  refine⟨y,xs,e,?_,yh.skip hD vs xs l⟩
  rcases r with⟨r,b,n⟩|r
  ·refine .inl ⟨?_,b,n⟩
   have ne:y≠D:=λz=>b (z ▸ hD)
   rcases r with r|⟨o,r⟩
   ·exact .inl (by rw[zd ne];exact r)
   ·exact .inr ⟨o,by rw[zd ne];exact r⟩
  ·exact .inr r
theorem yh.skip {D:Addr}{u:HO}(hD:B D):∀(v:List PV) (x:List V),yh K cl B φ H v x->yh K cl B φ (L2.upd H D u) v x
 | [],x,h=>by simp only[yh]at h ⊢;exact h
 |v::vs,x,h=>by
  simp only[yh]at h ⊢
  obtain⟨y,ys,e,r,l⟩:=h
  exact⟨y,ys,e,yd.skip hD v y r,yh.skip hD vs ys l⟩
end
theorem DK.skip {D:Addr}{u:HO}(hD:B D):∀{kvs:List (PV×PV)} {ks:List (Key×V)},DK K cl B φ H kvs ks->DK K cl B φ (L2.upd H D u) kvs ks
 | [],ks,h=>h
 | (k,v)::r,ks,h=>by
  obtain⟨q,x,t,e,m,rv,l⟩:=h
  exact⟨q,x,t,e,m,rv.skip hD,DK.skip hD l⟩
theorem DT.skip {D:Addr}{u:HO}(hD:B D):∀{kvs:List (PV×PV)} {ks:List (List Key×V)},DT K cl B φ H kvs ks->DT K cl B φ (L2.upd H D u) kvs ks
 | [],ks,h=>h
 | (k,v)::r,ks,h=>by
  obtain⟨q,x,t,e,m,rv,l⟩:=h
  exact⟨q,x,t,e,m,rv.skip hD,DT.skip hD l⟩
theorem FS.skip {D:Addr}{u:HO}(hD:B D):∀{kvs:List (Str×PV)} {ks:List (Str×V)},FS K cl B φ H kvs ks->FS K cl B φ (L2.upd H D u) kvs ks
 | [],ks,h=>h
 | (k,v)::r,ks,h=>by
  obtain⟨x,t,e,rv,l⟩:=h
  exact⟨x,t,e,rv.skip hD,FS.skip hD l⟩
theorem yp.skip {D:Addr}{u:HO}(hD:B D)(rs:yp K cl B φ H st):yp K cl B φ (L2.upd H D u) st:=by
 refine⟨rs.len,rs.inj,λn y e=>?_,rs.liv,rs.nb,λy h=>?_⟩
 ·obtain⟨o,q,r⟩:=rs.obj n y e
  have ne:y≠D:=λz=>rs.nb y (List.mem_of_getElem? e) (z ▸ hD)
  refine⟨o,q,?_⟩
  cases o with
  |lst vs =>
   obtain⟨xs,hx,l⟩:=r
   exact⟨xs,by rw[zd ne];exact hx,l.skip hD⟩
  |dct t kvs =>
   cases t with
   |false =>
    obtain⟨xs,hx,l⟩:=r
    exact⟨xs,by rw[zd ne];exact hx,l.skip hD⟩
   |true =>
    obtain⟨xs,hx,l⟩:=r
    exact⟨xs,by rw[zd ne];exact hx,l.skip hD⟩
  |ins c fs =>
   obtain⟨ks,⟨dx,hx⟩,l⟩:=r
   exact⟨ks,⟨dx,by rw[zd ne];exact hx⟩,l.skip hD⟩
  |dead=>exact r.elim
 ·by_cases z:y=D
  ·subst z;exact⟨u,zj⟩
  ·obtain⟨w,e⟩:=rs.dom y h
   exact⟨w,by rw[zd z];exact e⟩
theorem yG.skip {D:Addr}{u:HO}(hD:B D)(re:yG K cl B φ H ρ σ):yG K cl B φ (L2.upd H D u) ρ σ:=⟨re.len,λi v e=>by
 obtain⟨x,h,q⟩:=re.get i v e
 exact⟨x,h,q.skip hD⟩⟩
noncomputable def Bx (B:Addr->Prop)(D:Addr):Addr->Prop:=λy=>B y \/ y=D
theorem zhj {D:Addr}(hn:H D=none):∀y,Bx B D y->B y \/ H y=none:=λy z=>z.elim .inl λq=>.inr (q ▸ hn)
theorem yd.more {D:Addr}(hn:H D=none){v:PV}{x:V}(h:yd K cl B φ H v x):yd K cl (Bx B D) φ H v x:=h.moreB (zhj hn)
theorem yh.more {D:Addr}(hn:H D=none){v:List PV}{x:List V}(h:yh K cl B φ H v x):yh K cl (Bx B D) φ H v x:=h.moreB (zhj hn)
mutual
theorem yd.less {D:Addr}:∀(v:PV) (x:V),yd K cl (Bx B D) φ H v x->yd K cl B φ H v x
 | .non,x,h=>by simp only[yd]at h ⊢;exact h
 | .bl b,x,h=>by simp only[yd]at h ⊢;exact h
 | .int i,x,h=>by simp only[yd]at h ⊢;exact h
 | .str y,x,h=>by simp only[yd]at h ⊢;exact h
 | .tp k vs,x,h=>by
  simp only[yd]at h ⊢
  obtain⟨y,xs,e,r,l⟩:=h
  refine⟨y,xs,e,?_,yh.less vs xs l⟩
  rcases r with⟨r,b,n⟩|r
  ·exact .inl ⟨r,λz=>b (.inl z),n⟩
  ·exact .inr r
 | .lst vs,x,h=>by
  simp only[yd]at h ⊢
  obtain⟨y,xs,e,⟨r,b,n⟩,l⟩:=h
  exact⟨y,xs,e,⟨r,λz=>b (.inl z),n⟩,yh.less vs xs l⟩
 | .loc n,x,h=>by simp only[yd]at h ⊢;exact h
 | .exn c,x,h=>by
  simp only[yd]at h ⊢
  obtain⟨y,e,r,b,n⟩:=h
  exact⟨y,e,r,λz=>b (.inl z),n⟩
 | .scr vs,x,h=>by
  simp only[yd]at h ⊢
  obtain⟨y,xs,e,r,l⟩:=h
  refine⟨y,xs,e,?_,yh.less vs xs l⟩
  rcases r with⟨r,b,n⟩|r
  ·exact .inl ⟨r,λz=>b (.inl z),n⟩
  ·exact .inr r
theorem yh.less {D:Addr}:∀(v:List PV) (x:List V),yh K cl (Bx B D) φ H v x->yh K cl B φ H v x
 | [],x,h=>by simp only[yh]at h ⊢;exact h
 |v::vs,x,h=>by
  simp only[yh]at h ⊢
  obtain⟨y,ys,e,r,l⟩:=h
  exact⟨y,ys,e,yd.less v y r,yh.less vs ys l⟩
end
theorem DK.more {D:Addr}(hn:H D=none):∀{kvs:List (PV×PV)} {ks:List (Key×V)},DK K cl B φ H kvs ks->DK K cl (Bx B D) φ H kvs ks
 | [],ks,h=>h
 | (k,v)::r,ks,h=>by
  obtain⟨q,x,t,e,m,rv,l⟩:=h
  exact⟨q,x,t,e,m,rv.more hn,DK.more hn l⟩
theorem DT.more {D:Addr}(hn:H D=none):∀{kvs:List (PV×PV)} {ks:List (List Key×V)},DT K cl B φ H kvs ks->DT K cl (Bx B D) φ H kvs ks
 | [],ks,h=>h
 | (k,v)::r,ks,h=>by
  obtain⟨q,x,t,e,m,rv,l⟩:=h
  exact⟨q,x,t,e,m,rv.more hn,DT.more hn l⟩
theorem FS.more {D:Addr}(hn:H D=none):∀{kvs:List (Str×PV)} {ks:List (Str×V)},FS K cl B φ H kvs ks->FS K cl (Bx B D) φ H kvs ks
 | [],ks,h=>h
 | (k,v)::r,ks,h=>by
  obtain⟨x,t,e,rv,l⟩:=h
  exact⟨x,t,e,rv.more hn,FS.more hn l⟩
theorem DK.less {D:Addr}:∀{kvs:List (PV×PV)} {ks:List (Key×V)},DK K cl (Bx B D) φ H kvs ks->DK K cl B φ H kvs ks
 | [],ks,h=>h
 | (k,v)::r,ks,h=>by
  obtain⟨q,x,t,e,m,rv,l⟩:=h
  exact⟨q,x,t,e,m,rv.less,DK.less l⟩
theorem DT.less {D:Addr}:∀{kvs:List (PV×PV)} {ks:List (List Key×V)},DT K cl (Bx B D) φ H kvs ks->DT K cl B φ H kvs ks
 | [],ks,h=>h
 | (k,v)::r,ks,h=>by
  obtain⟨q,x,t,e,m,rv,l⟩:=h
  exact⟨q,x,t,e,m,rv.less,DT.less l⟩
theorem FS.less {D:Addr}:∀{kvs:List (Str×PV)} {ks:List (Str×V)},FS K cl (Bx B D) φ H kvs ks->FS K cl B φ H kvs ks
 | [],ks,h=>h
 | (k,v)::r,ks,h=>by
  obtain⟨x,t,e,rv,l⟩:=h
  exact⟨x,t,e,rv.less,FS.less l⟩
theorem yp.less {D:Addr}(rs:yp K cl (Bx B D) φ H st):yp K cl B φ H st:=by
 refine⟨rs.len,rs.inj,λn y e=>?_,rs.liv,λy h z=>rs.nb y h (.inl z),λy h=>rs.dom y (.inl h)⟩
 obtain⟨o,q,r⟩:=rs.obj n y e
 refine⟨o,q,?_⟩
 cases o with
 |lst vs=>obtain⟨xs,hx,l⟩:=r;exact⟨xs,hx,l.less⟩
 |dct t kvs=>cases t <;> (obtain⟨xs,hx,l⟩:=r;exact⟨xs,hx,l.less⟩)
 |ins c fs=>obtain⟨ks,hx,l⟩:=r;exact⟨ks,hx,l.less⟩
 |dead=>exact r.elim
theorem yp.more {D:Addr}{u:HO}(hn:H D=none)(rs:yp K cl B φ H st):yp K cl (Bx B D) φ (L2.upd H D u) st:=by
 have nD:some D∉φ:=λz=>by
  obtain⟨w,e⟩:=rs.there z
  rw[hn]at e;cases e
 have s:Step φ H φ (L2.upd H D u):=.upd hn
 have rs':=rs.upd (o:=u) hn
 refine⟨rs.len,rs.inj,λn y e=>?_,rs.liv,λy h z=>z.elim (rs.nb y h) λq=>nD (q ▸ h),λy h=>?_⟩
 ·obtain⟨o,q,r⟩:=rs.obj n y e
  have ne:y≠D:=λz=>nD (z ▸ List.mem_of_getElem? e)
  have hD:Bx B D D:=.inr rfl
  refine⟨o,q,?_⟩
  cases o with
  |lst vs=>obtain⟨xs,hx,l⟩:=r;exact⟨xs,by rw[zd ne];exact hx,(l.more hn).skip hD⟩
  |dct t kvs =>
   cases t with
   |false=>obtain⟨xs,hx,l⟩:=r;exact⟨xs,by rw[zd ne];exact hx,(l.more hn).skip hD⟩
   |true=>obtain⟨xs,hx,l⟩:=r;exact⟨xs,by rw[zd ne];exact hx,(l.more hn).skip hD⟩
  |ins c fs=>obtain⟨ks,⟨dx,hx⟩,l⟩:=r;exact⟨ks,⟨dx,by rw[zd ne];exact hx⟩,(l.more hn).skip hD⟩
  |dead=>exact r.elim
 ·rcases h with h|h
  ·exact rs'.dom y h
  ·subst h;exact⟨u,zj⟩
theorem yG.more {D:Addr}{u:HO}(hn:H D=none)(re:yG K cl B φ H ρ σ):yG K cl (Bx B D) φ (L2.upd H D u) ρ σ:=⟨re.len,λi v e=>by
 obtain⟨x,h,q⟩:=re.get i v e
 exact⟨x,h,(q.more hn).skip (.inr rfl)⟩⟩
noncomputable def yaj:Tg->List (Option Nat)->Bool
 | .n i,sl=>decide (sl[i]?=some none)
 | .t l,sl=>l.all λi=>decide (sl[i]?=some none)
theorem zfu:∀(l:List Nat) (vs:List PV) (ρ:IC.Env) (j:Nat),j∉l->((l.zip vs).foldl (λρ p=>ρ.set p.1 (some p.2)) ρ)[j]?=ρ[j]?
 | [],vs,ρ,j,h=>by simp
 |i::is,[],ρ,j,h=>by simp
 |i::is,v::vs,ρ,j,h=>by
  simp only[List.zip_cons_cons,List.foldl_cons]
  rw[zfu is vs _ j λz=>h (List.mem_cons_of_mem _ z),List.getElem?_set_ne]
  rintro rfl
  exact h List.mem_cons_self
theorem zfh:∀(l:List Nat) (vs:List PV) (ρ:IC.Env),((l.zip vs).foldl (λρ p=>ρ.set p.1 (some p.2)) ρ).length=ρ.length
 | [],vs,ρ=>by simp
 |i::is,[],ρ=>by simp
 |i::is,v::vs,ρ=>by
  simp only[List.zip_cons_cons,List.foldl_cons]
  rw[zfh is vs,List.length_set]
theorem yG.untgt {sl:List (Option Nat)}{ρ0 ρ1:IC.Env}{v:PV}(hf:yaj ct sl=true)(h0:∀(i:Nat),sl[i]?=some none->ρ0[i]?=some none)(hb:yJ ct v ρ0=some ρ1)(re:yG K cl B φ H ρ1 σ):yG K cl B φ H ρ0 σ:=by
 cases ct with
 |n i =>
  cases hb
  simp only[yaj,decide_eq_true_eq]at hf
  refine⟨by rw[<- re.len,List.length_set],λj w e=>re.get j w ?_⟩
  rw[List.getElem?_set_ne]
  ·exact e
  ·rintro rfl
   rw[h0 _ hf]at e;cases e
 |t l =>
  cases v with
  |tp k vs =>
   simp only[yJ]at hb
   split at hb
   ·cases hb
    simp only[yaj,List.all_eq_true,decide_eq_true_eq]at hf
    refine⟨by rw[<- re.len,zfh],λj w e=>re.get j w ?_⟩
    rw[zfu]
    ·exact e
    ·intro z
     rw[h0 _ (hf j z)]at e;cases e
   ·cases hb
  |_=>cases hb
theorem yG.inn {sl:List (Option Nat)}(re:yG K cl B φ H ρ σ):yG K cl B φ H (sl.map λo=>o.bind λj=>(ρ[j]?).join) (L2.inn sl σ):=by
 unfold L2.inn
 refine⟨by simp,λi v e=>?_⟩
 rw[List.getElem?_map]at e ⊢
 cases q:sl[i]? with
 |none=>rw[q]at e;cases e
 |some o =>
  rw[q]at e
  cases o with
  |none=>cases e
  |some j =>
   simp only[Option.map_some,Option.bind_some,Option.some.injEq]at e ⊢
   cases q2:ρ[j]? with
   |none=>rw[q2]at e;cases e
   |some w =>
    rw[q2]at e
    simp only[Option.join_some]at e
    subst e
    obtain⟨x,hx,rv⟩:=re.get j v q2
    exact⟨x,by rw[hx];rfl,rv⟩
theorem yb8:1000000<sizeLine:=by rw[sizeLine_eq];decide
theorem zoc {α:Type}{o:Option Bool}{k:Bool->R α}{z:α}{s:Store}(h:onO o k=.ok z s):∃b,o=some b/\k b=.ok z s:=by
 cases o with
 |none=>cases h
 |some b=>exact⟨b,rfl,h⟩
theorem zad {α β:Type}{r:R α}{k:α->Store->R β}{z:β}{s:Store}(h:r.bind k=.ok z s):∃a s1,r=.ok a s1/\k a s1=.ok z s:=by
 cases r with
 |ok a s1=>exact⟨a,s1,rfl,h⟩
 |exc c s=>cases h
 |bad=>cases h
theorem zea {sl:List (Option Nat)}(hf:yaj ct sl=true){H:Hp}{Q:VK}(h:tE S X (.comp sl ct ci cc ce) σ H Q):yck sl (tI S X ci) (tG0 S X.K ct) (tT0 S X.K cc) (tE0 S X.K ce) σ H Q:=by
  obtain⟨B,φ,st,ρ,rs,re,h⟩:=h
  simp only[ev]at h
  refine⟨B,φ,st,ρ,rs,re,(Run.bind h).mono λJ H1 ⟨xs,st1,φ1,s1,rs1,dr,h1⟩=>λD hD=>?_⟩
  generalize hone:(λ(x:PV) (st2:Store)=>match yJ ct x (sl.map λo=>o.bind λj=>(ρ[j]?).join)with
   |none=>(R.bad:R (Option PV))
   |some ρ1=>(ev S.call ρ1 st2 cc).bind λb st3=>onO (yaD st3 b) λk=>cond k ((ev S.call ρ1 st3 ce).bind λy st4=>.ok (some y) st4) (.ok none st3))=one at h1
  cases e:yaH one xs st1 with
  |exc k s=>rw[e]at h1;exact h1.elim
  |bad=>rw[e]at h1;exact h1.elim
  |ok zs st5 =>
   rw[e]at h1
   simp only[ybO]at h1
   split at h1
   case isFalse=>exact h1.elim
   rename_i hz
   have nB:¬B D:=rs1.nB hD
   have nD:some D∉φ1:=λz=>by
    obtain⟨w,e⟩:=rs1.there z
    rw[hD]at e;cases e
   refine⟨λi m σc ys H2=>∃φ2 st2 vs rest,i+m=xs.length/\Step φ1 H1 φ2 H2/\H2 D=some (.lst ys)/\some D∉φ2/\yp X.K S.cl (Bx B D) φ2 H2 st2/\yG X.K S.cl (Bx B D) φ2 H2 (sl.map λo=>o.bind λj=>(ρ[j]?).join) σc /\
     yh X.K S.cl (Bx B D) φ2 H2 vs ys/\yaH one (xs.drop i) st2=.ok rest st5/\vs++rest=zs,
    ⟨xs.length,φ1,st1,[],zs,by omega,.upd hD,zj,nD,rs1.more hD,(yG.inn (re.step s1)).more hD,by simp only[yh],by simpa using e,rfl⟩,?_⟩
   rintro i m σc ys H2 ⟨φ2,st2,vs,rest,hm,s2,hD2,nD2,rs2,re2,l2,ec,ez⟩
   refine⟨hD2,?_⟩
   by_cases hi:i<xs.length
   ·have hl2:=l2.length
    have hml:=yb8
    have hzl:=congrArg List.length ez
    rw[List.length_append]at hzl
    refine .inr ⟨dr.go i φ2 H2 s2 hi,by omega,λσ' ys' H'=>∃φ2 st2 vs rest,Step φ1 H1 φ2 H'/\H' D=some (.lst ys')/\some D∉φ2/\yp X.K S.cl (Bx B D) φ2 H' st2/\yG X.K S.cl (Bx B D) φ2 H' (sl.map λo=>o.bind λj=>(ρ[j]?).join) σ' /\
     yh X.K S.cl (Bx B D) φ2 H' vs ys'/\yaH one (xs.drop (i+1)) st2=.ok rest st5/\vs++rest=zs,λσ' ys' H' ⟨φ2,st2,vs,rest,q⟩=>⟨m - 1,by omega,φ2,st2,vs,rest,by omega,q⟩,λx H3 hy=>?_⟩
    obtain⟨v,hv,rv,kk⟩:=dr.yld i φ2 H2 st2 x H3 (Bx B D) (λy z=>z.elim .inl λq=>.inr (q ▸ hD)) s2 rs2 hi hy
    have s3:Step φ2 H2 φ2 H3:=⟨λb o _ e=>kk b o e,Nat.le_refl _,λ_ _ _ e=>e,λ_ h=>.inl h⟩
    have rs3:yp X.K S.cl (Bx B D) φ2 H3 st2:=rs2.same kk
    have ed:xs.drop i=v::xs.drop (i+1):=by
     rw[List.drop_eq_getElem_cons hi]
     rw[List.getElem?_eq_getElem hi]at hv
     rw[Option.some.inj hv]
    rw[ed,yaH]at ec
    obtain⟨o,st3,e1,ec⟩:=zad ec
    obtain⟨rest',st4,e2,ec⟩:=zad ec
    rw[<- hone]at e1
    dsimp only at e1
    cases eb:yJ ct v (sl.map λo=>o.bind λj=>(ρ[j]?).join)with
    |none=>rw[eb]at e1;cases e1
    |some ρ1 =>
     rw[eb]at e1
     dsimp only at e1
     obtain⟨bv,st6,e3,e1⟩:=zad e1
     obtain⟨k,e4,e1⟩:=zoc e1
     have er:st4=st5/\ybN o rest'=rest:=by
      injection ec with q1 q2
      exact⟨q2,q1⟩
     obtain⟨rfl,rfl⟩:=er
     refine⟨Bx B D,φ2,st2,_,v,ρ1,rs3,re2.step s3,rv,eb,λσ4 re4=>⟨Bx B D,φ2,st2,ρ1,rs3,re4,?_⟩⟩
     have et:yaX (ev S.call ρ1 st2 cc)=.ok k st6:=by
      rw[e3]
      simp only[yaX,R.bind,e4,onO]
     rw[et]
     rintro k' H5 φ5 s5 rs5 rfl
     have nD5:some D∉φ5:=λz=>by
      rcases s5.new D z with q|q
      ·exact nD2 q
      ·rw[kk D _ hD2]at q;cases q
     have hD5:H5 D=some (.lst ys):=s5.keep D _ nD2 (kk D _ hD2)
     have s25:Step φ1 H1 φ5 H5:=s2.trans (s3.trans s5)
     have l5:=(l2.step s3).step s5
     have re5:yG X.K S.cl (Bx B D) φ5 H5 ρ1 σ4:=re4.step s5
     have h0:∀(i:Nat),sl[i]?=some none->(sl.map λo=>o.bind λj=>(ρ[j]?).join)[i]?=some none:=λi q=>by
      rw[List.getElem?_map,q];rfl
     cases k with
     |false =>
      simp only[cond_false]at e1
      cases e1
      exact⟨φ5,_,vs,rest',s25,hD5,nD5,rs5,yG.untgt hf h0 eb re5,l5,e2,ez⟩
     |true =>
      simp only[cond_true]at e1
      obtain⟨y,st7,e5,e1⟩:=zad e1
      cases e1
      refine⟨Bx B D,φ5,st6,ρ1,rs5,re5,?_⟩
      rw[e5]
      intro y' H6 φ6 s6 rs6 ry
      have nD6:some D∉φ6:=λz=>by
       rcases s6.new D z with q|q
       ·exact nD5 q
       ·rw[hD5]at q;cases q
      have hD6:H6 D=some (.lst ys):=s6.keep D _ nD5 hD5
      have hBD:Bx B D D:=.inr rfl
      refine⟨hD6,φ6,_,vs++[y],rest',?_,zj,nD6,rs6.skip hBD,(yG.untgt hf h0 eb (re5.step s6)).skip hBD,((l5.step s6).append (by simp only[yh];exact⟨y',[],rfl,ry,rfl⟩)).skip hBD,e2,?_⟩
      ·have s16:=s25.trans s6
       exact⟨λb o n q=>by rw[zd (zh q hD)];exact s16.keep b o n q,s16.len,s16.pre,s16.new⟩
      ·simpa [ybN] using ez
   ·have ei:i=xs.length:=by omega
    subst ei
    rw[List.drop_length,yaH]at ec
    cases ec
    refine .inl ⟨dr.stop φ2 H2 s2,h1 (.ref D) H2 φ2 s2 rs2.less ?_⟩
    simp only[yd]
    exact⟨D,ys,rfl,⟨hD2,nB,nD2⟩,by rw[<- ez,List.append_nil];exact l2.less⟩
theorem zlK {sc:Scope}{NC:List Str}{sl:List (Option Nat)}{ifs:List Expr}(hc:X.calm=true)(O:yZ X sc NC sl)(hf:yaj ct sl=true)(hi:PI X tg iter (tI S X ci))(hg:∀j,PG (cxC X sc NC j) tg (tG0 S X.K ct))
  (ht:∀j,PTs (cxC X sc NC j) ifs (tT0 S X.K cc)) (he:∀j,PE (cxC X sc NC j) elt (tE0 S X.K ce)) (hs:∀x,foldedSetIterable iter X.env x=pure x:=by intro _;rfl) :
  PE X (.ListComp elt [⟨tg,iter,ifs,0⟩] sc pos) (tE S X (.comp sl ct ci cc ce)) :=
 (zkF hc O hi hg ht he hs).imp λσ H Q h=>zea hf h
theorem zkq {sc:Scope}{NC:List Str}{sl:List (Option Nat)}{ifs:List Expr}{i:Nat}{x:Str}{spos:Pos}(hN:X.N.Nodup)(hix:X.N[i]?=some x)(hx:Loc X.env.scope x)(hc:X.calm=true)(O:yZ X sc NC sl)(hf:yaj ct sl=true)(hi:PI X tg iter (tI S X ci))(hg:∀j,PG (cxC X sc NC j) tg (tG0 S X.K ct))
  (ht:∀j,PTs (cxC X sc NC j) ifs (tT0 S X.K cc)) (he:∀j,PE (cxC X sc NC j) elt (tE0 S X.K ce))
  (hsw:swapsWith (.ListComp elt [⟨tg,iter,ifs,0⟩] sc pos) (some (.Name x px)) spos.line X.env=pure true:=by rfl) (hs:∀x,foldedSetIterable iter X.env x=pure x:=by intro _;rfl)
  (hfn:X.fn x=true \/ X.env.scope.names.lookup x=some .local:=by first|exact .inl rfl|exact .inr rfl|assumption):PS X (.Assign [.Name x px] (.ListComp elt [⟨tg,iter,ifs,0⟩] sc pos) spos) (tS S X (.asg (.n i) (.comp sl ct ci cc ce))) :=
 (zkY hN hix hx hc O hi hg ht he hsw hs hfn).imp λD σ H ⟨B,φ,st,ρ,rs,re,h⟩=>by
  refine zea hf ?_
  simp only[ex]at h
  exact tE.fl rs re h λx H1 v st1 φ1 s rs1 re1 rv h1=>h1 _ H1 φ1 .rfl rs1 (re1.set i rv)
end
end L2
namespace IC
open PySem
def RLe {α:Type}(r q:R α):Prop:=r=.bad \/ r=q
def FLe (f g:Fl):Prop:=f=.bad \/ f=g
abbrev Cl:=Nat->List PV->Store->R PV
def CLe (c d:Cl):Prop:=∀f a s,RLe (c f a s) (d f a s)
theorem RLe.rfl {α:Type}{r:R α}:RLe r r:=.inr (Eq.refl _)
theorem FLe.rfl {f:Fl}:FLe f f:=.inr (Eq.refl _)
theorem RLe.bind {α β:Type}{r q:R α}{k l:α->Store->R β}(h:RLe r q)(hk:∀a s,RLe (k a s) (l a s)):RLe (r.bind k) (q.bind l):=by
 rcases h with h|h
 ·subst h;exact .inl (Eq.refl _)
 ·subst h
  cases r with
  |ok a s=>exact hk a s
  |exc c s=>exact .rfl
  |bad=>exact .rfl
theorem RLe.fl {α:Type}{r q:R α}{ρ:Env}{k l:α->Store->Fl}(h:RLe r q)(hk:∀a s,FLe (k a s) (l a s)):FLe (r.fl ρ k) (q.fl ρ l):=by
 rcases h with h|h
 ·subst h;exact .inl (Eq.refl _)
 ·subst h
  cases r with
  |ok a s=>exact hk a s
  |exc c s=>exact .rfl
  |bad=>exact .rfl
theorem RLe.comp {r q:R (List PV)}(h:RLe r q):RLe (ybO r) (ybO q):=by
 rcases h with h|h
 ·subst h;exact .inl (Eq.refl _)
 ·subst h;exact .rfl
theorem zgU {α:Type}{x:PV}{k l:Bool->R α}(h:∀b,RLe (k b) (l b)):RLe (onBl x k) (onBl x l):=by
 cases x with
 |bl b=>exact h b
 |_=>exact .rfl
theorem zdV {α:Type}{x:Option Bool}{k l:Bool->R α}(h:∀b,RLe (k b) (l b)):RLe (onO x k) (onO x l):=by
 cases x with
 |some b=>exact h b
 |none=>exact .rfl
theorem zjV {x:Option Bool}{k l:Bool->Fl}(h:∀b,FLe (k b) (l b)):FLe (onF x k) (onF x l):=by
 cases x with
 |some b=>exact h b
 |none=>exact .rfl
theorem zmX {α:Type}{x:Option (Option Int)}{k l:Option Int->R α}(h:∀b,RLe (k b) (l b)):RLe (onP x k) (onP x l):=by
 cases x with
 |some b=>exact h b
 |none=>exact .rfl
theorem zcf {α:Type}{b:Bool}{r q r' q':R α}(h:RLe r q)(h':RLe r' q'):RLe (cond b r r') (cond b q q'):=by
 cases b
 ·exact h'
 ·exact h
theorem zfn {b:Bool}{r q r' q':Fl}(h:FLe r q)(h':FLe r' q'):FLe (cond b r r') (cond b q q'):=by
 cases b
 ·exact h'
 ·exact h
theorem zbG {f g:PV->Store->R (Option PV)}(h:∀x s,RLe (f x s) (g x s)):∀xs s,RLe (yaH f xs s) (yaH g xs s)
 | [],s=>.rfl
 |x::xs,s=>(h x s).bind λo s1=>(zbG h xs s1).bind λys s2=>.rfl
theorem zb7 {f g:Fl}{k l:Env->Store->Fl}(h:FLe f g)(hk:∀ρ s,FLe (k ρ s) (l ρ s)):FLe (yak f k) (yak g l):=by
 rcases h with h|h
 ·subst h;exact .inl (Eq.refl _)
 ·subst h
  cases f with
  |nx ρ s=>exact hk ρ s
  |ct ρ s=>exact hk ρ s
  |_=>exact .rfl
theorem zda {t:Tg}{f g:Env->Store->Fl}(h:∀ρ s,FLe (f ρ s) (g ρ s)):∀xs ρ s,FLe (forL t f xs ρ s) (forL t g xs ρ s)
 | [],ρ,s=>.rfl
 |x::xs,ρ,s=>by
  unfold forL
  cases yJ t x ρ with
  |none=>exact .rfl
  |some ρ1=>exact zb7 (h ρ1 s) λρ2 s2=>zda h xs ρ2 s2
theorem zdE {t u:Env->Store->R PV}{f g:Env->Store->Fl}(ht:∀ρ s,RLe (t ρ s) (u ρ s))(h:∀ρ s,FLe (f ρ s) (g ρ s)):∀n ρ s,FLe (yag t f n ρ s) (yag u g n ρ s)
 |0,ρ,s=>.rfl
 |n+1,ρ,s=>by
  unfold yag
  exact(ht ρ s).fl λx s1=>zjV λb=>zfn (zb7 (h ρ s1) λρ2 s2=>zdE ht h n ρ2 s2) .rfl
mutual
theorem zc {c d:Cl}(h:CLe c d):∀(e:Ce) (ρ:Env) (s:Store),RLe (ev c ρ s e) (ev d ρ s e)
 | .cst v,ρ,s=>by exact .rfl
 | .var i,ρ,s=>by exact .rfl
 | .bin o a b,ρ,s=>by
  exact(zc h a ρ s).bind λx s1=>(zc h b ρ s1).bind λy s2=>.rfl
 | .neg a,ρ,s=>by
  exact(zc h a ρ s).bind λx s1=>.rfl
 | .not a,ρ,s=>by
  exact(zc h a ρ s).bind λx s1=>.rfl
 | .and a b,ρ,s=>by
  refine(zc h a ρ s).bind λx s1=>?_
  exact zgU λk=>zcf (zc h b ρ s1) .rfl
 | .or a b,ρ,s=>by
  refine(zc h a ρ s).bind λx s1=>?_
  exact zgU λk=>zcf .rfl (zc h b ρ s1)
 | .cmp o a b,ρ,s=>by
  exact(zc h a ρ s).bind λx s1=>(zc h b ρ s1).bind λy s2=>.rfl
 | .chain o p a b k,ρ,s=>by
  refine(zc h a ρ s).bind λx s1=>(zc h b ρ s1).bind λy s2=>?_
  exact zdV λq=>zcf ((zc h k ρ s2).bind λz s3=>.rfl) .rfl
 | .ite k a b,ρ,s=>by
  exact(zc h k ρ s).bind λx s1=>zdV λq=>zcf (zc h a ρ s1) (zc h b ρ s1)
 | .tup es,ρ,s=>by
  exact(zY h es ρ s).bind λx s1=>.rfl
 | .lst es,ρ,s=>by
  exact(zY h es ρ s).bind λx s1=>.rfl
 | .newl es,ρ,s=>by
  exact(zY h es ρ s).bind λx s1=>.rfl
 | .newd kvs,ρ,s=>by exact .rfl
 | .dict0 t,ρ,s=>by exact .rfl
 | .idx a i,ρ,s=>by
  exact(zc h a ρ s).bind λx s1=>(zc h i ρ s1).bind λy s2=>.rfl
 | .slc a l u,ρ,s=>by
  exact(zc h a ρ s).bind λx s1=>(zc h l ρ s1).bind λy s2=>zmX λo=>(zc h u ρ s2).bind λz s3=>.rfl
 | .call f es,ρ,s=>by
  exact(zY h es ρ s).bind λx s1=>h f x s1
 | .blt b es,ρ,s=>by
  exact(zY h es ρ s).bind λx s1=>.rfl
 | .mth m o es,ρ,s=>by
  exact(zc h o ρ s).bind λx s1=>zdV λ_=>(zY h es ρ s1).bind λy s2=>.rfl
 | .isi a ts,ρ,s=>by
  exact(zc h a ρ s).bind λx s1=>.rfl
 | .comp sl tg it k e,ρ,s=>by
  refine(zhX h it ρ s).bind λxs s1=>?_
  have q:=λ(f g:PV->Store->R (Option PV)) (hfg:∀x s,RLe (f x s) (g x s))=>zbG hfg xs s1
  refine RLe.comp (zbG (λx s2=>?_) xs s1)
  cases yJ tg x _ with
  |none=>exact .rfl
  |some ρ1 =>
   dsimp only
   exact(zc h k ρ1 s2).bind λb s3=>zdV λq=>zcf ((zc h e ρ1 s3).bind λy s4=>.rfl) .rfl
 | .nope,ρ,s=>by exact .rfl
 | .frz a,ρ,s=>by
  exact(zc h a ρ s).bind λx s1=>.rfl
 | .dix D a,ρ,s=>by
  exact(zc h a ρ s).bind λx s1=>.rfl
 | .din a D,ρ,s=>by
  exact(zc h a ρ s).bind λx s1=>.rfl
 | .fld q a f,ρ,s=>by
  exact(zc h a ρ s).bind λx s1=>.rfl
 | .new q i es,ρ,s=>by
  refine(zY h es ρ s).bind λx s1=>RLe.bind ?_ λv s2=>.rfl
  rcases h i (.loc s1.length::x) (s1++[.ins q []])with e|e
  ·rw[e];exact .inl (Eq.refl _)
  ·rw[e];exact .rfl
 | .mcl q i m o es,ρ,s=>by
  exact(zc h o ρ s).bind λx s1=>zdV λ_=>(zY h es ρ s1).bind λy s2=>h i (x::y) s2
theorem zY {c d:Cl}(h:CLe c d):∀(e:Ces) (ρ:Env) (s:Store),RLe (evs c ρ s e) (evs d ρ s e)
 | .nil,ρ,s=>by exact .rfl
 | .cons e es,ρ,s=>by
  exact(zc h e ρ s).bind λx s1=>(zY h es ρ s1).bind λy s2=>.rfl
theorem zhX {c d:Cl}(h:CLe c d):∀(e:Cit) (ρ:Env) (s:Store),RLe (evi c ρ s e) (evi d ρ s e)
 | .seq e,ρ,s=>by
  exact(zc h e ρ s).bind λx s1=>.rfl
 | .range1 a,ρ,s=>by
  exact(zc h a ρ s).bind λx s1=>.rfl
 | .range2 a b,ρ,s=>by
  exact(zc h a ρ s).bind λx s1=>(zc h b ρ s1).bind λy s2=>.rfl
 | .rangeD a b,ρ,s=>by
  exact(zc h a ρ s).bind λx s1=>(zc h b ρ s1).bind λy s2=>.rfl
 | .enum e,ρ,s=>by
  exact(zc h e ρ s).bind λx s1=>.rfl
 | .zip a b,ρ,s=>by
  exact(zc h a ρ s).bind λx s1=>(zc h b ρ s1).bind λy s2=>.rfl
 | .revl e,ρ,s=>by
  exact(zc h e ρ s).bind λx s1=>.rfl
 | .revr e,ρ,s=>by
  exact(zc h e ρ s).bind λx s1=>.rfl
 | .chars e,ρ,s=>by
  exact(zc h e ρ s).bind λx s1=>.rfl
end
mutual
theorem zom {c d:Cl}(h:CLe c d):∀(x:Cs) (ρ:Env) (s:Store),FLe (ex c ρ s x) (ex d ρ s x)
 | .expr e,ρ,s=>by
  exact(zc h e ρ s).fl λx s1=>.rfl
 | .asg t e,ρ,s=>by
  exact(zc h e ρ s).fl λx s1=>.rfl
 | .six o i e,ρ,s=>by
  exact(zc h e ρ s).fl λx s1=>(zc h o ρ s1).fl λy s2=>(zc h i ρ s2).fl λz s3=>.rfl
 | .dput o i e,ρ,s=>by
  exact(zc h e ρ s).fl λx s1=>(zc h o ρ s1).fl λy s2=>(zc h i ρ s2).fl λz s3=>.rfl
 | .aug i o e,ρ,s=>by
  first|unfold ev|unfold ex|unfold evs|unfold evi|unfold exs
  split
  ·exact(zc h e ρ s).fl λx s1=>.rfl
  ·exact .rfl
 | .ret e,ρ,s=>by
  exact(zc h e ρ s).fl λx s1=>.rfl
 | .ite k a b,ρ,s=>by
  exact(zc h k ρ s).fl λx s1=>zjV λq=>zfn (zab h a ρ s1) (zab h b ρ s1)
 | .for t it b,ρ,s=>by
  exact(zhX h it ρ s).fl λxs s1=>zda (λρ2 s2=>zab h b ρ2 s2) xs ρ s1
 | .while k b,ρ,s=>by
  exact zdE (λρ2 s2=>zc h k ρ2 s2) (λρ2 s2=>zab h b ρ2 s2) _ ρ s
 | .nope,ρ,s=>by exact .rfl
 | .sfl q o f e,ρ,s=>by
  exact(zc h e ρ s).fl λx s1=>(zc h o ρ s1).fl λy s2=>.rfl
theorem zab {c d:Cl}(h:CLe c d):∀(x:Css) (ρ:Env) (s:Store),FLe (exs c ρ s x) (exs d ρ s x)
 | .nil,ρ,s=>by exact .rfl
 | .cons x xs,ρ,s=>by
  first|unfold ev|unfold ex|unfold evs|unfold evi|unfold exs
  rcases zom h x ρ s with e|e
  ·rw[e];exact .inl (Eq.refl _)
  ·rw[e]
   cases ex d ρ s x with
   |nx ρ1 s1=>exact zab h xs ρ1 s1
   |_=>exact .rfl
end
theorem zds (T:Nat->Option Fn):∀k,CLe (yc T k) (yc T (k+1))
 |0,f,a,s=>.inl (Eq.refl _)
 |k+1,f,a,s=>by
  have h:=zds T k
  rw[yc,yc]
  cases T f with
  |none=>exact .rfl
  |some fn =>
   dsimp only
   split
   ·split
    ·split
     ·rcases zab h fn.body (a.map some++List.replicate (fn.ns - fn.np) none) []with e|e
      ·rw[e];exact .inl (Eq.refl _)
      ·rw[e];exact .rfl
     ·exact .rfl
    ·rcases zab h fn.body (a.map some++List.replicate (fn.ns - fn.np) none) s with e|e
     ·rw[e];exact .inl (Eq.refl _)
     ·rw[e];exact .rfl
   ·exact .rfl
theorem zdg {T:Nat->Option Fn}{k:Nat}{f:Nat}{a:List PV}{s s':Store}{v:PV}(h:yc T k f a s=.ok v s'):∀j,yc T (k+j) f a s=.ok v s'
 |0=>h
 |j+1=>by
  have q:=zdg h j
  rcases zds T (k+j) f a s with e|e
  ·rw[q]at e;cases e
  ·rw[Nat.add_assoc]at e
   rw[<- e];exact q
end IC
namespace L2
open PySem PySem.Spec PyProof.Rows IC
def spI (K:PySem.W.Frag)(cl:Nat->Addr)(call:Nat->List PV->Store->R PV)(f:Nat):Sp:=λvs H Q E=>∃B φ st args,yp K cl B φ H st/\yh K cl B φ H args vs/\match call f args st with
 | .ok v st'=>∀x H' φ',Step φ H φ' H'->yp K cl B φ' H' st'->yd K cl B φ' H' v x->Q x H'
 | .exc c st'=>∀H' φ',Step φ H φ' H'->yp K cl B φ' H' st'->E (.ref (cl c)) none H'
 | .bad=>False
section
variable {S:Se}{X:Cx}{k:Nat}{f:Addr}{fd:FuncData}{ps ks:List Str}{sp:Sp}{dvs:List V}{ds:List Value}{x:Str}{p pos:Pos}{e:Expr}{es:List Expr}{t tk:TA}{CX:CXT}{σ:St}{H:Hp}
theorem zdb {pins:List (Addr×Obj)}{s:Shared}{Q:VK}{us:List Value}{vs:List V}{E:XK}(F:yax X.prog X.w X.K X.mg X.base CX k f fd ps sp)(hr:yai k X.A)(hb:Binds X.K fd ps ds)(hd:Vals dvs ds)
  (I:Inv X pins σ H s) (r:Vals vs us) (h:sp (vs++dvs) H Q E) (hx:∀e s',CX X.stack H s E e s'->X.xe e s'):wpAny (model X.prog X.w) X.A (call (.ref f) us) (EP X pins σ Q) X.xe s:=by
 have r2:Vals (vs++dvs) (us++ds):=r.append hd
 have hl:(us++ds).length=ps.length:=by rw[<- r2.length];exact F.len _ _ _ _ h
 refine wpAny_call (codeAny_mono (F.run X.A X.stack s H ⟨us,[]⟩ (us++ds) (vs++dvs) Q E hr I.env0 (hb s us I.kIn hl) r2 h) λr s' hq=>?_)
 cases r with
 |error e=>exact hx e s' hq
 |ok fl =>
  cases fl with
  |ret u=>exact I.after hq
  |next=>exact False.elim hq
  |brk=>exact False.elim hq
  |cont=>exact False.elim hq
noncomputable def ycg (CX:CXT)(X:Cx)(sp:Sp)(dvs:List V)(t:TA):TE:=λσ H Q=>t σ H λvs H1=>∃E:XK,sp (vs++dvs) H1 Q E/\∀pins s e s',Inv X pins σ H1 s->CX X.stack H1 s E e s'->X.xe e s'
theorem zjO (F:yax X.prog X.w X.K X.mg X.base CX k f fd ps sp)(hr:yai k X.A)(hg:Gl X x)(hm:X.mg x=some (.ref f))(hk:PySem.W.keepIn X.K (.ref f)=true)(hb:Binds X.K fd ps ds)(hd:Vals dvs ds)
  (ha:PA X (e::es) t) (hdb:(x == ("__debug__":Str))=false:=by decide) (he:starEach (e::es) X.env=(false,eval e X.env)::starEach es X.env:=by rfl) (hpl:(backTo pos (starEach es X.env)).any (·.1)=false:=by rfl) :
  PE X (.Call (.Name x p) (e::es) [] pos) (ycg CX X sp dvs t):=by
 intro pins s σ H Q I h
 refine wpAny_Call_Name_kw (zbP I hg hm ?_ hdb)
 refine PySem.W.callWith_K (h₀:=X.base) I.ok.mod.kin hk (thn (ha pos pins s σ H _ I h) λus s1 ⟨vs,H1,I1,r,E,q,hx⟩=>⟨I1.kIn,?_⟩) he hpl
 exact zdb F hr hb hd I1 r q λe s' c=>hx pins s1 e s' I1 c
theorem zg1 (F:yax X.prog X.w X.K X.mg X.base CX k f fd ps sp)(hr:yai k X.A)(hg:Gl X x)(hm:X.mg x=some (.ref f))(hk:PySem.W.keepIn X.K (.ref f)=true)(hb:Binds X.K fd ps ds)(hd:Vals dvs ds)
  (hdb:(x == ("__debug__":Str))=false:=by decide):PE X (.Call (.Name x p) [] [] pos) (ycg CX X sp dvs ycG):=by
 intro pins s σ H Q I h
 obtain⟨E,q,hx⟩:=h
 refine wpAny_Call_Name_kw (zbP I hg hm ?_ hdb)
 exact PySem.W.callWith_K0 I.kIn hk (zdb F hr hb hd I .nil q λe s' c=>hx pins s e s' I c)
variable {B:Addr->Prop}{φ:Ph}{st:Store}{ces:Ces}{fi:Nat}
theorem zaB {vs:List PV}{xs:List V}{Q:VK}(rs:yp X.K S.cl B φ H st)(l:yh X.K S.cl B φ H vs xs)(h:Run S X σ B φ H (RV S X B) (S.call fi vs st) Q) :
  ∃E:XK,spI X.K S.cl S.call fi xs H Q E/\∀pins s e s',Inv X pins σ H s->CX1 X.prog X.w X.stack H s E e s'->X.xe e s':=by
 cases c:S.call fi vs st with
 |ok v st' =>
  rw[c]at h
  refine⟨λ_ _ _=>False,⟨B,φ,st,vs,rs,l,by rw[c];exact h⟩,λpins s e s' _ z=>?_⟩
  obtain⟨_,_,_,_,_,_,_,_,_,_,_,_,_,_,z⟩:=z
  exact z.elim
 |exc k st' =>
  rw[c]at h
  refine⟨λcls _ H'=>cls=.ref (S.cl k)/\∃φ',Step φ H φ' H'/\yp X.K S.cl B φ' H' st',⟨B,φ,st,vs,rs,l,by rw[c];exact λH' φ' s r=>⟨rfl,φ',s,r⟩⟩,λpins s e s' I z=>h e s' (.inl ⟨pins,H,s,φ,I,.rfl,z⟩)⟩
 |bad=>rw[c]at h;exact h.elim
theorem zlX (F:yax X.prog X.w X.K X.mg X.base (CX1 X.prog X.w) k f fd ps (spI X.K S.cl S.call fi))(hr:yai k X.A)(hg:Gl X x)(hm:X.mg x=some (.ref f))(hk:PySem.W.keepIn X.K (.ref f)=true)(hb:Binds X.K fd ps [])
  (ha:PA X (e::es) (tAs S X ces)) (hdb:(x == ("__debug__":Str))=false:=by decide) (he:starEach (e::es) X.env=(false,eval e X.env)::starEach es X.env:=by rfl) (hpl:(backTo pos (starEach es X.env)).any (·.1)=false:=by rfl) :
  PE X (.Call (.Name x p) (e::es) [] pos) (tE S X (.call fi ces)) :=
 (zjO F hr hg hm hk hb .nil ha hdb he hpl).imp λσ H Q ⟨B,φ,st,ρ,rs,re,h⟩=>by
  simp only[ev]at h
  refine tAs.bind rs re h λxs H1 vs st1 φ1 s1 rs1 re1 rv h1=>?_
  rw[List.append_nil]
  exact zaB rs1 rv h1
theorem zjJ (F:yax X.prog X.w X.K X.mg X.base (CX1 X.prog X.w) k f fd ps (spI X.K S.cl S.call fi))(hr:yai k X.A)(hg:Gl X x)(hm:X.mg x=some (.ref f))(hk:PySem.W.keepIn X.K (.ref f)=true)(hb:Binds X.K fd ps [])
  (hdb:(x == ("__debug__":Str))=false:=by decide):PE X (.Call (.Name x p) [] [] pos) (tE S X (.call fi .nil)) :=
 (zg1 F hr hg hm hk hb .nil hdb).imp λσ H Q ⟨B,φ,st,ρ,rs,re,h⟩=>by
  simp only[ev,evs,R.bind]at h
  exact zaB rs (by simp only[yh];rfl) h
end
section
variable {P:Program}{w:World}{K:PySem.W.Frag}{mg:Str->Option Value}{base:Heap}{cl:Nat->Addr}{T:Nat->Option IC.Fn}{fi:Nat}{fn:IC.Fn}{x qual:Str}{stm:Stmt}{f:Addr}{fd:FuncData}{N ps:List Str}{k:Nat}
theorem CX1.mono {outer:List PySem.Env}{H:Hp}{s:Shared}{E E':XK}{e:Value}{s':Shared}(h:CX1 P w outer H s E e s')(n:∀cls H',E cls none H'->E' cls none H'):CX1 P w outer H s E' e s':=by
 obtain⟨a,cls,a0,H',Bh,r1,r2,r3,r4,r5,r6,r7,r8,r9,r10⟩:=h
 exact⟨a,cls,a0,H',Bh,r1,r2,r3,r4,r5,r6,r7,r8,r9,n _ _ r10⟩
theorem yG.start {B:Addr->Prop}{φ:Ph}{H:Hp}{args:List PV}{vs:List V}(l:yh K cl B φ H args vs)(n:Nat)(hn:N.length - vs.length=n):yG K cl B φ H (args.map some++List.replicate n none) (L2.start N vs):=by
 have hl:=l.length
 unfold L2.start
 refine⟨by simp[hl,hn],λi v e=>?_⟩
 by_cases hi:i<args.length
 ·rw[List.getElem?_append_left (by simpa using hi),List.getElem?_map]at e
  cases q:args[i]? with
  |none=>rw[q]at e;cases e
  |some v' =>
   rw[q]at e
   cases e
   obtain⟨y,hy,rv⟩:=l.get i q
   exact⟨y,by rw[List.getElem?_append_left (by simp;omega),List.getElem?_map,hy];rfl,rv⟩
 ·rw[List.getElem?_append_right (by simp;omega),List.getElem?_replicate]at e
  split at e <;> cases e
theorem leave {N:List Str}{scope:Scope}{cd:Value}{A:Around}{outer:List PySem.Env}{s₀:Shared}{H₀:Hp}{E:XK}{call:Nat->List PV->Store->R PV}{σ:St}{B:Addr->Prop}{φ:Ph}{H:Hp}{c:Nat}{st':Store}{e:Value}{s':Shared}
  (h:ExcAt ⟨cl,call,true⟩ (yaP (CX1 P w) P w K mg base N qual scope f cd A outer s₀ H₀ E) σ B φ H c st' e s') (n:∀φ' H',Step φ H φ' H'->yp K cl B φ' H' st'->E (.ref (cl c)) none H') :
  (yaP (CX1 P w) P w K mg base N qual scope f cd A outer s₀ H₀ E).xe e s':=by
 rcases h with⟨pins,H1,s,φ1,I,s1,q⟩|⟨_,pins,H1,s,φ1,h',e0,vs,I,s1,rs,mk,rfl,rfl⟩|⟨_,pins,H1,s,I,q⟩
 ·exact ydI pins σ H1 s e s' I (q.mono λcls H' ⟨e1,φ',s2,r⟩=>by subst e1;exact n φ' H' (s1.trans s2) r)
 ·exact zhN I mk (n φ1 H1 s1 rs)
 ·exact ydP I (q.mono λcls H' ⟨e1,φ',s2,r⟩=>by subst e1;exact n φ' H' s2 r)
theorem zkj (hT:T fi=some fn):∀(args:List PV) (st:Store),yc T (k+1) fi args st ≠ .bad->args.length=fn.np:=λargs st hne=>by
 apply Classical.byContradiction
 intro c
 apply hne
 rw[yc,hT]
 exact if_neg c
theorem zng (hT:T fi=some fn)(hnp:ps.length=fn.np){vs:List V}{H:Hp}{Q:VK}{E:XK}(h:spI K cl (yc T (k+1)) fi vs H Q E):vs.length=ps.length:=by
 obtain⟨B,φ,st,args,rs,l,h⟩:=h
 rw[hnp,<- l.length]
 refine zkj (k:=k) hT args st λz=>?_
 rw[z]at h
 exact h
theorem zll (hT:T fi=some fn)(hns:N.length=fn.ns){scope:Scope}{cdv:Value}{A:Around}{outer:List PySem.Env}{s:Shared}{vs:List V}{H:Hp}{Q:VK}{E:XK}(h:spI K cl (yc T (k+1)) fi vs H Q E) :
  tSs ⟨cl,yc T k,true⟩ (yaP (CX1 P w) P w K mg base N qual scope f cdv A outer s H E) fn.body { nx:=λ_ H'=>Q .non H',rt:=Q } (L2.start N vs) H:=by
 obtain⟨B,φ,st,args,rs,l,h⟩:=h
 have hl:args.length=fn.np:=zkj (k:=k) hT args st λz=>by rw[z]at h;exact h
 have hlen:=l.length
 rw[yc,hT]at h
 dsimp only at h
 rw[if_pos hl]at h
 by_cases hp:fn.pure=true
 ·rw[if_pos hp]at h
  by_cases hz:noLocs args=true
  ·rw[if_pos hz]at h
   have rs0:yp K cl (λa=>B a \/ some a∈φ) [] H []:=⟨rfl,λm n a e=>by simp at e,λn a e=>by simp at e,λn o e=>by simp at e,λa z=>by simp at z,λa z=>z.elim (rs.dom a) rs.there⟩
   have back:∀{φ':Ph} {H':Hp},Step [] H φ' H'->Step φ H φ H'/\yp K cl B φ H' st:=λ{φ' H'} s' =>
    have kk:∀b o,H b=some o->H' b=some o:=λb o e=>s'.keep b o (by simp) e
    ⟨⟨λb o _ e=>kk b o e,Nat.le_refl _,λ_ _ _ e=>e,λ_ h=>.inl h⟩,rs.same kk⟩
   refine⟨_,[],[],_,rs0,yG.start (yh.inn rs.nb args vs hz l) (fn.ns - fn.np) (by omega),?_⟩
   show yay _ _ _ _ _ (exs (yc T k) (args.map some++List.replicate (fn.ns - fn.np) none) [] fn.body) _
   cases e:exs (yc T k) (args.map some++List.replicate (fn.ns - fn.np) none) [] fn.body with
   |nx ρ' st' =>
    rw[e]at h
    intro σ' H' φ' s' rs' re'
    obtain⟨s2,r2⟩:=back s'
    exact h .non H' φ s2 r2 (by simp only[yd])
   |rt v st' =>
    rw[e]at h
    dsimp only at h
    by_cases hv:noLoc v=true
    ·rw[if_pos hv]at h
     intro y H' φ' s' rs' rv
     obtain⟨s2,r2⟩:=back s'
     exact h y H' φ s2 r2 (yd.out v y hv rv)
    ·rw[if_neg hv]at h
     exact h.elim
   |exc c ρ' st' =>
    rw[e]at h
    intro σ' φ1 H1 ev s' s1 _ ex
    refine leave ex λφ2 H2 s2 _=>?_
    obtain⟨s3,r3⟩:=back (s1.trans s2)
    exact h H2 φ s3 r3
   |bk ρ' st'=>rw[e]at h;exact h.elim
   |ct ρ' st'=>rw[e]at h;exact h.elim
   |bad=>rw[e]at h;exact h.elim
  ·rw[if_neg hz]at h
   exact h.elim
 ·rw[if_neg hp]at h
  refine⟨B,φ,st,_,rs,yG.start l (fn.ns - fn.np) (by omega),?_⟩
  show yay _ _ _ _ _ (exs (yc T k) (args.map some++List.replicate (fn.ns - fn.np) none) st fn.body) _
  cases e:exs (yc T k) (args.map some++List.replicate (fn.ns - fn.np) none) st fn.body with
  |nx ρ' st' =>
   rw[e]at h
   intro σ' H' φ' s' rs' re'
   exact h .non H' φ' s' rs' (by simp only[yd])
  |rt v st' =>
   rw[e]at h
   intro y H' φ' s' rs' rv
   exact h y H' φ' s' rs' rv
  |exc c ρ' st' =>
   rw[e]at h
   intro σ' φ1 H1 ev s' s1 _ ex
   exact leave ex λφ2 H2 s2 r2=>h H2 φ2 (s1.trans s2) r2
  |bk ρ' st'=>rw[e]at h;exact h.elim
  |ct ρ' st'=>rw[e]at h;exact h.elim
  |bad=>rw[e]at h;exact h.elim
end
noncomputable def tyN:Ty->String
 | .int=>"int" | .bool=>"bool" | .str=>"str" | .tuple=>"tuple" | .list=>"list" | _=>""
structure ydX (K:PySem.W.Frag)(t:Ty):Prop where
 n:PySem.W.kitOne K (.type "NoneType") (.type (tyN t))=some (ybd .non t)
 b:PySem.W.kitOne K (.type "bool") (.type (tyN t))=some (ybd (.bl true) t)
 i:PySem.W.kitOne K (.type "int") (.type (tyN t))=some (ybd (.int 0) t)
 s:PySem.W.kitOne K (.type "str") (.type (tyN t))=some (ybd (.str Str.empty) t)
 p:PySem.W.kitOne K (.type "tuple") (.type (tyN t))=some (ybd (.tp true []) t)
 l:PySem.W.kitOne K (.type "list") (.type (tyN t))=some (ybd (.lst []) t)
section
variable {S:Se}{X:Cx}{σ:St}{B:Addr->Prop}{φ:Ph}{H:Hp}{st:Store}{p pos p2 px:Pos}{a b c d o:Expr}{ca cb cc:Ce}{t:Ty}
def yfM (S:Se)(X:Cx)(t:Ty):List V->Hp->VK->Prop:=λxs H Q=>∃B φ st v x z,xs=[x,.ty (tyN t)]/\yp X.K S.cl B φ H st/\yd X.K S.cl B φ H v x/\ybv v [t]=some z/\ycQ t=true /\
 ∀z' H' φ',Step φ H φ' H'->yp X.K S.cl B φ' H' st->yd X.K S.cl B φ' H' z z'->Q z' H'
theorem znx (Z:ydX X.K t):yaa X (.builtin "isinstance") (yfM S X t):=by
 rintro pins s σ H xs us Q I r ⟨B,φ,st,v,x,z,rfl,rs,rv,e,hb,q⟩
 obtain⟨u,c',rfl,ru,rc⟩:=vals2 r
 cases (show c'=Value.type (tyN t)from rc)
 have fin:∀(k:Bool) (tk:Nat),z=.bl k->EP X pins σ Q (.bool k) { s with toks:=tk }:=λk tk ez=>⟨.bl k,H,I.tok tk,rfl,q _ H φ .rfl rs (by subst ez;simp only[yd])⟩
 cases v with
 |non =>
  simp only[yd]at rv;subst rv
  cases (show u=Value.none from ru)
  simp only[ybv,hb,if_true]at e
  exact PySem.W.kia_one PySem.W.kitx_none I.kIn True.intro Z.n (λz=>nomatch z) λtk=>fin _ tk (by cases e;cases t <;> rfl)
 |bl k =>
  simp only[yd]at rv;subst rv
  cases (show u=Value.bool k from ru)
  simp only[ybv,hb,if_true]at e
  exact PySem.W.kia_one PySem.W.kitx_bool I.kIn True.intro Z.b (λz=>nomatch z) λtk=>fin _ tk (by cases e;cases t <;> rfl)
 |int k =>
  simp only[yd]at rv;subst rv
  obtain⟨tk,rfl⟩:=ru
  simp only[ybv,hb,if_true]at e
  exact PySem.W.kia_one PySem.W.kitx_int I.kIn True.intro Z.i (λz=>nomatch z) λtk=>fin _ tk (by cases e;cases t <;> rfl)
 |str k =>
  simp only[yd]at rv;subst rv
  obtain⟨tk,rfl⟩:=ru
  simp only[ybv,hb,if_true]at e
  exact PySem.W.kia_one PySem.W.kitx_str I.kIn True.intro Z.s (λz=>nomatch z) λtk=>fin _ tk (by cases e;cases t <;> rfl)
 |tp k vs =>
  simp only[yd]at rv
  obtain⟨y,ys,rfl,rt,l⟩:=rv
  cases (show u=Value.ref y from ru)
  simp only[ybv,hb,if_true]at e
  obtain⟨its,_,⟨o,g,c,_,_⟩,_⟩:=I.tuple rt.sq
  exact PySem.W.kia_one PySem.W.kitx_tuple I.kIn ⟨o,g,c⟩ Z.p (λz=>nomatch z) λtk=>fin _ tk (by cases e;cases t <;> rfl)
 |lst vs =>
  simp only[yd]at rv
  obtain⟨y,ys,rfl,rt,l⟩:=rv
  cases (show u=Value.ref y from ru)
  simp only[ybv,hb,if_true]at e
  obtain⟨_,_,n,_,h1⟩:=(show yN X.prog X.w H s.heap y (.lst ys)from I.hok y _ rt.1)
  exact PySem.W.kia_one PySem.W.kitx_list I.kIn ⟨_,h1,rfl⟩ Z.l (λz=>nomatch z) λtk=>fin _ tk (by cases e;cases t <;> rfl)
 |loc n=>cases e
 |scr n=>cases e
 |exn n=>simp only[ybv,List.all_cons,List.all_nil,hb,Bool.and_self,if_true]at e;cases e
theorem znJ {T:Str}(Z:ydX X.K t)(ht:ycQ t=true)(hg:Gl X "isinstance")(hm:X.mg "isinstance"=none)(hgT:Gl X T)(hmT:X.mg T=none)(hT:bootBuiltins T=some (.type (tyN t)))(ha:PE X a (tE S X ca))(hnT:T ≠ "__name__":=by decide)(hdT:(T == ("__debug__":Str))=false:=by decide)
  (he:starEach [a,.Name T p2] X.env=(false,eval a X.env)::starEach [.Name T p2] X.env:=by rfl) (hpl:(backTo pos (starEach [.Name T p2] X.env)).any (·.1)=false:=by rfl) :
  PE X (.Call (.Name "isinstance" p) [a,.Name T p2] [] pos) (tE S X (.isi ca [t])) :=
 (zfy (znx Z) hg hm PyProof.Rows.boot_isinstance (zO ha (zO (zkz (v:=.ty (tyN t)) hgT hmT hT rfl hnT hdT) yaO) he) (by decide) (by decide) he hpl).imp λσ H Q ⟨B,φ,st,ρ,rs,re,h⟩=>by
  simp only[ev]at h
  refine tE.bind rs re h λx H1 v st1 φ1 s1 rs1 re1 rv h1=>?_
  obtain⟨z,e,q⟩:=zN h1 rs1
  exact⟨B,φ1,st1,v,x,z,rfl,rs1,rv,e,ht,q⟩
theorem zjx {st4:Store}{x y v:PV}(h:ybg st x y v=some st4):∃n xs k j,x=.loc n/\st[n]?=some (.lst xs)/\y=.int k/\ixI xs.length k=some j/\st4=st.set n (.lst (xs.set j v)):=by
 cases x with
 |loc n =>
  simp only[ybg]at h
  cases q:st[n]? with
  |none=>rw[q]at h;cases h
  |some o =>
   rw[q]at h
   cases o with
   |lst xs =>
    cases y with
    |int k =>
     dsimp only at h
     cases q2:ixI xs.length k with
     |none=>rw[q2]at h;cases h
     |some j=>rw[q2]at h;exact⟨n,xs,k,j,rfl,q,rfl,q2,(Option.some.inj h).symm⟩
    |_=>cases h
   |_=>cases h
 |_=>cases h
theorem yh.put {K:PySem.W.Frag}{cl:Nat->Addr}:∀{vs:List PV} {xs:List V} (j:Nat) {v:PV} {x:V},yh K cl B φ H vs xs->yd K cl B φ H v x->yh K cl B φ H (vs.set j v) (xs.set j x)
 | [],xs,j,v,x,l,r=>by simp only[yh]at l;subst l;simp[yh]
 |w::vs,xs,0,v,x,l,r=>by
  simp only[yh]at l
  obtain⟨y,ys,rfl,_,l⟩:=l
  simp only[List.set_cons_zero,yh]
  exact⟨x,ys,rfl,r,l⟩
 |w::vs,xs,j+1,v,x,l,r=>by
  simp only[yh]at l
  obtain⟨y,ys,rfl,ry,l⟩:=l
  simp only[List.set_cons_succ,yh]
  exact⟨y,ys.set j x,rfl,ry,yh.put j l r⟩
theorem zoi (he:PE X a (tE S X ca))(ho:PE X b (tE S X cb))(hi:PE X c (tE S X cc))(hs:swapsWithSole [.Subscript b c px] a pos.line X.env=pure false:=by rfl)(hw:swappedStores [.Subscript b c px] a X.env=pure none:=by rfl)
  (hg:PG X (.Subscript b c px) (yey (tE S X cb) (tE S X cc) ycR):=by exact zjX ‹_› ‹_› zfp):PS X (.Assign [.Subscript b c px] a pos) (tS S X (.six cb cc ca)) :=
 (zjZ he hg hs hw).imp λD σ H ⟨B,φ,st,ρ,rs,re,h⟩=>by
  simp only[ex]at h
  refine tE.fl rs re h λv' H1 v st1 φ1 s1 rs1 re1 rv h1=>tE.fl rs1 re1 h1 λx' H2 x st2 φ2 s2 rs2 re2 rx h2=>tE.fl rs2 re2 h2 λy' H3 y st3 φ3 s3 rs3 re3 ry h3=>?_
  cases e:ybg st3 x y v with
  |none=>rw[e]at h3;exact h3.elim
  |some st4 =>
   rw[e]at h3
   obtain⟨n,xs,k,j,rfl,hn,rfl,hj,rfl⟩:=zjx e
   simp only[yd]at ry
   subst ry
   obtain⟨l,ys,rfl,hp,hx,lr⟩:=rs3.list (rx.step s3) hn
   refine⟨l,ys,k,j,rfl,rfl,hx,by rw[<- lr.length];exact hj,?_⟩
   have s4:Step φ3 H3 φ3 (L2.upd H3 l (.lst (ys.set j v'))):=.put (List.mem_of_getElem? hp)
   exact h3 σ _ φ3 s4 (rs3.put hp ⟨_,zj,(lr.put j ((rv.step s2).step s3)).step s4⟩) (re3.step s4)
end
section
variable {S:Se}{X:Cx}{σ:St}{B:Addr->Prop}{φ:Ph}{H:Hp}{st:Store}{p pos p2 px py pt pt2 apos:Pos}{a b c d o:Expr}{ca cb cc:Ce}{kt k2:Nat}
theorem zmx {i j:Nat}{x y:Str}(hc:X.calm=true)(hN:X.N.Nodup)(hi:X.N[i]?=some x)(hj:X.N[j]?=some y)(hij:i≠j)(h:PS X (.Assign [.Tuple [.Name x px,.Name y py] kt pt] (.Tuple [a,b] k2 pt2) pos) (yeu i j (tAs S X (.cons ca (.cons cb .nil))))) :
  PS X (.Assign [.Tuple [.Name x px,.Name y py] kt pt] (.Tuple [a,b] k2 pt2) pos) (tS S X (.asg (.t [i,j]) (.tup (.cons ca (.cons cb .nil))))) :=
 h.imp λD σ H ⟨B,φ,st,ρ,rs,re,h⟩=>by
  simp only[ex,ev]at h
  refine⟨B,φ,st,ρ,rs,re,?_⟩
  cases e:evs S.call ρ st (.cons ca (.cons cb .nil))with
  |bad=>rw[e]at h;exact h
  |exc k st'=>rw[e]at h;exact λe s' x=>h σ φ H e s' .rfl re x
  |ok vs st' =>
   rw[e]at h
   intro xs H' φ' s rs' l
   simp only[R.bind]at h
   split at h
   ·rcases vs with _|⟨v,_|⟨w,_|⟨u,t⟩⟩⟩
    ·exact h.elim
    ·exact h.elim
    ·obtain⟨v',w',rfl,rv,rw⟩:=l.two
     refine⟨v',w',rfl,?_⟩
     exact h _ H' φ' s rs' (((re.step s).set i rv).set j rw)
    ·exact h.elim
   ·exact h.elim
theorem zku {bo:BOp}{v w z:PV}(h:ybE bo v w=some z):∃i j,v=.int i/\w=.int j/\IC.binI bo i j=some z:=by
 unfold ybE at h
 split at h
 ·exact⟨_,_,rfl,rfl,h⟩
 ·cases h
theorem zlZ:PIp X .Add (rT2 S X (ybE .add)):=by
 rintro pins s σ H x y v u Q I rx ry ⟨B,φ,st,a,b,z,rs,ra,rb,e,q⟩
 obtain⟨i,j,rfl,rfl,e⟩:=zku e
 cases e
 simp only[yd]at ra rb
 subst ra rb
 exact zmt pins s σ H _ _ v u Q I rx ry ⟨i,j,rfl,rfl,q _ H φ .rfl rs (by simp only[yd])⟩
end
end L2
namespace WK
open PySem L2 IC
def GC (K:PySem.W.Frag)(mg:Str->Option Value)(cl:Nat->Addr)(x:Str)(v:PV):Prop:=∃y:Addr,mg x=some (.ref y)/\∀B φ H,yd K cl B φ H v (.ref y)
theorem zoo {S:Se}{X:Cx}{x:Str}{v:PV}{pos:Pos}(hg:Gl X x)(h:GC X.K X.mg S.cl x v)(hd:(x == ("__debug__":Str))=false:=by decide):PE X (.Name x pos) (tE S X (.cst v)):=by
 obtain⟨y,hm,hk⟩:=h
 exact zkw hg hm hk hd
theorem zka:bootBuiltins "int"=some (.type "int"):=by decide +kernel
theorem zlM:bootBuiltins "bool"=some (.type "bool"):=by decide +kernel
theorem znt:bootBuiltins "str"=some (.type "str"):=by decide +kernel
theorem zfB:bootBuiltins "tuple"=some (.type "tuple"):=by decide +kernel
theorem znw:bootBuiltins "len"=some (.builtin "len"):=by decide +kernel
theorem znZ:bootBuiltins "abs"=some (.builtin "abs"):=by decide +kernel
theorem zn2:bootBuiltins "min"=some (.builtin "min"):=by decide +kernel
theorem zmp:bootBuiltins "max"=some (.builtin "max"):=by decide +kernel
theorem zm3:bootBuiltins "all"=some (.builtin "all"):=by decide +kernel
theorem zkD {k:Nat}{A:Around}(r:yai k A):A.units+1<cLine:=by have:=r.units;omega
end WK
namespace L2
open PySem PySem.Spec PyProof.Rows IC
noncomputable def shC:Sum Ce Int->Option Int
 | .inl _=>none
 | .inr i=>some i
noncomputable def yaI:List (Option Int)->List V->List V
 | [],_=>[]
 |some i::r,zs=>.int i::yaI r zs
 |none::r,z::zs=>z::yaI r zs
 |none::_,[]=>[]
noncomputable def pick:List (Option Int)->List V->List V
 |none::r,v::vs=>v::pick r vs
 |some _::r,_::vs=>pick r vs
 |_,_=>[]
noncomputable def nKw:List (Option Int)->Nat
 | []=>0
 |none::r=>nKw r+1
 |some _::r=>nKw r
noncomputable def ycH:Ces->Nat
 | .nil=>0
 | .cons _ r=>ycH r+1
def gK (np:Nat)(sh:List (Option Int))(vs zs:List V):List V:=if vs.length=np/\zs.length=nKw sh then vs++yaI sh zs else []
theorem zhw {call:Nat->List PV->Store->R PV}{ρ:IC.Env}:∀(a:Ces) {st st':Store} {vs:List PV},evs call ρ st a=.ok vs st'->vs.length=ycH a
 | .nil,st,st',vs,h=>by simp only[evs]at h;cases h;rfl
 | .cons e r,st,st',vs,h=>by
  simp only[evs]at h
  cases q:ev call ρ st e with
  |ok v s1 =>
   rw[q]at h
   simp only[R.bind]at h
   cases q2:evs call ρ s1 r with
   |ok ws s2 =>
    rw[q2]at h
    cases h
    simp[ycH,zhw r q2]
   |exc c s=>rw[q2]at h;cases h
   |bad=>rw[q2]at h;cases h
  |exc c s=>rw[q]at h;cases h
  |bad=>rw[q]at h;cases h
theorem zhH {call:Nat->List PV->Store->R PV}{ρ:IC.Env}:∀(a b:Ces) (st:Store),evs call ρ st (yat a b)=(evs call ρ st a).bind λvs st1=>(evs call ρ st1 b).bind λws st2=>.ok (vs++ws) st2
 | .nil,b,st=>by
  simp only[yat,evs,R.bind,List.nil_append]
  cases evs call ρ st b <;> rfl
 | .cons e r,b,st=>by
  simp only[yat,evs]
  cases ev call ρ st e with
  |ok v st1 =>
   simp only[R.bind]
   rw[zhH r b st1]
   cases evs call ρ st1 r with
   |ok vs st2 =>
    simp only[R.bind]
    cases evs call ρ st2 b <;> rfl
   |exc c s=>rfl
   |bad=>rfl
  |exc c s=>rfl
  |bad=>rfl
section
variable {S:Se}{X:Cx}{k:Nat}{f:Addr}{fd:FuncData}{ps ks:List Str}{sp:Sp}{x:Str}{p pos kpos:Pos}{e:Expr}{es:List Expr}{kws:List Keyword}{nm:Option Str}{t tk:TA}{CX:CXT}{ca:Ce}{ces:Ces}{items:List (Sum Ce Int)}{g:List Value->List Value->List Value}{gV:List V->List V->List V}
theorem za2 {K:PySem.W.Frag}{cl:Nat->Addr}{B:Addr->Prop}{φ:Ph}{H:Hp}{call:Nat->List PV->Store->R PV}{ρ:IC.Env}:∀(items:List (Sum Ce Int)) {st st':Store} {vs:List PV} {xs:List V},evs call ρ st (yE items)=.ok vs st'->yh K cl B φ H vs xs->yaI (items.map shC) (pick (items.map shC) xs)=xs/\(pick (items.map shC) xs).length=nKw (items.map shC)
 | [],st,st',vs,xs,h,l=>by
  simp only[yE,evs]at h
  cases h
  simp only[yh]at l
  subst l
  exact⟨rfl,rfl⟩
 | .inl c::r,st,st',vs,xs,h,l=>by
  simp only[yE,evs]at h
  obtain⟨v,s1,e1,h⟩:=zad h
  obtain⟨ws,s2,e2,h⟩:=zad h
  cases h
  simp only[yh]at l
  obtain⟨y,ys,rfl,_,l⟩:=l
  obtain⟨q1,q2⟩:=za2 r e2 l
  simp only[List.map_cons,shC,pick,yaI,nKw,List.length_cons,q1,q2]
  exact⟨trivial,trivial⟩
 | .inr i::r,st,st',vs,xs,h,l=>by
  simp only[yE,evs,ev]at h
  obtain⟨v,s1,e1,h⟩:=zad h
  obtain⟨ws,s2,e2,h⟩:=zad h
  cases h
  cases e1
  simp only[yh,yd]at l
  obtain⟨y,ys,rfl,rfl,l⟩:=l
  obtain⟨q1,q2⟩:=za2 r e2 l
  simp only[List.map_cons,shC,pick,yaI,nKw,q1,q2]
  exact⟨trivial,trivial⟩
def tK (S:Se)(X:Cx)(items:List (Sum Ce Int)):TA:=λσ H Q=>∃B φ st ρ,yp X.K S.cl B φ H st/\yG X.K S.cl B φ H ρ σ/\Run S X σ B φ H (RL S X B) (evs S.call ρ st (yE items)) λxs H'=>Q (pick (items.map shC) xs) H'
theorem PK.imp {t t':TA}(h:PK X kws t')(k:∀σ H Q,t σ H Q->t' σ H Q):PK X kws t:=λpos pins s σ H Q I q=>h pos pins s σ H Q I (k σ H Q q)
theorem zmu:PK X [] (tK S X []):=ydb.imp λσ H Q ⟨B,φ,st,ρ,rs,re,h⟩=>by
 simp only[yE,evs]at h
 exact h.ok rs (x:=[]) (by simp only[yh])
theorem zoO {i:Int}(h:PK X kws (tK S X items)):PK X kws (tK S X (.inr i::items)):=h.imp λσ H Q ⟨B,φ,st,ρ,rs,re,h⟩=>by
 simp only[yE,evs,ev,R.bind]at h
 refine⟨B,φ,st,ρ,rs,re,?_⟩
 cases e:evs S.call ρ st (yE items)with
 |ok vs st' =>
  rw[e]at h
  intro xs H' φ' s rs' l
  exact h (.int i::xs) H' φ' s rs' (by simp only[yh,yd];exact⟨_,_,rfl,rfl,l⟩)
 |exc c s=>rw[e]at h;exact h
 |bad=>rw[e]at h;exact h
theorem zoA (ha:PE X e (tE S X ca))(h:PK X kws (tK S X items)):PK X (⟨nm,e,kpos⟩ :: kws) (tK S X (.inl ca::items)):=(zkp ha h).imp λσ H Q ⟨B,φ,st,ρ,rs,re,h⟩=>by
 simp only[yE,evs]at h
 refine tE.bind rs re h λx H1 v st1 φ1 s1 rs1 re1 rv h1=>⟨B,φ1,st1,ρ,rs1,re1,?_⟩
 refine(Run.bind (Rel:=RL S X B) h1).mono λxs H2 ⟨ws,st2,φ2,s2,rs2,l,h2⟩=>?_
 exact h2.ok rs2 (x:=x::xs) (by simp only[yh];exact⟨x,xs,rfl,rv.step s2,l⟩)
theorem ziM {fi:Nat}(F:yax X.prog X.w X.K X.mg X.base (CX1 X.prog X.w) k f fd ps (spI X.K S.cl S.call fi))(hr:yai k X.A)(hg:Gl X x)(hm:X.mg x=some (.ref f))(hk:PySem.W.keepIn X.K (.ref f)=true){np:Nat}(hb:∃g,ybo X.K fd ps ks g (gK np (items.map shC)))(hnp:ycH ces=np)
  (ha:PA X (e::es) (tAs S X ces)) (hkw:PK X kws (tK S X items)) (hall:(backToKw pos (keywordEach kws X.env)).all (·.1.isSome)=true:=by rfl) (hks:(backToKw pos (keywordEach kws X.env)).filterMap (·.1)=ks:=by rfl)
  (hdb:(x == ("__debug__":Str))=false:=by decide) (he:starEach (e::es) X.env=(false,eval e X.env)::starEach es X.env:=by rfl)
  (hpl:((backTo pos (starEach (e::es) X.env)).any (·.1) || (backToKw pos (keywordEach kws X.env)).any (·.1.isNone))=false:=by rfl) :
  PE X (.Call (.Name x p) (e::es) kws pos) (tE S X (.call fi (yat ces (yE items)))):=by
 intro pins s σ H Q I ⟨B,φ,st,ρ,rs,re,h⟩
 simp only[ev]at h
 rw[zhH,R.bind_assoc]at h
 refine wpAny_Call_Name_kw (zbP I hg hm ?_ hdb)
 have h0:tAs S X ces σ H λvs H1=>tK S X items σ H1 λzs H2=>∃E:XK,spI X.K S.cl S.call fi (gK np (items.map shC) vs zs) H2 Q E/\∀pins s e s',Inv X pins σ H2 s->CX1 X.prog X.w X.stack H2 s E e s'->X.xe e s':=by
  have hlen:∀vs st',evs S.call ρ st ces=.ok vs st'->vs.length=np:=λvs st' q=>(zhw ces q).trans hnp
  refine⟨B,φ,st,ρ,rs,re,?_⟩
  cases q:evs S.call ρ st ces with
  |exc c s=>rw[q]at h;exact h
  |bad=>rw[q]at h;exact h
  |ok vs st1 =>
  rw[q]at h
  intro xs H1 φ1 s1 rs1 rv
  have h1:=Run.on s1 h
  have re1:=re.step s1
  have hv:=hlen vs st1 q
  refine⟨B,φ1,st1,ρ,rs1,re1,?_⟩
  have h1:Run S X σ B φ1 H1 (RV S X B) (((evs S.call ρ st1 (yE items)).bind λa st=>(R.ok (vs++a) st:R (List PV))).bind λvs st1=>S.call fi vs st1) Q:=h1
  rw[R.bind_assoc]at h1
  cases e:evs S.call ρ st1 (yE items)with
  |ok ws st2 =>
   rw[e]at h1
   intro ys H2 φ2 s2 rs2 l2
   obtain⟨m1,m2⟩:=za2 items e l2
   have eg:gK np (items.map shC) xs (pick (items.map shC) ys)=xs++ys:=by
    unfold gK
    rw[if_pos ⟨by rw[<- rv.length];exact hv,m2⟩,m1]
   show ∃E:XK,spI X.K S.cl S.call fi (gK np (items.map shC) xs (pick (items.map shC) ys)) H2 Q E/\_
   rw[eg]
   exact zaB rs2 ((rv.step s2).append l2) (Run.on s2 h1)
  |exc c s=>rw[e]at h1;exact h1
  |bad=>rw[e]at h1;exact h1
 refine PySem.W.callWith_KW (h₀:=X.base) I.ok.mod.kin hk hall (thn (ha pos pins s σ H _ I h0) λus s1 ⟨vs,H1,I1,r,q⟩=>?_) hpl he
 refine thn (hkw pos pins s1 σ H1 _ I1 q) λws s2 ⟨zs,H2,I2,rz,E,q2,hx⟩=>⟨I2.kIn,?_⟩
 rw[hks]
 obtain⟨g,hb⟩:=hb
 have r2:=hb.rel r rz
 have hl:(g us ws).length=ps.length:=by rw[<- r2.length];exact F.len _ _ _ _ q2
 refine wpAny_call (codeAny_mono (F.run X.A X.stack s2 H2 ⟨us,ks.zip ws⟩ (g us ws) (gK np (items.map shC) vs zs) Q E hr I2.env0 (hb.to s2 us ws I2.kIn hl) r2 q2) λr s' hq=>?_)
 cases r with
 |error e=>exact hx pins s2 e s' I2 hq
 |ok fl =>
  cases fl with
  |ret u=>exact I2.after hq
  |next=>exact False.elim hq
  |brk=>exact False.elim hq
  |cont=>exact False.elim hq
end
noncomputable def yaY:List (Option Int)->List Value->List Value->List Value
 | [],_,_=>[]
 |some _::r,ws,d::ds=>d::yaY r ws ds
 |none::r,w::ws,_::ds=>w::yaY r ws ds
 |_,_,_=>[]
theorem zb0:∀(sh:List (Option Int)) (ds:List Int) {zs:List V} {ws us:List Value},Vals (ds.map V.int) us->Vals zs ws->sh.length=ds.length->(∀p∈sh.zip ds,∀i,p.1=some i->i=p.2)->Vals (yaI sh zs) (yaY sh ws us)
 | [],ds,zs,ws,us,r,q,hl,h=>.nil
 |some i::r,[],zs,ws,us,rr,q,hl,h=>by simp at hl
 |some i::r,d::ds,zs,ws,_,.cons a b,q,hl,h=>by
  have:i=d:=h (some i,d) (by simp) i rfl
  subst this
  exact .cons a (zb0 r ds b q (by simpa using hl) λp hp=>h p (by simp[hp]))
 |none::r,[],zs,ws,us,rr,q,hl,h=>by simp at hl
 |none::r,d::ds,_,_,_,.cons a b,.nil,hl,h=>.nil
 |none::r,d::ds,_,_,_,.cons a b,.cons c q,hl,h=>.cons c (zb0 r ds b q (by simpa using hl) λp hp=>h p (by simp[hp]))
structure FnD (K:PySem.W.Frag)(mg:Str->Option Value)(x:Str)(st:Stmt)(ps:List Str)(ds:List Int)(f:Addr)(fd:FuncData):Prop where
 ex:∃(oc:Value) (od:Option Addr) (dT:Addr) (kV doc pm:Value) (an:Option Addr) (cdv ct:Value) (osl:Array (Option Value)) (o:Obj) (its:Array Value) (n:Nat),
  fd=PySem.W.fnOf x x (yX st) (yS st) (yt st) (.ref dT) kV doc pm an cdv ct/\K.lookup f=some ⟨oc,od,.func fd,osl⟩/\PySem.W.codeIn K cdv x=true/\K.lookup dT=some o/\o.data=.seq its n/\Vals (ds.map V.int) its.toList
 kp:PySem.W.keepIn K (.ref f)=true
 m:mg x=some (.ref f)
theorem kbD {K:PySem.W.Frag}{mg:Str->Option Value}{x:Str}{st:Stmt}{ps ks:List Str}{ds:List Int}{f:Addr}{fd:FuncData}{np off:Nat}{sh:List (Option Int)}(D:FnD K mg x st ps ds f fd)(hnk:ks.length=nKw sh)(hsh:sh.length=(ds.drop off).length)(hd':((sh.zip (ds.drop off)).all λp=>p.1.all λi=>decide (i=p.2))=true)
  (h:∀(dT:Addr) (kV doc pm:Value) (an:Option Addr) (cdv ct:Value) (us ws its:List Value),us.length=np->ws.length=ks.length->its.length=ds.length ->
   ∃k,bindArgs (PySem.W.fnOf x x (yX st) (yS st) (yt st) (.ref dT) kV doc pm an cdv ct) ⟨us,ks.zip ws⟩=seqItems? (.ref dT) >>= k/\k (some its.toArray)=pure (ps.zip (us++yaY sh ws (its.drop off)))) (hps:0<ps.length) :
  ∃g,ybo K fd ps ks g (gK np sh):=by
 have hd:∀p∈sh.zip (ds.drop off),∀i,p.1=some i->i=p.2:=λp hp i hi=>by
  have:=List.all_eq_true.mp hd' p hp
  rw[hi]at this
  simpa using this
 obtain⟨oc,od,dT,kV,doc,pm,an,cdv,ct,osl,o,its,n,rfl,lk,hcd,lo,hs,r⟩:=D.ex
 refine⟨λus ws=>if us.length=np/\ws.length=nKw sh then us++yaY sh ws (its.toList.drop off)else [],⟨λs us ws KX hl=>?_,λ{vs us zs ws} rv rz=>?_⟩⟩
 ·by_cases c:us.length=np/\ws.length=nKw sh
  ·rw[if_pos c]at hl ⊢
   obtain⟨k,h1,h2⟩:=h dT kV doc pm an cdv ct us ws its.toList c.1 (by rw[hnk];exact c.2) (by rw[<- r.length,List.length_map])
   exact BindsTo.of_defaults rfl (KX _ _ lo) hs h1 (by simpa using h2)
  ·rw[if_neg c]at hl
   simp at hl
   omega
 ·unfold gK
  have e1:=rv.length
  have e2:=rz.length
  by_cases c:us.length=np/\ws.length=nKw sh
  ·rw[if_pos c,if_pos (by omega)]
   refine rv.append (zb0 sh (ds.drop off) ?_ rz hsh hd)
   rw[List.map_drop]
   exact r.drop off
  ·rw[if_neg c,if_neg (by omega)]
   exact .nil
section
variable {P:Program}{w:World}{K:PySem.W.Frag}{mg:Str->Option Value}{base:Heap}{cl:Nat->Addr}{T:Nat->Option IC.Fn}{fi:Nat}{fn:IC.Fn}{x:Str}{stm:Stmt}{f:Addr}{fd:FuncData}{N ps:List Str}{ds:List Int}{k:Nat}
end
theorem zc9 (a b:Key):peq (yav a) (yav b)=decide (a=b):=by
 rw[Bool.eq_iff_iff]
 cases a <;> cases b <;> simp[yav,peq]
theorem zfX:∀(a b:List Key),ybc (a.map yav) (b.map yav)=decide (a=b)
 | [],[]=>by simp[ybc]
 | [],y::ys=>by simp[ybc]
 |x::xs,[]=>by simp[ybc]
 |x::xs,y::ys=>by
  simp only[List.map_cons,ybc,zc9,zfX xs ys]
  rw[Bool.eq_iff_iff]
  simp
theorem zde (a b:List Key):peq (.tup (a.map yav)) (.tup (b.map yav))=decide (a=b):=by
 simp only[peq,zfX]
theorem zhI {k:PV}(h:ybw k=true):∃q,k=yav q:=by
 cases k with
 |int i=>exact⟨.inl i,rfl⟩
 |str i=>exact⟨.inr i,rfl⟩
 |_=>cases h
theorem ziu:∀{ks:List PV},ks.all ybw=true->∃qs:List Key,ks=qs.map yav
 | [],_=>⟨[],rfl⟩
 |k::ks,h=>by
  rw[List.all_cons,Bool.and_eq_true]at h
  obtain⟨q,rfl⟩:=zhI h.1
  obtain⟨qs,rfl⟩:=ziu h.2
  exact⟨q::qs,rfl⟩
section
variable {S:Se}{X:Cx}{K:PySem.W.Frag}{cl:Nat->Addr}{σ:St}{B:Addr->Prop}{φ:Ph}{H:Hp}{st:Store}{p pos p2 px apos:Pos}{a b c d o:Expr}{ca cb cc:Ce}
theorem ya2 {q:Key}{x:V}:yd K cl B φ H (yav q) x ↔ x=kV q:=by
 cases q <;> simp[yav,yd,kV]
theorem zdH:∀{qs:List Key} {xs:List V},yh K cl B φ H (qs.map yav) xs->xs=qs.map kV
 | [],xs,l=>by simpa only[List.map_nil,yh] using l
 |q::qs,xs,l=>by
  simp only[List.map_cons,yh]at l
  obtain⟨y,ys,rfl,r,l⟩:=l
  rw[ya2.mp r,zdH l]
  rfl
theorem DK.look {q:Key}:∀{kvs:List (PV×PV)} {ks:List (Key×V)},DK K cl B φ H kvs ks->∀{v:PV} {x:V},yd K cl B φ H v x->yd K cl B φ H ((IC.look (yav q) kvs).getD v) ((ybt ks q).getD x)
 | [],ks,h,v,x,r=>by cases h;exact r
 | (k,w)::t,ks,h,v,x,r=>by
  obtain⟨q',y,s,rfl,rfl,rv,l⟩:=h
  simp only[IC.look,zc9]
  by_cases e:q'=q
  ·rw[zaV (p:=(q',y)) e]
   simp[e,rv]
  ·rw[zaE (p:=(q',y)) e]
   simp only[decide_eq_true_eq,e,if_false]
   exact DK.look l r
theorem DT.look {q:List Key}:∀{kvs:List (PV×PV)} {ks:List (List Key×V)},DT K cl B φ H kvs ks->∀{v:PV} {x:V},yd K cl B φ H v x->yd K cl B φ H ((IC.look (.tup (q.map yav)) kvs).getD v) ((ybt ks q).getD x)
 | [],ks,h,v,x,r=>by cases h;exact r
 | (k,w)::t,ks,h,v,x,r=>by
  obtain⟨q',y,s,rfl,rfl,rv,l⟩:=h
  simp only[IC.look,zde]
  by_cases e:q'=q
  ·rw[zaV (p:=(q',y)) e]
   simp[e,rv]
  ·rw[zaE (p:=(q',y)) e]
   simp only[decide_eq_true_eq,e,if_false]
   exact DT.look l r
theorem DK.any {q:Key}:∀{kvs:List (PV×PV)} {ks:List (Key×V)},DK K cl B φ H kvs ks->(kvs.any λp=>peq p.1 (yav q))=ks.any λkv=>decide (kv.1=q)
 | [],ks,h=>by cases h;rfl
 | (k,w)::t,ks,h=>by
  obtain⟨q',y,s,rfl,rfl,rv,l⟩:=h
  simp only[List.any_cons,zc9,DK.any l]
theorem DT.any {q:List Key}:∀{kvs:List (PV×PV)} {ks:List (List Key×V)},DT K cl B φ H kvs ks->(kvs.any λp=>peq p.1 (.tup (q.map yav)))=ks.any λkv=>decide (kv.1=q)
 | [],ks,h=>by cases h;rfl
 | (k,w)::t,ks,h=>by
  obtain⟨q',y,s,rfl,rfl,rv,l⟩:=h
  simp only[List.any_cons,zde,DT.any l]
theorem DK.map {q:Key}{v:PV}{x:V}(r:yd K cl B φ H v x):∀{kvs:List (PV×PV)} {ks:List (Key×V)},DK K cl B φ H kvs ks->DK K cl B φ H (kvs.map λp=>if peq p.1 (yav q)=true then(p.1,v)else p) (ks.map λkv=>if kv.1=q then(kv.1,x)else kv)
 | [],ks,h=>by cases h;exact rfl
 | (k,w)::t,ks,h=>by
  obtain⟨q',y,s,rfl,rfl,rv,l⟩:=h
  simp only[List.map_cons,zc9,decide_eq_true_eq]
  by_cases e:q'=q
  ·simp only[e,if_true]
   exact⟨q,x,_,rfl,rfl,r,DK.map r l⟩
  ·simp only[e,if_false]
   exact⟨q',y,_,rfl,rfl,rv,DK.map r l⟩
theorem DT.map {q:List Key}{v:PV}{x:V}(r:yd K cl B φ H v x):∀{kvs:List (PV×PV)} {ks:List (List Key×V)},DT K cl B φ H kvs ks->DT K cl B φ H (kvs.map λp=>if peq p.1 (.tup (q.map yav))=true then(p.1,v)else p) (ks.map λkv=>if kv.1=q then(kv.1,x)else kv)
 | [],ks,h=>by cases h;exact rfl
 | (k,w)::t,ks,h=>by
  obtain⟨q',y,s,rfl,rfl,rv,l⟩:=h
  simp only[List.map_cons,zde,decide_eq_true_eq]
  by_cases e:q'=q
  ·simp only[e,if_true]
   exact⟨q,x,_,rfl,rfl,r,DT.map r l⟩
  ·simp only[e,if_false]
   exact⟨q',y,_,rfl,rfl,rv,DT.map r l⟩
theorem DK.snoc {q:Key}{v:PV}{x:V}(r:yd K cl B φ H v x):∀{kvs:List (PV×PV)} {ks:List (Key×V)},DK K cl B φ H kvs ks->DK K cl B φ H (kvs++[(yav q,v)]) (ks++[(q,x)])
 | [],ks,h=>by cases h;exact⟨q,x,[],rfl,rfl,r,rfl⟩
 | (k,w)::t,ks,h=>by
  obtain⟨q',y,s,rfl,rfl,rv,l⟩:=h
  exact⟨q',y,_,rfl,rfl,rv,DK.snoc r l⟩
theorem DT.snoc {q:List Key}{v:PV}{x:V}(r:yd K cl B φ H v x):∀{kvs:List (PV×PV)} {ks:List (List Key×V)},DT K cl B φ H kvs ks->DT K cl B φ H (kvs++[(.tup (q.map yav),v)]) (ks++[(q,x)])
 | [],ks,h=>by cases h;exact⟨q,x,[],rfl,rfl,r,rfl⟩
 | (k,w)::t,ks,h=>by
  obtain⟨q',y,s,rfl,rfl,rv,l⟩:=h
  exact⟨q',y,_,rfl,rfl,rv,DT.snoc r l⟩
theorem DK.put {q:Key}{v:PV}{x:V}{kvs:List (PV×PV)}{ks:List (Key×V)}(l:DK K cl B φ H kvs ks)(r:yd K cl B φ H v x):DK K cl B φ H (IC.put (yav q) v kvs) (putK ks q x):=by
 unfold IC.put putK
 rw[DK.any l]
 split
 ·exact DK.map r l
 ·exact DK.snoc r l
theorem DT.put {q:List Key}{v:PV}{x:V}{kvs:List (PV×PV)}{ks:List (List Key×V)}(l:DT K cl B φ H kvs ks)(r:yd K cl B φ H v x):DT K cl B φ H (IC.put (.tup (q.map yav)) v kvs) (putK ks q x):=by
 unfold IC.put putK
 rw[DT.any l]
 split
 ·exact DT.map r l
 ·exact DT.snoc r l
theorem DK.len:∀{kvs:List (PV×PV)} {ks:List (Key×V)},DK K cl B φ H kvs ks->kvs.length=ks.length
 | [],ks,h=>by cases h;rfl
 | (k,w)::t,ks,h=>by
  obtain⟨q',y,s,rfl,rfl,rv,l⟩:=h
  simp[DK.len l]
theorem DT.len:∀{kvs:List (PV×PV)} {ks:List (List Key×V)},DT K cl B φ H kvs ks->kvs.length=ks.length
 | [],ks,h=>by cases h;rfl
 | (k,w)::t,ks,h=>by
  obtain⟨q',y,s,rfl,rfl,rv,l⟩:=h
  simp[DT.len l]
theorem yp.dct {n:Nat}{t:Bool}{kvs:List (PV×PV)}{x:V}(rs:yp K cl B φ H st)(r:yd K cl B φ H (.loc n) x)(h:st[n]?=some (.dct t kvs)):∃y,x=.ref y/\φ[n]?=some (some y)/\ybU K cl B φ H (.dct t kvs) y:=by
 simp only[yd]at r
 obtain⟨hn,y,rfl,ha⟩:=r
 obtain⟨z,hz⟩:=rs.liv n _ h (by intro z;cases z)
 obtain rfl:=ha z hz
 obtain⟨o,ho,ro⟩:=rs.obj n z hz
 rw[h]at ho;cases ho
 exact⟨z,rfl,hz,ro⟩
theorem zeb {v:PV}{t:Bool}{kvs:List (PV×PV)}(h:ya0 st v=some (t,kvs)):∃n,v=.loc n/\st[n]?=some (.dct t kvs):=by
 cases v with
 |loc n =>
  simp only[ya0]at h
  split at h
  ·rename_i t' xs q
   cases h
   exact⟨n,rfl,q⟩
  ·cases h
 |_=>cases h
theorem zhO {k:PV}(h:isKey false k=true):∃q,k=yav q:=zhI h
theorem zic {k:PV}(h:isKey true k=true):∃q:List Key,k=.tup (q.map yav):=by
 cases k with
 |tp b xs =>
  cases b with
  |false =>
   obtain⟨qs,rfl⟩:=ziu h
   exact⟨qs,rfl⟩
  |true=>cases h
 |_=>cases h
theorem zgT {q:List Key}{x:V}(r:yd K cl B φ H (.tup (q.map yav)) x):∃y,x=.ref y/\H y=some (.tup (q.map kV)):=by
 simp only[yd]at r
 obtain⟨y,xs,rfl,rt,l⟩:=r
 rcases rt with⟨rt,_⟩|⟨z,_⟩
 ·exact⟨y,rfl,by rw[rt,zdH l]⟩
 ·cases z
theorem zhS:PE X (.Dict [] [] pos) (tE S X (.dict0 true)):=ybZ.imp λσ H Q ⟨B,φ,st,ρ,rs,re,h⟩=>by
 simp only[ev]at h
 exact λp hp=>h _ _ (φ++[some p]) (.push hp) (rs.push hp (rs.nB hp) ⟨[],zj,rfl⟩) (.loc_new rs)
theorem zny (hu:X.A.units+1<cLine)(ha:PE X a (tE S X ca))(hb:PE X b (tE S X cb))(hc:PE X c (tE S X cc))(m:M2 X a "get" apos b c pos:=by exact⟨rfl,rfl,rfl,rfl⟩):PE X (.Call (.Attribute a "get" apos) [b,c] [] pos) (tE S X (.mth .get ca (.cons cb (.cons cc .nil)))) :=
 (zjg hu ha hb hc m).imp λσ H Q ⟨B,φ,st,ρ,rs,re,h⟩=>by
  simp only[ev]at h
  refine tE.bind rs re h λx H1 v st1 φ1 s1 rs1 re1 rv h1=>?_
  obtain⟨_,e1,h1⟩:=zeL h1
  simp only[yas]at e1
  cases q:ya0 st1 v with
  |none=>rw[q]at e1;cases e1
  |some tk =>
   obtain⟨t,kvs⟩:=tk
   obtain⟨n,rfl,hn⟩:=zeb q
   obtain⟨y,rfl,hy,ro⟩:=rs1.dct rv hn
   refine⟨y,rfl,?_,?_⟩
   ·cases t with
    |false=>obtain⟨ks,hk,_⟩:=ro;exact .inl ⟨ks,.inl hk⟩
    |true=>obtain⟨ks,hk,_⟩:=ro;exact .inr ⟨ks,.inl hk⟩
   ·simp only[evs,R.bind_assoc]at h1
    refine tE.bind rs1 re1 h1 λkx H2 kv st2 φ2 s2 rs2 re2 rk h2=>tE.bind rs2 re2 h2 λdx H3 dv st3 φ3 s3 rs3 re3 rd h3=>?_
    simp only[R.bind]at h3;unfold ybq at h3;simp only[ydc]at h3
    cases q3:ya0 st3 (.loc n)with
    |none=>rw[q3]at h3;exact h3.elim
    |some tk3 =>
     obtain⟨t3,kvs3⟩:=tk3
     rw[q3]at h3
     dsimp only at h3
     split at h3
     ·rename_i hk
      obtain⟨n',e',hn3⟩:=zeb q3
      cases e'
      obtain⟨y3,ey,hy3,ro3⟩:=rs3.dct ((rv.step s2).step s3) hn3
      cases ey
      have rk3:=rk.step s3
      cases t3 with
      |false =>
       obtain⟨q,rfl⟩:=zhO hk
       obtain⟨ks,hks,l⟩:=ro3
       refine⟨ybt ks q,.inl ⟨ks,q,.inl hks,ya2.mp rk3,rfl⟩,h3.ok rs3 (DK.look l rd)⟩
      |true =>
       obtain⟨q,rfl⟩:=zic hk
       obtain⟨ks,hks,l⟩:=ro3
       obtain⟨b',rfl,hb'⟩:=zgT rk3
       exact⟨ybt ks q,.inr ⟨ks,q,b',.inl hks,rfl,hb',rfl⟩,h3.ok rs3 (DT.look l rd)⟩
     ·exact h3.elim
theorem zij {st4:Store}{x y v:PV}(h:ybi st x y v=some st4):∃n t kvs,x=.loc n/\st[n]?=some (.dct t kvs)/\isKey t y=true/\kvs.length<1000000/\st4=st.set n (.dct t (IC.put y v kvs)):=by
 cases x with
 |loc n =>
  simp only[ybi]at h
  split at h
  ·rename_i t kvs q
   split at h
   ·rename_i c
    exact⟨n,t,kvs,rfl,q,c.1,c.2,(Option.some.inj h).symm⟩
   ·cases h
  ·cases h
 |_=>cases h
theorem zle (hu:X.A.units+1<cLine)(ho:PE X b (tE S X cb))(hi:PE X c (tE S X cc))(hv:PE X a (tE S X ca))(hs:swapsWith a (some (.Subscript b c px)) pos.line X.env=pure false:=by rfl):PS X (.Assign [.Subscript b c px] a pos) (tS S X (.dput cb cc ca)) :=
 (zk1 hu ho hi hv hs).imp λD σ H ⟨B,φ,st,ρ,rs,re,h⟩=>by
  simp only[ex]at h
  refine tE.fl rs re h λv' H1 v st1 φ1 s1 rs1 re1 rv h1=>tE.fl rs1 re1 h1 λx' H2 x st2 φ2 s2 rs2 re2 rx h2=>tE.fl rs2 re2 h2 λy' H3 y st3 φ3 s3 rs3 re3 ry h3=>?_
  cases e:ybi st3 x y v with
  |none=>rw[e]at h3;exact h3.elim
  |some st4 =>
   rw[e]at h3
   obtain⟨n,t,kvs,rfl,hn,hk,hl,rfl⟩:=zij e
   obtain⟨l,rfl,hp,ro⟩:=rs3.dct (rx.step s3) hn
   have rv3:=(rv.step s2).step s3
   have hm:=ybe
   cases t with
   |false =>
    obtain⟨q,rfl⟩:=zhO hk
    obtain⟨ks,hks,ld⟩:=ro
    have s4:Step φ3 H3 φ3 (L2.upd H3 l (.dK (putK ks q v'))):=.put (List.mem_of_getElem? hp)
    refine⟨l,_,rfl,.inl ⟨ks,q,hks,ya2.mp ry,by have:=ld.len;omega,rfl⟩,h3 σ _ φ3 s4 (rs3.put hp ⟨_,zj,(ld.put rv3).step s4⟩) (re3.step s4)⟩
   |true =>
    obtain⟨q,rfl⟩:=zic hk
    obtain⟨ks,hks,ld⟩:=ro
    obtain⟨b',rfl,hb'⟩:=zgT ry
    have s4:Step φ3 H3 φ3 (L2.upd H3 l (.dT (putK ks q v'))):=.put (List.mem_of_getElem? hp)
    refine⟨l,_,rfl,.inr ⟨ks,q,b',hks,rfl,hb',by have:=ld.len;omega,rfl⟩,h3 σ _ φ3 s4 (rs3.put hp ⟨_,zj,(ld.put rv3).step s4⟩) (re3.step s4)⟩
noncomputable def trC (kvs:List (Str×Int)):List (TE×TE):=kvs.map λkv=>(tC (.str kv.1),tC (.int kv.2))
theorem zmJ:PPs X pos [] [] (trC []):=zko
theorem zl3 {ks:List (Option Expr)}{vs:List Expr}{kvs:List (Str×Int)}{x:Str}{i:Int}{j1 j2:Nat}{p1 p2:Pos}(h:PPs X pos ks vs (trC kvs)):PPs X pos (some (.Constant (.str x) j1 p1)::ks) (.Constant (.int i) j2 p2::vs) (trC ((x,i)::kvs)):=zi6 yb9 ybQ h
theorem zcC:∀(kvs:List (Str×Int)) {σ:St} {H:Hp} {Q:List (V×V)->Hp->Prop},Q (kvs.map λkv=>(.str kv.1,.int kv.2)) H->ybs (trC kvs) σ H Q
 | [],σ,H,Q,h=>h
 |kv::r,σ,H,Q,h=>zcC r (Q:=λps H3=>Q ((.str kv.1,.int kv.2)::ps) H3) h
theorem DK.fold:∀(kvs:List (Str×Int)) {acc:List (PV×PV)} {ks:List (Key×V)},DK K cl B φ H acc ks->DK K cl B φ H (kvs.foldl (λacc kv=>IC.put (.str kv.1) (.int kv.2) acc) acc) (yaG ks (kvs.map λkv=>(Sum.inr kv.1,.int kv.2)))
 | [],acc,ks,l=>l
 |kv::r,acc,ks,l=>by
  unfold yaG
  simp only[List.foldl_cons,List.map_cons]
  exact DK.fold r (l.put (q:=Sum.inr kv.1) (x:=.int kv.2) (by simp only[yd]))
theorem zlx {ks:List (Option Expr)}{vs:List Expr}{kvs:List (Str×Int)}(h:PPs X pos ks vs (trC kvs))(hall:ks.all (·.isSome)=true:=by rfl)(hl:ks.length=vs.length:=by rfl)(h0:ks≠[]:=by simp)(h15:ks.length<=15:=by decide):PE X (.Dict ks vs pos) (tE S X (.newd kvs)) :=
 (zlP h hall hl h0 h15).imp λσ H Q ⟨B,φ,st,ρ,rs,re,h⟩=>by
  simp only[ev]at h
  split at h
  ·rename_i c
   intro p hp
   refine zcC kvs ⟨zj,kvs.map λkv=>(Sum.inr kv.1,.int kv.2),by simp[kV],by simpa using c,?_⟩
   rw[zkQ]
   exact h _ _ (φ++[some p]) (.push hp) (rs.push hp (rs.nB hp) ⟨_,zj,DK.fold kvs rfl⟩) (.loc_new rs)
  ·exact h.elim
end
noncomputable def Itd (lo:Int)(n:Nat):It:=⟨λi _=>i<n,λi H x H'=>H'=H/\x=.int (lo+i*(-1)),λi _=>n<=i⟩
theorem ze8 {P:Program}{w:World}{K:PySem.W.Frag}{tg:Expr}(it:Addr)(lo:Int)(n:Nat):Turn P w K tg (Itd lo n) [it] it (λi h=>IsRangeIter h it (lo+(i:Nat)*(-1)) ((n:Int) - (i:Nat)) (-1)) where
 mem:=by simp
 obj:=λi h st b hb=>by
  have e:b=it:=by simpa using hb
  subst e
  exact⟨_,st,λv z=>by
   have z':Data.fields _=Data.cell v:=z
   cases z'⟩
 keep:=λi h h' st k=>k it (by simp) _ st
 item:=by
  intro X hP hw hK hc i pins s σ H E I hf st hg
  subst hP hw hK
  obtain⟨f0,f1,f2,f3,f4,f5⟩:=hf it (by simp)
  have W:=Walks.range (prog:=X.prog) (w:=X.w) (I.ok.hd hc) it lo (-1) n
  refine W.item i s _ _ hg st λv h' tk hv st' kk=>?_
  obtain⟨t,rfl⟩:=hv
  have I1:Inv X pins σ H { s with heap:=h',toks:=tk }:=I.turned (λb o hb e=>kk b o (by simpa using hb) e) f0 f1 f3 f4 f5
  exact⟨_,rfl,zje (s:={ s with heap:=h',toks:=tk }) (n:="range_iterator") st' rfl rfl (by decide) ⟨.int (lo+i*(-1)),H,I1,⟨t,rfl⟩,⟨rfl,rfl⟩,st',λb hb=>(hf b hb).1⟩⟩
 done:=by
  intro X hP hw hK hc i pins s σ H E I hf st hg
  subst hP hw hK
  obtain⟨f0,f1,f2,f3,f4,f5⟩:=hf it (by simp)
  exact wpAny_pyNext_range_end (I.ok.hd hc) st (by have:n<=i:=hg;omega) λh' eb=>⟨rfl,I.turned (t':=s.toks) (λb o hb e=>eb b o hb e) f0 f1 f3 f4 f5⟩
 self:=λ_ _ _ _ _ st h=>wpAny_pyIter_rangeiter st h
section
variable {S:Se}{X:Cx}{σ:St}{B:Addr->Prop}{φ:Ph}{H:Hp}{p pos p3 p4:Pos}{a b tg:Expr}{ca cb:Ce}
theorem zit {pins:List (Addr×Obj)}{σ:St}{H:Hp}{s:Shared}{R:It->Hp->Prop}{E:Value->Shared->Prop}{lo hi:Int}{t u v:Tok}{tk:Nat}(I:Inv X pins σ H s)(h1:lo.natAbs<1000000000)(h2:hi.natAbs<1000000000)
  (q:R (Itd lo (lo - hi).toNat) H):wpAny (model X.prog X.w) X.A (pyIter (.ref s.heap.objs.size)) (PIE X pins σ tg R) E { s with heap:=s.heap.push { cls:=.type "range",data:=.fields #[.int lo t,.int hi u,.int (-1) v] },toks:=tk }:=by
 refine wpAny_pyIter_range (IsRange.new ..) ?_ ?_
 ·unfold Builtin.Range.small
  have e2:Builtin.Range.rangeSize lo hi (-1)=((lo - hi).toNat:Int):=by
   unfold Builtin.Range.rangeSize
   rw[if_neg (by decide)]
   split
   ·rw[show -(-1:Int)=1 by decide,Int.ediv_one];omega
   ·omega
  rw[e2]
  simp only[Builtin.Range.rangeFitsLong,Bool.and_eq_true,Bool.or_eq_true,decide_eq_true_eq,beq_iff_eq,show ¬(-1:Int) > 0 by decide,if_false]
  omega
 have I1:Inv X pins σ H { s with heap:=s.heap.push { cls:=.type "range",data:=.fields #[.int lo t,.int hi u,.int (-1) v] },toks:=tk }:=I.kept λb o e=>Heap.get?_push_of_some _ e
 refine⟨(s.heap.push { cls:=.type "range",data:=.fields #[.int lo t,.int hi u,.int (-1) v] }).objs.size,[(s.heap.push { cls:=.type "range",data:=.fields #[.int lo t,.int hi u,.int (-1) v] }).objs.size],_,_,H,rfl,
  I1.kept (t':=tk) λb o e=>Heap.get?_push_of_some _ e,ze8 _ lo (lo - hi).toNat,?_,λb hb=>?_,q⟩
 ·have e1:lo+((0:Nat):Int)*(-1)=lo:=by simp
  have e2:(((lo - hi).toNat:Nat):Int) - ((0:Nat):Int)=Builtin.Range.rangeSize lo hi (-1):=by
   unfold Builtin.Range.rangeSize
   rw[if_neg (by decide)]
   split
   ·rw[show -(-1:Int)=1 by decide,Int.ediv_one];omega
   ·omega
  show IsRangeIter _ _ (lo+((0:Nat):Int)*(-1)) ((((lo - hi).toNat:Nat):Int) - ((0:Nat):Int)) (-1)
  rw[e1,e2]
  exact Heap.get?_push_size _ rfl
 ·have e:b=(s.heap.push { cls:=.type "range",data:=.fields #[.int lo t,.int hi u,.int (-1) v] }).objs.size:=by simpa using hb
  subst e
  exact I1.fpOk (Nat.le_refl _) (I1.hok.fresh (Nat.le_refl _))
theorem zgI {lo:Int}{n:Nat}:Drw S X B φ H (yo n lo (-1)) (Itd lo n):=by
 refine⟨λφ' H' s=>by rw[zn];exact Nat.le_refl _,λi φ' H' s hi=>by rw[zn]at hi;exact hi,λi φ' H' st x H2 B' hB s rs hi q=>?_⟩
 rw[zn]at hi
 obtain⟨rfl,rfl⟩:=q
 refine⟨.int (lo+i*(-1)),?_,by simp only[yd],λ_ _ e=>e⟩
 rw[zG,if_pos hi]
theorem zg7 {j:Nat}(hg:Gl X "range")(hm:X.mg "range"=none)(ha:PE X a (tE S X ca))(hb:PE X b (tE S X cb))(hs:starEach [a,b,.UnaryOp .USub (.Constant (.int 1) j p3) p4] X.env=[(false,eval a X.env),(false,eval b X.env),(false,eval (.UnaryOp .USub (.Constant (.int 1) j p3) p4) X.env)]:=by rfl)
  (hs1:starEach [b,.UnaryOp .USub (.Constant (.int 1) j p3) p4] X.env=[(false,eval b X.env),(false,eval (.UnaryOp .USub (.Constant (.int 1) j p3) p4) X.env)]:=by rfl) (hs2:starEach [.UnaryOp .USub (.Constant (.int 1) j p3) p4] X.env=[(false,eval (.UnaryOp .USub (.Constant (.int 1) j p3) p4) X.env)]:=by rfl) :
  PI X tg (.Call (.Name "range" p) [a,b,.UnaryOp .USub (.Constant (.int 1) j p3) p4] [] pos) (tI S X (.rangeD ca cb)):=by
 intro pins s σ H R I ⟨B,φ,st,ρ,rs,re,h⟩
 simp only[evi]at h
 have h0:(ybP (tE S X ca) (ybP (tE S X cb) (ybP (tUn (rU λi=>.int (-i)) (tC (.int 1))) ycG))) σ H λvs H1=>∃i j:Int,vs=[.int i,.int j,.int (-1)]/\i.natAbs<1000000000/\j.natAbs<1000000000/\R (Itd i (i - j).toNat) H1:=by
  refine tE.bind rs re h λx H1 v st1 φ1 s1 rs1 re1 rv h1=>tE.bind rs1 re1 h1 λy H2 w st2 φ2 s2 rs2 re2 rw h2=>?_
  obtain⟨xs,e,h2⟩:=zcU h2
  obtain⟨i,j,rfl,rfl,hi,hj,rfl⟩:=ziH e
  simp only[yd]at rv rw
  subst rv rw
  exact⟨1,rfl,i,j,rfl,hi,hj,h2.ok rs2 zgI⟩
 refine Call_ (zbf I hg hm boot_range (PyProof.Rows.callWith_type1 (thn (zO ha (zO hb (zO (zn1 zkb ybQ) yaO hs2) (by rw[hs1,hs2])) (by rw[hs,hs1]) pos pins s σ H _ I h0) λus s1 ⟨vs,H1,I1,r1,q1⟩=>?_) (by rw[hs,hs1]) (by rw[hs1];rfl)))
 obtain⟨i,j,e,hi,hj,q⟩:=q1
 subst e
 cases r1 with
 |cons r rr =>
  cases rr with
  |cons r' rr =>
   cases rr with
   |cons r'' rr =>
    cases rr
    obtain⟨t,rfl⟩:=r
    obtain⟨t',rfl⟩:=r'
    obtain⟨t'',rfl⟩:=r''
    exact call_range_3 (by decide) (zit I1 hi hj q) (.inl (PyProof.noPylong_small (by decide)))
end
end L2
namespace WK
open PySem L2 IC
section
variable {K:PySem.W.Frag}{cl:Nat->Addr}{B:Addr->Prop}{φ:Ph}{H:Hp}
theorem zj1:yh K cl B φ H [] []:=by simp only[yh]
theorem zis {v:PV}{x:V}{vs:List PV}{xs:List V}(h:yd K cl B φ H v x)(l:yh K cl B φ H vs xs):yh K cl B φ H (v::vs) (x::xs):=by
 simp only[yh]
 exact⟨x,xs,rfl,h,l⟩
end
theorem znu {P:Program}{w:World}{outer:List PySem.Env}{H:Hp}{s:Shared}{e:Value}{s':Shared}(h:CX1 P w outer H s (λ_ _ _=>False) e s'):False:=by
 obtain⟨_,_,_,_,_,_,_,_,_,_,_,_,_,_,z⟩:=h
 exact z
theorem zie {K:PySem.W.Frag}{cl:Nat->Addr}{B:Addr->Prop}{φ:Ph}{H:Hp}:∀ns:List Int,yh K cl B φ H (ns.map .int) (ns.map V.int)
 | []=>zj1
 |n::ns=>zis (by simp only[yd]) (zie ns)
def spX (K:PySem.W.Frag)(call:Nat->List PV->Store->R PV)(fi:Nat):Sp:=λvs H Q E=>∀cl,spI K cl call fi vs H Q E
theorem zhv {K:PySem.W.Frag}{call:Nat->List PV->Store->R PV}{fi:Nat}{H:Hp}{a:Addr}{ns:List Int}(ht:∀ns:List Int,ns.length<=63->call fi [.scr (ns.map .int)] []=.ok (.bl true) [])(hl:ns.length<=63)(hS:SqL K H a (ns.map V.int)) :
  spX K call fi [.ref a] H (λv _=>v=.bl true) λ_ _ _=>False:=by
 intro cl
 refine⟨λ_=>False,[],[],[.scr (ns.map .int)],⟨rfl,λm n a e=>by simp at e,λn a e=>by simp at e,λn o e=>by simp at e,λa z=>by simp at z,λa z=>z.elim⟩,zis ?_ zj1,?_⟩
 ·simp only[yd]
  refine⟨a,_,rfl,?_,zie ns⟩
  rcases hS with hS|hS
  ·exact .inl ⟨hS,λz=>z,by simp⟩
  ·exact .inr hS
 ·rw[ht ns hl]
  intro x H' φ' _ _ r
  simpa only[yd] using r
end WK
namespace L2
open PySem PySem.Spec PyProof.Rows IC
theorem zgR {l:List Str}(h:l.Nodup){i j:Nat}(hi:i<l.length)(hj:j<l.length)(e:l[i]=l[j]):i=j:=by
 rcases Nat.lt_trichotomy i j with q|q|q
 ·exact absurd e (List.pairwise_iff_getElem.mp h i j hi hj q)
 ·exact q
 ·exact absurd e.symm (List.pairwise_iff_getElem.mp h j i hj hi q)
section
variable {X:Cx}{pins:List (Addr×Obj)}{σ:St}{H:Hp}{s:Shared}
theorem Inv.drop {h':Heap}{m:Str->Option Value}{v:Option Value}{i:Nat}{n:Str}(I:Inv X pins σ H s)(hN:X.N.Nodup)(hi:X.N[i]?=some n)(hm:s.heap.Ns X.env.locals m)(look:∀(i:Nat) (x:Str) (v:V),X.N[i]?=some x->σ[i]?=some (some v)->Vis X.env.scope x->∃u,RelV v u/\Look X.env s.heap m x u)(hs:Heap.SameBut X.env.locals s.heap h')(hn:h'.Ns X.env.locals (λx=>if x=n then v else m x)):Inv X pins (σ.set i none) H { s with heap:=h' }:=by
 have k:∀b u,b≠X.env.locals->s.heap.get? b=some u->h'.get? b=some u:=λb u hb q=>(hs.2 b hb).trans q
 have nl:∀b o,X.s₀.heap.get? b=some o->b≠X.env.locals:=λb o e=>Nat.ne_of_lt (Nat.lt_of_lt_of_le (Heap.lt_size e) I.ok.above)
 refine⟨I.ok,I.os,I.bare,⟨λb o q n hb hx=>k b o (nl b o q) (I.base.keep b o q n hb hx),λb o q n hb hx=>?_,I.base.free,λb o q hx=>?_,I.base.tups,I.base.frzs,I.base.tbls⟩,⟨_,hn,λj x v e1 e2 hv=>?_⟩,λx c e=>?_,I.free,I.freeC,λp hp=>?_,λb u e=>?_,?_⟩
 ·obtain⟨sl,q1⟩:=I.base.slot b o q n hb hx
  exact⟨sl,k b _ (nl b o q) q1⟩
 ·obtain⟨o',q1⟩:=I.base.there b o q hx
  exact⟨o',k b o' (nl b o q) q1⟩
 ·have hj:j≠i:=λz=>by
   subst z
   rw[List.getElem?_set]at e2
   simp only[if_true]at e2
   split at e2 <;> cases e2
  rw[List.getElem?_set_ne (Ne.symm hj)]at e2
  have hx:x≠n:=λz=>by
   subst z
   obtain⟨l1,g1⟩:=List.getElem?_eq_some_iff.mp e1
   obtain⟨l2,g2⟩:=List.getElem?_eq_some_iff.mp hi
   exact hj (zgR hN l1 l2 (g1.trans g2.symm))
  obtain⟨u,r,lk⟩:=look j x v e1 e2 hv
  refine⟨u,r,?_⟩
  rcases lk with⟨q1,q2⟩|⟨q1,c,q2,o,q3,q4⟩
  ·exact .inl ⟨q1,by dsimp only;rw[if_neg hx];exact q2⟩
  ·exact .inr ⟨q1,c,q2,o,k c o (I.cne x c q2) q3,q4⟩
 ·obtain⟨v,o,ho,hd⟩:=I.cell x c e
  exact⟨v,o,k c o (I.cne x c e) ho,hd⟩
 ·obtain⟨q1,q2,q3,q4⟩:=I.pin p hp
  exact⟨k _ _ q3 q1,q2,q3,q4⟩
 ·refine(I.hok b u e).stay (λc v hc q=>k c v (λz=>?_) q) (λ_ q=>q) λ_ _ q=>q
  have fr:=I.free
  subst z
  rcases hc with z|z
  ·rw[z,e]at fr
   cases fr
  ·rw[z]at fr
   cases fr
 ·rw[List.length_set]
  exact I.len
end
section
variable {X:Cx}{body suite:List Stmt}{b₀:Stmt}{x n:Str}{np hpos pos:Pos}{W:Addr}{i:Nat}
end
section
variable {S:Se}{X:Cx}{σ:St}{B:Addr->Prop}{φ φ1:Ph}{H H1:Hp}{st:Store}{ρ:IC.Env}{D:Ends}{body suite:List Stmt}{b₀:Stmt}{x n:Str}{p p2 np hpos pos cpos:Pos}{W:Addr}{i:Nat}{cb ch:Css}{a e:Expr}{es:List Expr}{ca ce:Ce}{ces:Ces}
theorem yG.drop {K:PySem.W.Frag}{cl:Nat->Addr}(r:yG K cl B φ H ρ σ)(i:Nat):yG K cl B φ H (ρ.set i none) (σ.set i none):=by
 refine⟨by rw[List.length_set,List.length_set];exact r.len,λj w e=>?_⟩
 by_cases h:j=i
 ·subst h
  rw[List.getElem?_set]at e
  simp only[if_true]at e
  split at e <;> cases e
 ·rw[List.getElem?_set_ne (Ne.symm h)]at e ⊢
  exact r.get j w e
noncomputable abbrev Se.quiet (S:Se):Se:={ S with may:=false }
theorem all_nil {P:Nat->Prop}:∀c∈([]:List Nat),P c:=λ_ h=>by cases h
theorem all_cons {P:Nat->Prop}{c:Nat}{cs:List Nat}(h:P c)(t:∀d∈cs,P d):∀d∈c::cs,P d:=λd hd=>by
 rcases List.mem_cons.mp hd with e|e
 ·exact e ▸ h
 ·exact t d e
structure ycW (K:PySem.W.Frag)(mg:Str->Option Value)(C:Addr)(x:Str):Prop where
 m:mg x=some (.ref C)
 q:PySem.W.excIn K C [.type "ValueError",.type "Exception",.type "BaseException",.type "object"] "ValueError.__new__"=true
end
section
variable {S:Se}{X:Cx}{p pos p2 px apos:Pos}{a b:Expr}{ca cb:Ce}
def GCI (mg:Str->Option Value)(x:Str)(i:Int):Prop:=∃t,mg x=some (.int i t)
theorem zni {x:Str}{i:Int}(hg:Gl X x)(h:GCI X.mg x i)(hd:(x == ("__debug__":Str))=false:=by decide):PE X (.Name x pos) (tE S X (.cst (.int i))):=by
 obtain⟨t,hm⟩:=h
 exact(zcP hg hm (show RelV (.int i) (.int i t)from ⟨t,rfl⟩) hd).imp λσ H Q ⟨B,φ,st,ρ,rs,re,h⟩=>by
  simp only[ev]at h
  exact h.ok rs (by simp only[yd])
end
end L2
namespace WE
open PySem PySem.Spec PyProof.Rows
section
variable {prog:Program}{w:World}{A:Around}{E:Value->Shared->Prop}{s:Shared}
def yda (h:Heap)(a t:Addr)(i:Int):Prop:=∃o,h.get? a=some o/\o.cls=.type "reversed"/\o.data=.fields #[.ref t,rawInt i]
theorem yda.typeIs {a t:Addr}{i:Int}(x:yda s.heap a t i):s.TypeIs (.ref a) "reversed":=let ⟨o,ho,hc,_⟩:=x;⟨o,ho,hc⟩
end
end WE
namespace L2
open PySem PySem.Spec PyProof.Rows
end L2
namespace L2
open PySem PySem.Spec PyProof.Rows IC
open Classical in
section
variable {S:Se}{X:Cx}{σ:St}{B:Addr->Prop}{φ φ1:Ph}{H H1:Hp}{st:Store}{ρ:IC.Env}{p pos p2 px py pt pt2:Pos}{a b c d o a' b' c' d':Expr}{ca cb cc cd ce cf:Ce}{pins:List (Addr×Obj)}{s:Shared}{kt k2:Nat}{es:List Expr}{ces:Ces}{x:Str}
end
end L2
namespace IC
open PySem
end IC
namespace L2
open PySem PySem.Spec PyProof.Rows IC
section
variable {S:Se}{X:Cx}{σ:St}{B:Addr->Prop}{φ:Ph}{H:Hp}{p p2 pos pos2 apos:Pos}{a b tg:Expr}{ca cb:Ce}
end
end L2
namespace WE
open PySem PySem.Spec PyProof.Rows
section
variable {pg:Program}{wd:World}{A:Around}{Er:Value->Shared->Prop}{s:Shared}
theorem tit_keep {h h':Heap}{i t:Addr}{j:Nat}(u:h.IsTupleIter i t j)(k:∀o,h.get? i=some o->h'.get? i=some o):h'.IsTupleIter i t j:=let ⟨o,g,r⟩:=u;⟨o,k o g,r⟩
theorem zbE {h h':Heap}{t:Addr}{xs:Array Value}(u:h.IsTuple t xs)(k:∀o,h.get? t=some o->h'.get? t=some o):h'.IsTuple t xs:=let ⟨o,g,r⟩:=u;⟨o,k o g,r⟩
def Kz (z TO i1 i2:Addr)(h h':Heap):Prop:=∀c o,c≠z->c≠TO->c≠i1->c≠i2->h.get? c=some o->h'.get? c=some o
theorem zin {z TI TO i1 i2 l1 l2:Addr}{j:Nat}{xs ys:Array Value}{x y a b:Value}{Q:Value->Shared->Prop}(D:ZipApart z TI TO i1 i2 l1 l2)
  (gz:IsZip s.heap z TI TO .none) (gI:IsPair s.heap TI (.ref i1) (.ref i2)) (gO:IsPair s.heap TO a b) (u1:s.heap.IsTupleIter i1 l1 j) (u2:s.heap.IsTupleIter i2 l2 j) (t1:s.heap.IsTuple l1 xs) (t2:s.heap.IsTuple l2 ys) (ex:xs[j]?=some x) (ey:ys[j]?=some y)
  (k:∀h',IsZip h' z TI TO (rawInt s.heap.objs.size)->IsPair h' TO x y->h'.IsTupleIter i1 l1 (j+1)->h'.IsTupleIter i2 l2 (j+1)->IsPair h' s.heap.objs.size x y->h'.objs.size=s.heap.objs.size+1->Kz z TO i1 i2 s.heap h'->Q (.ref s.heap.objs.size) { s with heap:=h' }) :
  wpAny (model pg wd) A (Builtin.«zip.__next__» ⟨[.ref z],[]⟩) (λf s'=>∃v,f=.done (.ret v)/\Q v s') Er s:=by
 show wpAny _ _ (field (.ref z) 2 >>= _) _ _ _;refine wpAny_bind (wpAny_field gz rfl (x:=.bool false) rfl ?_)
 show wpAny _ _ (field (.ref z) 3 >>= _) _ _ _;refine wpAny_bind (wpAny_field gz rfl (x:=.ref TI) rfl ?_);refine wpAny_bind (wpAny_seqItems gI rfl ?_)
 show wpAny _ _ (Builtin.SmallTypes.ownedTupleIsFree (.ref z) >>= _) _ _ _;refine wpAny_bind ?_;unfold Builtin.SmallTypes.ownedTupleIsFree
 refine wpAny_bind (wpAny_field gz rfl (x:=.none) rfl (wpAny_pure ?_));simp only[if_true]
 refine wpAny_bind (wpAny_rule ?_);refine wpAny_bind (wpAny_field gz rfl (x:=.ref TO) rfl ?_);refine wpAny_bind (wpAny_setField_rec gz (by simp) λha za sa=>?_)
 replace za:IsZip ha z TI TO .ellipsis:=za
 refine wpAny_bind ?_;simp only[List.zipIdx_cons,List.zipIdx_nil,List.forIn_cons,List.forIn_nil];refine wpAny_bind (wpAny_bind (wpAny_onRaise ?_))
 show wpAny _ _ (Builtin.SmallTypes.nextOf (.ref i1) >>= _) _ _ _
 refine wpAny_bind (za5 (tit_keep u1 λo e=>sa.extBut _ _ D.i1z e) (zbE t1 λo e=>sa.extBut _ _ D.l1z e) ex λhb ub sb=>wpAny_pure ?_)
 have ob:IsPair hb TO a b:=sb.extBut _ _ D.TOi1 (sa.extBut _ _ D.TOz gO)
 refine wpAny_bind (wpAny_seqItems ob rfl ?_);refine wpAny_bind (wpAny_updateSeq_pair ob λhc oc sc=>?_)
 replace oc:IsPair hc TO x b:=oc
 refine wpAny_bind (wpAny_letGo (wpAny_pure ?_));refine wpAny_bind (wpAny_bind (wpAny_onRaise ?_))
 show wpAny _ _ (Builtin.SmallTypes.nextOf (.ref i2) >>= _) _ _ _
 refine wpAny_bind (za5 (tit_keep u2 λo e=>sc.extBut _ _ D.TOi2.symm (sb.extBut _ _ D.i12.symm (sa.extBut _ _ D.i2z e))) (zbE t2 λo e=>sc.extBut _ _ D.l2TO (sb.extBut _ _ D.l2i1 (sa.extBut _ _ D.l2z e))) ey λhd ud sd=>wpAny_pure ?_)
 have od:IsPair hd TO x b:=sd.extBut _ _ D.TOi2 oc
 refine wpAny_bind (wpAny_seqItems od rfl ?_);refine wpAny_bind (wpAny_updateSeq_pair od λhe oe se=>?_)
 replace oe:IsPair he TO x y:=oe
 refine wpAny_bind (wpAny_letGo (wpAny_pure (wpAny_pure ?_)));refine wpAny_bind (wpAny_seqItems oe rfl ?_);refine wpAny_bind (wpAny_newTuple ?_)
 have sz:he.objs.size=s.heap.objs.size:=by rw[se.1,sd.1,sc.1,sb.1,sa.1]
 have ze:IsZip he z TI TO .ellipsis:=se.extBut _ _ D.TOz.symm (sd.extBut _ _ D.i2z.symm (sc.extBut _ _ D.TOz.symm (sb.extBut _ _ D.i1z.symm za)))
 have ke:Kz z TO i1 i2 s.heap he:=λc o p1 p2 p3 p4 e=>se.extBut _ _ p2 (sd.extBut _ _ p4 (sc.extBut _ _ p2 (sb.extBut _ _ p3 (sa.extBut _ _ p1 e))))
 have v1:he.IsTupleIter i1 l1 (j+1):=tit_keep ub λo e=>se.extBut _ _ D.TOi1.symm (sd.extBut _ _ D.i12 (sc.extBut _ _ D.TOi1.symm e))
 have v2:he.IsTupleIter i2 l2 (j+1):=tit_keep ud λo e=>se.extBut _ _ D.TOi2.symm e
 have lz:z<he.objs.size:=Heap.lt_size ze
 show wpAny _ _ (Builtin.SmallTypes.ownedTupleHandOut (.ref z) (.ref he.objs.size) >>= _) _ _ _;refine wpAny_bind ?_;unfold Builtin.SmallTypes.ownedTupleHandOut
 have zf:IsZip (he.push { cls:=.type "tuple",data:=.seq #[x,y] }) z TI TO .ellipsis:=Heap.get?_push_of_some _ ze
 refine wpAny_bind (wpAny_setField_rec zf (by simp) λhg zg sg=>?_)
 replace zg:IsZip hg z TI TO (rawInt he.objs.size):=zg
 refine wpAny_setField_rec zg (by simp) λhi zi si=>?_
 replace zi:IsZip hi z TI TO (rawInt he.objs.size):=zi
 have up:∀c o,c≠z->he.get? c=some o->hi.get? c=some o:=λc o p e=>si.extBut _ _ p (sg.extBut _ _ p (Heap.get?_push_of_some _ e))
 have pn:IsPair hi he.objs.size x y:=si.extBut _ _ (Nat.ne_of_gt lz) (sg.extBut _ _ (Nat.ne_of_gt lz) (Heap.get?_push_size _ rfl))
 have si8:hi.objs.size=he.objs.size+1:=by rw[si.1,sg.1,Heap.size_push]
 rw[sz]at zi pn si8
 refine wpAny_pure ⟨_,rfl,?_⟩;show Q (.ref he.objs.size) _;rw[sz]
 exact k hi zi (up _ _ D.TOz oe) (tit_keep v1 λo e=>up _ o D.i1z e) (tit_keep v2 λo e=>up _ o D.i2z e) pn si8 λc o p1 p2 p3 p4 e=>up c o p1 (ke c o p1 p2 p3 p4 e)
theorem zjF {z TI TO i1 i2 l1 l2:Addr}{j:Nat}{xs:Array Value}{a b:Value}{Q:Fin->Shared->Prop}(hh:A.handled=none)(D:ZipApart z TI TO i1 i2 l1 l2)
  (gz:IsZip s.heap z TI TO .none) (gI:IsPair s.heap TI (.ref i1) (.ref i2)) (gO:IsPair s.heap TO a b) (u1:s.heap.IsTupleIter i1 l1 j) (t1:s.heap.IsTuple l1 xs) (ex:xs[j]?=none)
  (k:∀h' e,Kz z TO i1 i2 s.heap h'->(∃o,h'.get? e=some o/\o.cls=.type "StopIteration")->Er (.ref e) { s with heap:=h' }) :
  wpAny (model pg wd) A (Builtin.«zip.__next__» ⟨[.ref z],[]⟩) Q Er s:=by
 show wpAny _ _ (field (.ref z) 2 >>= _) _ _ _;refine wpAny_bind (wpAny_field gz rfl (x:=.bool false) rfl ?_)
 show wpAny _ _ (field (.ref z) 3 >>= _) _ _ _;refine wpAny_bind (wpAny_field gz rfl (x:=.ref TI) rfl ?_);refine wpAny_bind (wpAny_seqItems gI rfl ?_)
 show wpAny _ _ (Builtin.SmallTypes.ownedTupleIsFree (.ref z) >>= _) _ _ _;refine wpAny_bind ?_;unfold Builtin.SmallTypes.ownedTupleIsFree
 refine wpAny_bind (wpAny_field gz rfl (x:=.none) rfl (wpAny_pure ?_));simp only[if_true]
 refine wpAny_bind (wpAny_rule ?_);refine wpAny_bind (wpAny_field gz rfl (x:=.ref TO) rfl ?_);refine wpAny_bind (wpAny_setField_rec gz (by simp) λha za sa=>?_)
 replace za:IsZip ha z TI TO .ellipsis:=za
 refine wpAny_bind ?_;simp only[List.zipIdx_cons,List.zipIdx_nil,List.forIn_cons,List.forIn_nil];refine wpAny_bind (wpAny_bind (wpAny_onRaise ?_))
 show wpAny _ _ (Builtin.SmallTypes.nextOf (.ref i1) >>= _) _ _ _
 refine wpAny_bind (zdB hh (tit_keep u1 λo e=>sa.extBut _ _ D.i1z e) (zbE t1 λo e=>sa.extBut _ _ D.l1z e) ex λhb e sb he=>?_)
 obtain⟨oe,ge,ce⟩:=he
 have zb:IsZip hb z TI TO .ellipsis:=sb _ _ D.i1z.symm za
 have ne:e≠z:=λq=>by subst q;rw[zb]at ge;cases ge;simp at ce
 exact wpAny_setField_rec zb (by simp) λhc _ sc=>k hc e (λc o p1 _ p3 _ q=>sc.extBut _ _ p1 (sb _ _ p3 (sa.extBut _ _ p1 q))) ⟨oe,sc.extBut _ _ ne ge,ce⟩
theorem pyNext_zipT {z TI TO i1 i2 l1 l2:Addr}{j:Nat}{xs ys:Array Value}{x y a b:Value}{Q:Option Value->Shared->Prop}(D:ZipApart z TI TO i1 i2 l1 l2)
  (gz:IsZip s.heap z TI TO .none) (gI:IsPair s.heap TI (.ref i1) (.ref i2)) (gO:IsPair s.heap TO a b) (u1:s.heap.IsTupleIter i1 l1 j) (u2:s.heap.IsTupleIter i2 l2 j) (t1:s.heap.IsTuple l1 xs) (t2:s.heap.IsTuple l2 ys) (ex:xs[j]?=some x) (ey:ys[j]?=some y)
  (k:∀h',IsZip h' z TI TO (rawInt s.heap.objs.size)->IsPair h' TO x y->h'.IsTupleIter i1 l1 (j+1)->h'.IsTupleIter i2 l2 (j+1)->IsPair h' s.heap.objs.size x y->h'.objs.size=s.heap.objs.size+1->Kz z TO i1 i2 s.heap h'->Q (some (.ref s.heap.objs.size)) { s with heap:=h' }) :
  wpAny (model pg wd) A (pyNext (.ref z)) Q Er s:=by
 have ty:s.TypeIs (.ref z) "zip":=⟨_,gz,rfl⟩
 unfold pyNext
 exact wpAny_bind (wpAny_attempt (wpAny_callSpecial?_slot (name:=Str.ofString "__next__") ty F.slot_zip_next (wpAny_call_entry F.slot_zip_next ty F.entry_zip_next (zin D gz gI gO u1 u2 t1 t2 ex ey λh' a1 a2 a3 a4 a5 a6 a7=>wpAny_pure (k h' a1 a2 a3 a4 a5 a6 a7)) (F.args_zip_next_1 _))))
theorem pyNext_zipE {z TI TO i1 i2 l1 l2:Addr}{j:Nat}{xs:Array Value}{a b:Value}{Q:Option Value->Shared->Prop}(hh:A.handled=none)(D:ZipApart z TI TO i1 i2 l1 l2)
  (gz:IsZip s.heap z TI TO .none) (gI:IsPair s.heap TI (.ref i1) (.ref i2)) (gO:IsPair s.heap TO a b) (u1:s.heap.IsTupleIter i1 l1 j) (t1:s.heap.IsTuple l1 xs) (ex:xs[j]?=none)
  (k:∀h',Kz z TO i1 i2 s.heap h'->Q none { s with heap:=h' }):wpAny (model pg wd) A (pyNext (.ref z)) Q Er s:=by
 have ty:s.TypeIs (.ref z) "zip":=⟨_,gz,rfl⟩
 unfold pyNext
 refine wpAny_bind (wpAny_attempt (wpAny_callSpecial?_slot (name:=Str.ofString "__next__") ty F.slot_zip_next (wpAny_call_entry F.slot_zip_next ty F.entry_zip_next (zjF hh D gz gI gO u1 t1 ex λh' e kk he=>?_) (F.args_zip_next_1 _))))
 obtain⟨o,ho,hc⟩:=he
 exact wpAny_bind (wpAny_isInstance (T:="StopIteration") (b:=true) ⟨o,ho,hc⟩ isSubtype_stop (wpAny_pure (k _ kk)))
end
noncomputable abbrev ti (l:Addr):Obj:={ cls:=.type "tuple_iterator",data:=.fields #[.ref l,.int 0 0] }
abbrev zh1 (h:Heap)(l1:Addr):Heap:=h.push (ti l1)
abbrev zh2 (h:Heap)(l1 l2:Addr):Heap:=(zh1 h l1).push (ti l2)
abbrev zh3 (h:Heap)(l1 l2:Addr):Heap:=(zh2 h l1 l2).push { cls:=.type "tuple",data:=.seq #[.ref h.objs.size,.ref (zh1 h l1).objs.size] }
abbrev zh4 (h:Heap)(l1 l2:Addr):Heap:=(zh3 h l1 l2).push { cls:=.type "tuple",data:=.seq #[.none,.none] }
abbrev zh5 (h:Heap)(l1 l2:Addr):Heap:=(zh4 h l1 l2).push { cls:=.type "zip",data:=.fields #[.none,.bool false,.bool false,.ref (zh2 h l1 l2).objs.size,.ref (zh3 h l1 l2).objs.size] }
theorem zgG (l1 l2:Addr)(xs ys:Array Value) :
  Meets (Builtin.«zip.__new__» ⟨[.type "zip",.ref l1,.ref l2],[]⟩) (λ_ R s=>s.heap.IsTuple l1 xs/\s.heap.IsTuple l2 ys/\R (.ok (.ret (.ref (zh4 s.heap l1 l2).objs.size))) { s with heap:=zh5 s.heap l1 l2 }) :=
 .of_wp λprog w A R s h=>by
  obtain⟨hp,g,d,tk,os⟩:=s
  obtain⟨q1,q2,h⟩:=h
  have hsub:=sub_zip
  have T1:Heap.IsTuple (Shared.heap ⟨hp,g,d,tk,os⟩) l1 xs:=q1
  have T2:Heap.IsTuple (Shared.heap ⟨hp.push (ti l1),g,d,tk,os⟩) l2 ys:=zbE q2 λo e=>Heap.get?_push_of_some _ e
  wp_walk using wpAny_pyIter_tuple T1,wpAny_pyIter_tuple T2
  exact⟨_,rfl,h⟩
theorem call_zipT {pg:Program}{wd:World}{A:Around}{Er:Value->Shared->Prop}{s:Shared}{l1 l2:Addr}{xs ys:Array Value}{Q:Value->Shared->Prop}(t1:s.heap.IsTuple l1 xs)(t2:s.heap.IsTuple l2 ys)
  (k:∀h',IsZip h' (s.heap.objs.size+4) (s.heap.objs.size+2) (s.heap.objs.size+3) .none->IsPair h' (s.heap.objs.size+2) (.ref s.heap.objs.size) (.ref (s.heap.objs.size+1))->IsPair h' (s.heap.objs.size+3) .none .none->h'.IsTupleIter s.heap.objs.size l1 0->h'.IsTupleIter (s.heap.objs.size+1) l2 0 ->
   (∀b o,s.heap.get? b=some o->h'.get? b=some o)->Q (.ref (s.heap.objs.size+4)) { s with heap:=h' }):wpAny (model pg wd) A (call (.type "zip") [.ref l1,.ref l2]) Q Er s:=by
 refine callType_new F.called_zip (by decide) (F.typeCall_zip_2 _ _) (F.newCall_zip_2 _ _) (λobj=>F.args_object_init_3 obj _ _) F.entry_zip_new (zgG l1 l2 xs ys) ⟨t1,t2,?_⟩
 have n1:(zh1 s.heap l1).objs.size=s.heap.objs.size+1:=Heap.size_push ..
 have n2:(zh2 s.heap l1 l2).objs.size=s.heap.objs.size+2:=by rw[Heap.size_push,n1]
 have n3:(zh3 s.heap l1 l2).objs.size=s.heap.objs.size+3:=by rw[Heap.size_push,n2]
 have n4:(zh4 s.heap l1 l2).objs.size=s.heap.objs.size+4:=by rw[Heap.size_push,n3]
 have kp:∀{h:Heap} {o:Obj} {b:Addr} {u:Obj},h.get? b=some u->(h.push o).get? b=some u:=λe=>Heap.get?_push_of_some _ e
 have m5:(zh5 s.heap l1 l2).get? (zh4 s.heap l1 l2).objs.size=some _:=Heap.get?_push_size _ rfl
 have m4:(zh5 s.heap l1 l2).get? (zh3 s.heap l1 l2).objs.size=some _:=kp (Heap.get?_push_size _ rfl)
 have m3:(zh5 s.heap l1 l2).get? (zh2 s.heap l1 l2).objs.size=some _:=kp (kp (Heap.get?_push_size _ rfl))
 have m2:(zh5 s.heap l1 l2).get? (zh1 s.heap l1).objs.size=some _:=kp (kp (kp (Heap.get?_push_size _ rfl)))
 have m1:(zh5 s.heap l1 l2).get? s.heap.objs.size=some _:=kp (kp (kp (kp (Heap.get?_push_size _ rfl))))
 rw[n2,n3,n4]at m5
 rw[n1,n2]at m3
 rw[n3]at m4
 rw[n1]at m2
 show _/\_
 rw[n4]
 exact⟨⟨_,m5,rfl⟩,k _ m5 m3 m4 ⟨_,m1,rfl,rfl⟩ ⟨_,m2,rfl,rfl⟩ λb o e=>kp (kp (kp (kp (kp e))))⟩
end WE
namespace L2
open PySem PySem.Spec PyProof.Rows
noncomputable def Itz (K:PySem.W.Frag)(a b:Addr):It :=
 ⟨λi H=>∃xs ys x y,SqT K H a xs/\SqT K H b ys/\xs[i]?=some x/\ys[i]?=some y,λi H v H'=>∃T,H T=none/\v=.ref T/\∀xs ys x y,SqT K H a xs->SqT K H b ys->xs[i]?=some x->ys[i]?=some y->H'=upd H T (.tup [x,y]),λi H=>∃xs,SqT K H a xs/\xs.length=i⟩
theorem zhB {P:Program}{w:World}{K:PySem.W.Frag}{es:List Expr}{kk:Nat}{pos:Pos}(z TI TO i1 i2 a b:Addr)(D:ZipApart z TI TO i1 i2 a b) :
  Turn P w K (.Tuple es kk pos) (Itz K a b) [z,TI,TO,i1,i2] z (λi h=>IsZip h z TI TO .none/\IsPair h TI (.ref i1) (.ref i2)/\(∃p q,IsPair h TO p q)/\h.IsTupleIter i1 a i/\h.IsTupleIter i2 b i) where
 mem:=by simp
 obj:=λi h st c hc=>by
  obtain⟨g0,g1,⟨p,q,g2⟩,⟨o3,g3,_,d3⟩,⟨o4,g4,_,d4⟩⟩:=st
  simp only[List.mem_cons,List.not_mem_nil,or_false]at hc
  rcases hc with rfl|rfl|rfl|rfl|rfl
  ·exact⟨_,g0,λv y=>nomatch y⟩
  ·exact⟨_,g1,λv y=>nomatch y⟩
  ·exact⟨_,g2,λv y=>nomatch y⟩
  ·exact⟨o3,g3,λv y=>by rw[d3]at y;cases y⟩
  ·exact⟨o4,g4,λv y=>by rw[d4]at y;cases y⟩
 keep:=λi h h' st k=>by
  obtain⟨g0,g1,⟨p,q,g2⟩,g3,g4⟩:=st
  exact⟨k z (by simp) _ g0,k TI (by simp) _ g1,⟨p,q,k TO (by simp) _ g2⟩,WE.tit_keep g3 λo e=>k i1 (by simp) o e,WE.tit_keep g4 λo e=>k i2 (by simp) o e⟩
 item:=by
  intro X hP hw hK hc i pins s σ H E I hf st hg
  subst hP hw hK
  obtain⟨xs,ys,x,y,hq1,hq2,hx,hy⟩:=hg
  obtain⟨its,rv,p1,_⟩:=I.tuple hq1
  obtain⟨jts,rw',p2,_⟩:=I.tuple hq2
  obtain⟨g0,g1,⟨p,q,g2⟩,g3,g4⟩:=st
  obtain⟨u,hu,ru⟩:=rv.get hx
  obtain⟨v,hv,rv2⟩:=rw'.get hy
  refine WE.pyNext_zipT D g0 g1 g2 g3 g4 p1 p2 (by simpa using hu) (by simpa using hv) λh1 a1 a2 a3 a4 a5 a6 a7=>⟨_,rfl,?_⟩
  refine wpAny_letOwnedTupleGo_zip a1 λh2 b1 b2=>?_
  have lt:∀{c o},s.heap.get? c=some o->s.heap.objs.size≠c:=λe=>Nat.ne_of_gt (Heap.lt_size e)
  have hTz:s.heap.objs.size≠z:=lt g0
  have hch:∀c o,c∉[z,TI,TO,i1,i2]->s.heap.get? c=some o->h2.get? c=some o:=λc o hn e=>b2.extBut _ _ (λz'=>hn (by simp[z'])) (a7 c o (λz'=>hn (by simp[z'])) (λz'=>hn (by simp[z'])) (λz'=>hn (by simp[z'])) (λz'=>hn (by simp[z'])) e)
  have new:yN X.prog X.w (upd H s.heap.objs.size (.tup [x,y])) h2 s.heap.objs.size (.tup [x,y]):=⟨by show 2<=sizeLine;decide,[u,v],.cons ru (.cons rv2 .nil),_,b2.extBut _ _ hTz a5,rfl,_,rfl⟩
  have I2:=I.turnLaid (t':=s.toks) hf hch (Nat.le_refl _) new
  have gI:IsPair h1 TI (.ref i1) (.ref i2):=a7 _ _ D.TIz D.TITO D.TIi1 D.TIi2 g1
  refine⟨.ref s.heap.objs.size,_,I2,rfl,⟨s.heap.objs.size,I.hok.fresh (Nat.le_refl _),rfl,λxs' ys' x' y' hx1 hy1 hx2 hy2=>?_⟩,⟨b1,b2.extBut _ _ D.TIz gI,⟨_,_,b2.extBut _ _ D.TOz a2⟩,WE.tit_keep a3 λo e=>b2.extBut _ _ D.i1z e,WE.tit_keep a4 λo e=>b2.extBut _ _ D.i2z e⟩,λc hc=>?_⟩
  ·rw[I.tuple_inj hx1 hq1,hx]at hx2
   rw[I.tuple_inj hy1 hq2,hy]at hy2
   cases hx2
   cases hy2
   rfl
  ·have hne:c≠s.heap.objs.size:=λz'=>by
    subst z'
    obtain⟨o3,e3,_⟩:=g3
    obtain⟨o4,e4,_⟩:=g4
    simp only[List.mem_cons,List.not_mem_nil,or_false]at hc
    rcases hc with z' | z' | z' | z' | z'
    ·exact lt g0 z'
    ·exact lt g1 z'
    ·exact lt g2 z'
    ·exact lt e3 z'
    ·exact lt e4 z'
   rw[zd hne]
   exact(hf c hc).1
 done:=by
  intro X hP hw hK hc i pins s σ H E I hf st hg
  subst hP hw hK
  obtain⟨xs,hq1,hx⟩:=hg
  obtain⟨its,rv,p1,_⟩:=I.tuple hq1
  obtain⟨g0,g1,⟨p,q,g2⟩,g3,g4⟩:=st
  have hl:=rv.length
  refine WE.pyNext_zipE (I.ok.hd hc) D g0 g1 g2 g3 p1 (by simp;omega) λh' kz=>⟨rfl,I.turnedL (t':=s.toks) hf λc o hn e=>kz c o (λz'=>hn (by simp[z'])) (λz'=>hn (by simp[z'])) (λz'=>hn (by simp[z'])) (λz'=>hn (by simp[z'])) e⟩
 self:=λ_ _ _ _ _ st q=>wpAny_pyIter_zip st.1 q
def yeW (K:PySem.W.Frag)(ta:TA):TI:=λσ H R=>ta σ H λvs H1=>∃a b,vs=[.ref a,.ref b]/\(∃xs,SqT K H1 a xs)/\(∃ys,SqT K H1 b ys)/\R (Itz K a b) H1
theorem zlo {X:Cx}{a b:Expr}{es:List Expr}{kk:Nat}{tp:Pos}{ta:TA}{p pos:Pos}(hg:Gl X "zip")(hm:X.mg "zip"=none)(ha:PA X [a,b] ta)(hs:starEach [a,b] X.env=[(false,eval a X.env),(false,eval b X.env)]:=by rfl)(hs2:starEach [b] X.env=[(false,eval b X.env)]:=by rfl) :
  PI X (.Tuple es kk tp) (.Call (.Name "zip" p) [a,b] [] pos) (yeW X.K ta):=by
 intro pins s σ H R I h
 refine wpAny_Call_Name_kw (zbf I hg hm boot_zip ?_)
 refine PyProof.Rows.callWith_type1 (thn (ha pos pins s σ H _ I h) λus s1 ⟨vs,H1,I1,r1,q1⟩=>?_) (by rw[hs,hs2]) (by rw[hs2];rfl)
 obtain⟨l1,l2,rfl,⟨xs,hq1⟩,⟨ys,hq2⟩,q⟩:=q1
 cases r1 with
 |cons r rr =>
  cases rr with
  |cons r2 r3 =>
   cases r3
   cases (show _=Value.ref l1 from r)
   cases (show _=Value.ref l2 from r2)
   obtain⟨its,rv,pt1,_⟩:=I1.tuple hq1
   obtain⟨jts,rv2,pt2,_⟩:=I1.tuple hq2
   have b1:l1<s1.heap.objs.size:=by obtain⟨_,e,_⟩:=pt1;exact Heap.lt_size e
   have b2:l2<s1.heap.objs.size:=by obtain⟨_,e,_⟩:=pt2;exact Heap.lt_size e
   refine WE.call_zipT pt1 pt2 λh1 g0 g1 g2 g3 g4 kp=>?_
   refine wpAny_pyIter_zip g0 ?_
   refine⟨_,[s1.heap.objs.size+4,s1.heap.objs.size+2,s1.heap.objs.size+3,s1.heap.objs.size,s1.heap.objs.size+1],_,_,H1,rfl,I1.kept (t':=s1.toks) kp,zhB _ _ _ _ _ l1 l2 (zipApart_new b1 b2),⟨g0,g1,⟨_,_,g2⟩,g3,g4⟩,λc hc=>?_,q⟩
   have hb2:s1.heap.objs.size<=c:=by
    simp only[List.mem_cons,List.not_mem_nil,or_false]at hc
    rcases hc with z' | z' | z' | z' | z' <;> subst z'
    ·exact Nat.le_add_right _ 4
    ·exact Nat.le_add_right _ 2
    ·exact Nat.le_add_right _ 3
    ·exact Nat.le_refl _
    ·exact Nat.le_add_right _ 1
   exact I1.fpOk hb2 (I1.hok.fresh hb2)
end L2
namespace L2
open PySem PySem.Spec PyProof.Rows IC
inductive ybT (K:PySem.W.Frag)(cl:Nat->Addr)(w:World):List (Str×PV)->List DictEntry->Prop
 | nil:ybT K cl w [] []
 | cons {k:Str} {v:PV} {t:Tok} {u:Value} {x:V} {D:List (Str×PV)} {es:List DictEntry} (hr:RelV x u) (hv:∀B φ H,yd K cl B φ H v x) (h:ybT K cl w D es):ybT K cl w ((k,v)::D) (⟨PyData.keyHash w.params k,.str k t,u⟩ :: es)
def GD (K:PySem.W.Frag)(w:World)(mg:Str->Option Value)(cl:Nat->Addr)(x:Str)(D:List (Str×PV)):Prop :=
 ∃(y:Addr) (es:Array DictEntry) (ep:Nat),mg x=some (.ref y)/\K.lookup y=some ⟨.type "dict",none,.dict es ep,#[]⟩/\(y == sysModules)=false/\ybT K cl w D es.toList/\(D.map (·.1)).Nodup
theorem ybT.pairs {K:PySem.W.Frag}{cl:Nat->Addr}{P:Program}{w:World}{D:List (Str×PV)}{es:List DictEntry}(h:ybT K cl w D es) :
  ∃vs:List (Str×Value),Pairs (strKind P w) es vs/\(∀e∈es,∃k,(strKind P w).is k e.key=true/\e.hash=(strKind P w).hash k)/\vs.map (·.1)=D.map (·.1) /\
   (∀s,(valueAt vs s).isSome=(yaK s D).isSome)/\∀s v,yaK s D=some v->∃u x,valueAt vs s=some u/\RelV x u/\∀B φ H,yd K cl B φ H v x:=by
 induction h with
 |nil=>exact⟨[],.nil,λe he=>(by cases he),rfl,λs=>rfl,λs v e=>by cases e⟩
 | @cons k v t u x D es hr hv h ih =>
  obtain⟨vs,h1,h2,h3,h4,h5⟩:=ih
  have hat:∀s,valueAt ((k,u)::vs) s=if k=s then some u else valueAt vs s:=λs=>by
   unfold valueAt
   rw[List.find?_cons]
   by_cases e:k=s
   ·simp[e]
   ·simp[e]
  refine⟨(k,u)::vs,.cons (strKind_is P w k t) rfl h1,λe he=>?_,by rw[List.map_cons,List.map_cons,h3],λs=>?_,λs v' e=>?_⟩
  ·rcases List.mem_cons.1 he with rfl|he
   ·exact⟨k,strKind_is P w k t,rfl⟩
   ·exact h2 e he
  ·rw[hat,yaK]
   by_cases e:k=s
   ·rw[if_pos e,if_pos (by simpa using e)];rfl
   ·rw[if_neg e,if_neg (by simpa using e),h4]
  ·rw[yaK]at e
   rw[hat]
   by_cases q:k=s
   ·rw[if_pos (by simpa using q)]at e
    cases e
    exact⟨u,x,by rw[if_pos q],hr,hv⟩
   ·rw[if_neg (by simpa using q)]at e
    obtain⟨u',x',e1,e2,e3⟩:=h5 s v' e
    exact⟨u',x',by rw[if_neg q];exact e1,e2,e3⟩
section
variable {S:Se}{X:Cx}{σ:St}{B:Addr->Prop}{φ:Ph}{H:Hp}{st:Store}{pos p:Pos}{a b i:Expr}{ca cb:Ce}{x:Str}{D:List (Str×PV)}{ty:TE}
theorem zhQ {y:Addr}{es:Array DictEntry}{ep:Nat}{pins:List (Addr×Obj)}{s:Shared}(I:Inv X pins σ H s)(hk:X.K.lookup y=some ⟨.type "dict",none,.dict es ep,#[]⟩)(hn:(D.map (·.1)).Nodup){vs:List (Str×Value)}(h1:Pairs (strKind X.prog X.w) es.toList vs)
  (h2:∀e∈es.toList,∃k,(strKind X.prog X.w).is k e.key=true/\e.hash=(strKind X.prog X.w).hash k) (h3:vs.map (·.1)=D.map (·.1)):s.heap.DictOf (strKind X.prog X.w) y vs :=
 ⟨_,es,ep,I.kIn y _ hk,⟨rfl,rfl,rfl⟩,rfl,λe he=>h2 e (by simpa using he),h1,by rw[h3];exact hn⟩
def ydG (S:Se)(X:Cx)(D:List (Str×PV))(ty:TE):TE:=λσ H Q=>ty σ H λz H2=>∃s v,z=.str s/\yaK s D=some v/\∀x',(∀B φ H,yd X.K S.cl B φ H v x')->Q x' H2
theorem zlm (hg:Gl X x)(h:GD X.K X.w X.mg S.cl x D)(hi:PE X i ty)(hs:ydq i)(hd:(x == ("__debug__":Str))=false:=by decide):PE X (.Subscript (.Name x p) i pos) (ydG S X D ty):=by
 obtain⟨y,es,ep,hm,hk,hsy,hr,hn⟩:=h
 obtain⟨vs,h1,h2,h3,h4,h5⟩:=hr.pairs (P:=X.prog)
 intro pins s σ H Q I q0
 refine zkL PySem.F.slot_dict_getitem.lookup hs (thn (zcP (v:=.ref y) hg hm rfl hd pins s σ H (λz H1=>z=.ref y/\ty σ H1 λz H2=>∃s v,z=.str s/\yaK s D=some v/\∀x',(∀B φ H,yd X.K S.cl B φ H v x')->Q x' H2) I ⟨rfl,q0⟩) λu s1 ⟨z,H1,I1,rz,ez,q1⟩=>thn (hi pins s1 σ H1 _ I1 q1) λiv s2 ⟨z2,H2,I2,rz2,sx,v,ez2,e,q2⟩=>?_)
 subst ez
 subst ez2
 obtain rfl:u=Value.ref y:=rz
 obtain⟨t,rfl⟩:=rz2
 have dd:=zhQ I2 hk hn h1 h2 h3
 obtain⟨u',x',e1,e2,e3⟩:=h5 sx v e
 exact⟨dd.typeIs,wpAny_getItem_of (strKind_is X.prog X.w sx t) dd.mapOf e1 ⟨x',H2,I2.tok _,e2,q2 x' e3⟩⟩
theorem znk (hg:Gl X x)(h:GD X.K X.w X.mg S.cl x D)(hb:PE X b (tE S X cb))(hs:ydq b:=by exact λ_ _=>rfl)(hd:(x == ("__debug__":Str))=false:=by decide):PE X (.Subscript (.Name x p) b pos) (tE S X (.dix D cb)) :=
 (zlm hg h hb hs hd).imp λσ H Q ⟨B,φ,st,ρ,rs,re,h⟩=>by
  simp only[ev]at h
  refine tE.bind rs re h λz H1 v st1 φ1 s1 rs1 re1 rv h1=>?_
  obtain⟨w,e,q⟩:=zN h1 rs1
  cases v with
  |str sx =>
   simp only[yd]at rv
   exact⟨sx,w,rv,e,λx' hx=>q x' H1 φ1 .rfl rs1 (hx _ _ _)⟩
  |_=>cases e
def yfA (y:Addr)(D:List (Str×PV)):R2:=λx z H Q=>z=.ref y/\∃s,x=.str s/\Q (.bl (yaK s D).isSome) H
theorem zl6 (hg:Gl X x)(h:GD X.K X.w X.mg S.cl x D)(ha:PE X a (tE S X ca))(hm:behindInMarks .In (.Name x p)=false:=by ac_rfl)(hd:(x == ("__debug__":Str))=false:=by decide):PE X (.Compare a [.In] [.Name x p] pos) (tE S X (.din ca D)):=by
 obtain⟨y,es,ep,hmg,hk,hsy,hr,hn⟩:=h
 obtain⟨vs,h1,h2,h3,h4,h5⟩:=hr.pairs (P:=X.prog)
 have op:OpR X (compareOp .In) (yfA y D):=by
  intro pins s σ H z1 z2 v u Q I r1 r2 ⟨ez,sx,ex,q⟩
  subst ez
  subst ex
  obtain rfl:u=Value.ref y:=r2
  obtain⟨t,rfl⟩:=r1
  have dd:=zhQ I hk hn h1 h2 h3
  refine wpAny_in_of (strKind_is X.prog X.w sx t) hsy dd.mapOf ⟨.bl (yaK sx D).isSome,H,I.tok _,?_,q⟩
  rw[h4];rfl
 refine(zhK op ha (zcP (v:=.ref y) hg hmg rfl hd) hm).imp λσ H Q ⟨B,φ,st,ρ,rs,re,h⟩=>?_
 simp only[ev]at h
 refine tE.bind rs re h λz H1 v st1 φ1 s1 rs1 re1 rv h1=>?_
 obtain⟨w,e,q⟩:=zN h1 rs1
 cases v with
 |str sx =>
  simp only[yd]at rv
  cases e
  exact⟨rfl,sx,rv,q _ H1 φ1 .rfl rs1 (by simp only[yd])⟩
 |_=>cases e
theorem zel:∀(xs ys:List PV) (i:Nat) {x y:PV},xs[i]?=some x->ys[i]?=some y->(ya3 xs ys)[i]?=some (.tup [x,y])
 | [],_,i,_,_,h,_=>by simp at h
 |_::_,[],i,_,_,_,h=>by simp at h
 |x::xs,y::ys,0,_,_,h1,h2=>by simp at h1 h2;simp[ya3,h1,h2]
 |x::xs,y::ys,i+1,_,_,h1,h2=>by
  simp only[List.getElem?_cons_succ]at h1 h2
  simp only[ya3,List.getElem?_cons_succ]
  exact zel xs ys i h1 h2
theorem zeh:∀(xs ys:List PV),xs.length<=ys.length->(ya3 xs ys).length=xs.length
 | [],_,_=>by simp[ya3]
 |_::_,[],h=>by simp at h
 |x::xs,y::ys,h=>by simp only[ya3,List.length_cons,zeh xs ys (by simpa using h)]
theorem zkW {k j:Bool}{vs ws:List PV}{xs ys:List V}{y z:Addr}(rt:ybz X.K B φ H k y xs)(l:yh X.K S.cl B φ H vs xs)(rt2:ybz X.K B φ H j z ys)(l2:yh X.K S.cl B φ H ws ys)(hle:vs.length<=ws.length):Drw S X B φ H (ya3 vs ws) (Itz X.K y z):=by
 have hl:=l.length
 have hl2:=l2.length
 have hp:=zeh vs ws hle
 refine⟨λφ' H' s=>⟨xs,(rt.step s).sq,by omega⟩,λi φ' H' s hi=>⟨xs,ys,xs[i]'(by omega),ys[i]'(by omega),(rt.step s).sq,(rt2.step s).sq,by simp[show i<xs.length by omega],by simp[show i<ys.length by omega]⟩,λi φ' H' st x H2 B' hB s rs hi q=>?_⟩
 obtain⟨T,hT,rfl,q⟩:=q
 obtain⟨v,hv⟩:∃v,vs[i]?=some v:=⟨vs[i]'(by omega),by simp[show i<vs.length by omega]⟩
 obtain⟨w,hw⟩:∃w,ws[i]?=some w:=⟨ws[i]'(by omega),by simp[show i<ws.length by omega]⟩
 obtain⟨x',hx',rv⟩:=l.get i hv
 obtain⟨y',hy',rw'⟩:=l2.get i hw
 have e:=q xs ys x' y' (rt.step s).sq (rt2.step s).sq hx' hy'
 subst e
 refine⟨.tup [v,w],zel vs ws i hv hw,.tup_new hT rs ?_,λb o e=>by rw[zd (zh e hT)];exact e⟩
 simp only[yh]
 exact⟨x',[y'],rfl,(rv.moreB hB).step s,y',[],rfl,(rw'.moreB hB).step s,rfl⟩
theorem zmN {es:List Expr}{kk:Nat}{tp:Pos}(hg:Gl X "zip")(hm:X.mg "zip"=none)(ha:PE X a (tE S X ca))(hb:PE X b (tE S X cb))(hs:starEach [a,b] X.env=[(false,eval a X.env),(false,eval b X.env)]:=by rfl)(hs2:starEach [b] X.env=[(false,eval b X.env)]:=by rfl) :
  PI X (.Tuple es kk tp) (.Call (.Name "zip" p) [a,b] [] pos) (tI S X (.zip ca cb)) :=
 (zlo hg hm (zO ha (zO hb yaO hs2) (by rw[hs,hs2])) hs hs2).imp λσ H R ⟨B,φ,st,ρ,rs,re,h⟩=>by
  simp only[evi]at h
  refine tE.bind rs re h λx H1 v st1 φ1 s1 rs1 re1 rv h1=>tE.bind rs1 re1 h1 λy H2 w st2 φ2 s2 rs2 re2 rw h2=>?_
  obtain⟨zs,e,h2⟩:=zcU h2
  cases v with
  |tp k vs =>
   cases w with
   |tp j ws =>
    simp only[yev]at e
    by_cases hle:vs.length<=ws.length
    ·rw[if_pos hle]at e
     cases e
     simp only[yd]at rv rw
     obtain⟨a1,xs,rfl,rt,l⟩:=rv
     obtain⟨a2,ys,rfl,rt2,l2⟩:=rw
     exact⟨a1,a2,rfl,⟨xs,(rt.step s2).sq⟩,⟨ys,rt2.sq⟩,h2.ok rs2 (zkW (rt.step s2) (l.step s2) rt2 l2 hle)⟩
    ·rw[if_neg hle]at e
     cases e
   |_=>cases e
  |_=>cases e
end
section
variable {K:PySem.W.Frag}{cl:Nat->Addr}{B:Addr->Prop}{φ:Ph}{H:Hp}{st:Store}
end
section
variable {S:Se}{X:Cx}{K:PySem.W.Frag}{cl:Nat->Addr}{σ:St}{B:Addr->Prop}{φ φ1:Ph}{H H1:Hp}{st:Store}{ρ:IC.Env}{pos p p2 px:Pos}{a b c o tg l elt iter:Expr}{ca cb cc ce:Ce}{ci:Cit}{ct:Tg}
end
section
variable {K:PySem.W.Frag}{cl:Nat->Addr}{B:Addr->Prop}{φ:Ph}{H:Hp}{st:Store}
theorem FS.lookup {f:Str}:∀{fs:List (Str×PV)} {ks:List (Str×V)},FS K cl B φ H fs ks->(∀v,fs.lookup f=some v->∃x,ks.lookup f=some x/\yd K cl B φ H v x)/\(fs.lookup f=none->ks.lookup f=none)
 | [],ks,h=>by
  cases (show ks=[]from h)
  exact⟨nofun,λ_=>rfl⟩
 | (k,v)::r,ks,h=>by
  obtain⟨x,s,rfl,rv,l⟩:=h
  obtain⟨q1,q2⟩:=FS.lookup (f:=f) l
  simp only[List.lookup]
  cases e:f == k with
  |true=>exact⟨λw z=>by cases z;exact⟨x,rfl,rv⟩,λz=>by cases z⟩
  |false=>exact⟨q1,q2⟩
theorem FS.put {f:Str}{v:PV}{x:V}(r:yd K cl B φ H v x):∀{fs:List (Str×PV)} {ks:List (Str×V)},FS K cl B φ H fs ks->FS K cl B φ H (ycw f v fs) (yaR f x ks)
 | [],ks,h=>by
  cases (show ks=[]from h)
  exact⟨x,[],rfl,r,rfl⟩
 | (k,w)::q,ks,h=>by
  obtain⟨y,s,rfl,ry,l⟩:=h
  simp only[ycw,yaR]
  by_cases c:k=f
  ·rw[if_pos c,if_pos c];exact⟨x,s,rfl,r,l⟩
  ·rw[if_neg c,if_neg c];exact⟨y,_,rfl,ry,FS.put r l⟩
theorem FS.len:∀{fs:List (Str×PV)} {ks:List (Str×V)},FS K cl B φ H fs ks->fs.length=ks.length
 | [],ks,h=>by cases (show ks=[]from h);rfl
 | (k,w)::q,ks,h=>by
  obtain⟨y,s,rfl,ry,l⟩:=h
  simp[FS.len l]
theorem yp.ins {n c:Nat}{fs:List (Str×PV)}{x:V}(rs:yp K cl B φ H st)(r:yd K cl B φ H (.loc n) x)(h:st[n]?=some (.ins c fs)):∃y ks dx,x=.ref y/\φ[n]?=some (some y)/\H y=some (.ins (cl c) dx ks)/\FS K cl B φ H fs ks:=by
 simp only[yd]at r
 obtain⟨hn,y,rfl,hy⟩:=r
 obtain⟨a,ha⟩:=rs.liv n _ h (by intro z;cases z)
 obtain⟨o,ho,ro⟩:=rs.obj n a ha
 have e:=hy a ha
 subst e
 rw[h]at ho
 cases ho
 obtain⟨ks,⟨dx,q⟩,l⟩:=ro
 exact⟨a,ks,dx,rfl,ha,q,l⟩
end
section
variable {S:Se}{X:Cx}{σ:St}{B:Addr->Prop}{φ φ1:Ph}{H H1:Hp}{st:Store}{ρ:IC.Env}{p pos pos' p2 apos:Pos}{a b d o e:Expr}{ca cb cc:Ce}{es:List Expr}{ces:Ces}{c i k:Nat}{f m x:Str}{fa:Addr}{fd:FuncData}{ps:List Str}
theorem zfT {st:Store}{x v:PV}(h:ydv c st x f=some v):∃n fs,x=.loc n/\st[n]?=some (.ins c fs)/\fs.lookup f=some v:=by
 cases x with
 |loc n =>
  simp only[ydv]at h
  split at h
  ·rename_i dd fs e
   split at h
   ·rename_i q
    subst q
    exact⟨n,fs,rfl,e,h⟩
   ·cases h
  ·cases h
 |_=>cases h
theorem zfP {st st4:Store}{x v:PV}(h:ycF c st x f v=some st4):∃n fs,x=.loc n/\st[n]?=some (.ins c fs)/\fs.length<1000/\st4=st.set n (.ins c (ycw f v fs)):=by
 cases x with
 |loc n =>
  simp only[ycF]at h
  split at h
  ·rename_i dd fs e
   split at h
   ·rename_i q
    obtain⟨q,q2⟩:=q
    subst q
    cases h
    exact⟨n,fs,rfl,e,q2,rfl⟩
   ·cases h
  ·cases h
 |_=>cases h
theorem zjA {st:Store}{x:PV}{t:Bool}(h:ycZ c m st x=some t):∃n fs,x=.loc n/\st[n]?=some (.ins c fs)/\fs.lookup m=none:=by
 cases x with
 |loc n =>
  simp only[ycZ]at h
  split at h
  ·rename_i dd fs e
   split at h
   ·rename_i q
    obtain⟨q,q2⟩:=q
    subst q
    exact⟨n,fs,rfl,e,q2⟩
   ·cases h
  ·cases h
 |_=>cases h
theorem zno (hc:Cls X.K (S.cl c))(hn:yaf X.K (S.cl c) f)(ha:PE X a (tE S X ca))(hb:attributeBase a f X.env (eval a X.env)=eval a X.env:=by rfl):PE X (.Attribute a f pos) (tE S X (.fld c ca f)) :=
 (znP ha hb).imp λσ H Q ⟨B,φ,st,ρ,rs,re,h⟩=>by
  simp only[ev]at h
  refine tE.bind rs re h λx H1 v st1 φ1 s1 rs1 re1 rv h1=>?_
  obtain⟨z,e,q⟩:=zN h1 rs1
  obtain⟨n,fs,rfl,hn',l⟩:=zfT e
  obtain⟨y,ks,dx,rfl,_,hy,lr⟩:=rs1.ins rv hn'
  obtain⟨x,hx,rx⟩:=lr.lookup.1 z l
  exact⟨y,S.cl c,dx,ks,x,rfl,hy,hc,hn,hx,q x H1 φ1 .rfl rs1 rx⟩
theorem zm0 (hc:Cls X.K (S.cl c))(hn:yaf X.K (S.cl c) f)(ha:PE X a (tE S X ca))(hv:PE X b (tE S X cb))(hs:swapsWith b (some (.Attribute a f pos')) pos.line X.env=pure false:=by rfl):PS X (.Assign [.Attribute a f pos'] b pos) (tS S X (.sfl c ca f cb)) :=
 (zl7 ha hv hs).imp λD σ H ⟨B,φ,st,ρ,rs,re,h⟩=>by
  simp only[ex]at h
  refine tE.fl rs re h λv' H1 v st1 φ1 s1 rs1 re1 rv h1=>tE.fl rs1 re1 h1 λx' H2 x st2 φ2 s2 rs2 re2 rx h2=>?_
  cases e:ycF c st2 x f v with
  |none=>rw[e]at h2;exact h2.elim
  |some st4 =>
   rw[e]at h2
   obtain⟨n,fs,rfl,hn',hl,rfl⟩:=zfP e
   obtain⟨y,ks,dx,rfl,hp,hy,lr⟩:=rs2.ins rx hn'
   refine⟨y,S.cl c,dx,ks,rfl,hy,hc,hn,by rw[<- lr.len];exact hl,?_⟩
   have s4:Step φ2 H2 φ2 (L2.upd H2 y (.ins (S.cl c) dx (yaR f v' ks))):=.put (List.mem_of_getElem? hp)
   exact h2 σ _ φ2 s4 (rs2.put (o:=.ins c (ycw f v fs)) hp ⟨_,⟨dx,zj⟩,(FS.put (rv.step s2) lr).step s4⟩) (re2.step s4)
theorem noX:ybp (CX1 X.prog X.w) X (λ_ _ _=>False):=λpins σ H s e s' _ z=>by
 obtain⟨_,_,_,_,_,_,_,_,_,_,_,_,_,_,z⟩:=z
 exact z.elim
theorem zhs {vs:List PV}{xs:List V}{Q:VK}{rs:yp X.K S.cl B φ H st}(l:yh X.K S.cl B φ H vs xs)(h:Run S X σ B φ H (RV S X B) ((ybX (S.call i (.loc st.length::vs) (st++[.ins c []]))).bind λv st2=>newV st.length v st2) Q) :
  ∀x dx,H x=none->H dx=none->dx≠x->spI X.K S.cl S.call i (.ref x::xs) (L2.upd (L2.upd H dx (.own x)) x (.ins (S.cl c) dx [])) (λv H2=>v=.non/\Q (.ref x) H2) (λ_ _ _=>False):=by
 intro x dx hx hdx ne
 have hx':L2.upd H dx (.own x) x=none:=by rw[zd (Ne.symm ne)];exact hx
 have t1:Step φ H φ (L2.upd H dx (.own x)):=.upd hdx
 have rs1:=rs.upd (o:=.own x) hdx
 have t2:Step φ (L2.upd H dx (.own x)) (φ++[some x]) (L2.upd (L2.upd H dx (.own x)) x (.ins (S.cl c) dx [])):=.push hx'
 have rs2:=rs1.push hx' (rs1.nB hx') (o:=.ins c []) ⟨[],⟨dx,zj⟩,rfl⟩
 have ll:yd X.K S.cl B (φ++[some x]) (L2.upd (L2.upd H dx (.own x)) x (.ins (S.cl c) dx [])) (.loc st.length) (.ref x):=.loc_new rs1
 refine⟨B,φ++[some x],st++[.ins c []],.loc st.length::vs,rs2,?_,?_⟩
 ·simp only[yh]
  exact⟨.ref x,xs,rfl,ll,(l.step t1).step t2⟩
 ·cases e:S.call i (.loc st.length::vs) (st++[.ins c []])with
  |ok v st' =>
   rw[e]at h
   simp only[ybX,R.bind]at h
   cases v with
   |non =>
    intro z H' φ' s rs' rz
    simp only[yd]at rz
    exact⟨rz,h (.ref x) H' φ' ((t1.trans t2).trans s) rs' (ll.step s)⟩
   |_=>exact h.elim
  |exc k s=>rw[e]at h;exact h.elim
  |bad=>rw[e]at h;exact h.elim
theorem zmE (M:Mk X.K (S.cl c) fa)(F:yax X.prog X.w X.K X.mg X.base (CX1 X.prog X.w) k fa fd ps (spI X.K S.cl S.call i))(hr:yai (k+1) X.A)(hg:Gl X x)(hm:X.mg x=some (.ref (S.cl c)))(hb:Binds X.K fd ps [])
  (ha:PA X (e::es) (tAs S X ces)) (hdb:(x == ("__debug__":Str))=false:=by decide) (he:starEach (e::es) X.env=(false,eval e X.env)::starEach es X.env:=by rfl) (hpl:(backTo pos (starEach es X.env)).any (·.1)=false:=by rfl) :
  PE X (.Call (.Name x p) (e::es) [] pos) (tE S X (.new c i ces)) :=
 (zlI M F hr hg hm hb .nil noX ha hdb he hpl).imp λσ H Q ⟨B,φ,st,ρ,rs,re,h⟩=>by
  simp only[ev]at h
  refine tAs.bind rs re h λxs H1 vs st1 φ1 s1 rs1 re1 rv h1=>?_
  rw[List.append_nil]
  exact zhs (rs:=rs1) rv h1
noncomputable def ybH (CX:CXT)(X:Cx)(C:Addr)(m:Str)(sp:Sp)(ta:TE)(t:TA):TE:=λσ H Q=>ta σ H λx H1=>∃y dx fs,x=.ref y/\H1 y=some (.ins C dx fs)/\fs.lookup m=none/\t σ H1 λvs H2=>∃E:XK,sp (.ref y::vs) H2 Q E/\∀pins s e s',Inv X pins σ H2 s->CX X.stack H2 s E e s'->X.xe e s'
theorem ziF {CX:CXT}{sp:Sp}{C:Addr}{ta:TE}{t:TA}{pl:Sem Bool}(he:PE X o ta)(c:Cls X.K C)(hm:Meth X.K C m fa)(F:yax X.prog X.w X.K X.mg X.base CX k fa fd ps sp)(hr:yai k X.A)(hb:Binds X.K fd ps [])(ha:PA X (e::es) t)
  (hst:starEach (e::es) X.env=(false,eval e X.env)::starEach es X.env:=by rfl) (hpl:(backTo pos (starEach es X.env)).any (·.1)=false:=by rfl)
  (ht:eval (.Call (.Attribute o m apos) (e::es) [] pos) X.env=(do
   let ov <- eval o X.env
   standAt apos.atName
   let (f,first) <- holding [ov] (getMethod ov m pl)
   callWith pos f first (backTo pos (starEach (e::es) X.env)) (backToKw pos (keywordEach [] X.env))):=by rfl) :
  PE X (.Call (.Attribute o m apos) (e::es) [] pos) (ybH CX X C m sp ta t):=by
 intro pins s σ H Q I h
 refine PySem.W.methodCall_KW (pl:=pl) (thn (he pins s σ H _ I h) λu s1 ⟨x,H1,I1,rx,y,dx,fs,ex,ea,l,q⟩=>?_) ht
 subst ex
 obtain rfl:u=Value.ref y:=rx
 refine zcH I1 ea c hm l ?_
 refine PySem.W.callWith_K (first:=[.ref y]) (h₀:=X.base) I.ok.mod.kin hm.kp (thn (ha pos pins s1 σ H1 _ I1 q) λus s2 ⟨vs,H2,I2,r,E,q2,hx⟩=>⟨I2.kIn,?_⟩) hst hpl
 exact zdb (us:=.ref y::us) (vs:=.ref y::vs) F hr hb .nil I2 (.cons rfl r) (by rw[List.append_nil];exact q2) λe s' z=>hx pins s2 e s' I2 z
theorem zg0 {CX:CXT}{sp:Sp}{C:Addr}{ta:TE}{pl:Sem Bool}(he:PE X o ta)(c:Cls X.K C)(hm:Meth X.K C m fa)(F:yax X.prog X.w X.K X.mg X.base CX k fa fd ps sp)(hr:yai k X.A)(hb:Binds X.K fd ps [])
  (ht:eval (.Call (.Attribute o m apos) [] [] pos) X.env=(do
   let ov <- eval o X.env
   standAt apos.atName
   let (f,first) <- holding [ov] (getMethod ov m pl)
   callWith pos f first (backTo pos (starEach [] X.env)) (backToKw pos (keywordEach [] X.env))):=by rfl) :
  PE X (.Call (.Attribute o m apos) [] [] pos) (ybH CX X C m sp ta ycG):=by
 intro pins s σ H Q I h
 refine PySem.W.methodCall_KW (pl:=pl) (thn (he pins s σ H _ I h) λu s1 ⟨x,H1,I1,rx,y,dx,fs,ex,ea,l,E,q2,hx⟩=>?_) ht
 subst ex
 obtain rfl:u=Value.ref y:=rx
 refine zcH I1 ea c hm l ?_
 exact PySem.W.callWith_K0 (first:=[.ref y]) I1.kIn hm.kp (zdb (us:=[.ref y]) (vs:=[.ref y]) F hr hb .nil I1 (.cons rfl .nil) q2 λe s' z=>hx pins s1 e s' I1 z)
theorem zec {Q:VK}{t:TA}(hq:∀{H1:Hp} {φ1:Ph} {st1:Store} {P:List V->Hp->Prop} {kk:List PV->Store->R PV},yp X.K S.cl B φ1 H1 st1->yG X.K S.cl B φ1 H1 ρ σ->Run S X σ B φ1 H1 (RV S X B) ((evs S.call ρ st1 ces).bind kk) Q ->
   (∀xs H2 vs st2 φ2,Step φ1 H1 φ2 H2->yp X.K S.cl B φ2 H2 st2->yG X.K S.cl B φ2 H2 ρ σ->yh X.K S.cl B φ2 H2 vs xs->Run S X σ B φ2 H2 (RV S X B) (kk vs st2) Q->P xs H2)->t σ H1 P)
  (rs:yp X.K S.cl B φ H st) (re:yG X.K S.cl B φ H ρ σ) (h:Run S X σ B φ H (RV S X B) ((ev S.call ρ st ca).bind λx st1=>onO (ycZ c m st1 x) λ_=>(evs S.call ρ st1 ces).bind λvs st2=>S.call i (x::vs) st2) Q) :
  ybH (CX1 X.prog X.w) X (S.cl c) m (spI X.K S.cl S.call i) (tE S X ca) t σ H Q:=by
 refine tE.bind rs re h λx H1 v st1 φ1 s1 rs1 re1 rv h1=>?_
 cases q:ycZ c m st1 v with
 |none=>rw[q]at h1;exact h1.elim
 |some b =>
  rw[q]at h1
  simp only[onO]at h1
  obtain⟨n,fs,rfl,hn,hl⟩:=zjA q
  obtain⟨y,ks,dx,rfl,_,hy,lr⟩:=rs1.ins rv hn
  refine⟨y,dx,ks,rfl,hy,lr.lookup.2 hl,hq rs1 re1 h1 λxs H2 vs st2 φ2 s2 rs2 re2 rl h2=>?_⟩
  exact zaB rs2 (by simp only[yh];exact⟨.ref y,xs,rfl,rv.step s2,rl⟩) h2
theorem zm2 {pl:Sem Bool}(hc:Cls X.K (S.cl c))(hm:Meth X.K (S.cl c) m fa)(F:yax X.prog X.w X.K X.mg X.base (CX1 X.prog X.w) k fa fd ps (spI X.K S.cl S.call i))(hr:yai k X.A)(hb:Binds X.K fd ps [])
  (ho:PE X o (tE S X ca)) (ha:PA X (e::es) (tAs S X ces))
  (hst:starEach (e::es) X.env=(false,eval e X.env)::starEach es X.env:=by rfl) (hpl:(backTo pos (starEach es X.env)).any (·.1)=false:=by rfl)
  (ht:eval (.Call (.Attribute o m apos) (e::es) [] pos) X.env=(do
   let ov <- eval o X.env
   standAt apos.atName
   let (f,first) <- holding [ov] (getMethod ov m pl)
   callWith pos f first (backTo pos (starEach (e::es) X.env)) (backToKw pos (keywordEach [] X.env))):=by rfl) :
  PE X (.Call (.Attribute o m apos) (e::es) [] pos) (tE S X (.mcl c i m ca ces)) :=
 (ziF ho hc hm F hr hb ha hst hpl ht).imp λσ H Q ⟨B,φ,st,ρ,rs,re,h⟩=>by
  simp only[ev]at h
  exact zec (λrs1 re1 h1 n=>tAs.bind rs1 re1 h1 n) rs re h
theorem zlt {pl:Sem Bool}(hc:Cls X.K (S.cl c))(hm:Meth X.K (S.cl c) m fa)(F:yax X.prog X.w X.K X.mg X.base (CX1 X.prog X.w) k fa fd ps (spI X.K S.cl S.call i))(hr:yai k X.A)(hb:Binds X.K fd ps [])
  (ho:PE X o (tE S X ca))
  (ht:eval (.Call (.Attribute o m apos) [] [] pos) X.env=(do
   let ov <- eval o X.env
   standAt apos.atName
   let (f,first) <- holding [ov] (getMethod ov m pl)
   callWith pos f first (backTo pos (starEach [] X.env)) (backToKw pos (keywordEach [] X.env))):=by rfl) :
  PE X (.Call (.Attribute o m apos) [] [] pos) (tE S X (.mcl c i m ca .nil)) :=
 (zg0 ho hc hm F hr hb ht).imp λσ H Q ⟨B,φ,st,ρ,rs,re,h⟩=>by
  simp only[ev]at h
  refine zec (t:=ycG) (λ{H1 φ1 st1 P kk} rs1 re1 h1 n=>?_) rs re h
  simp only[evs,R.bind]at h1
  exact n [] H1 [] st1 φ1 .rfl rs1 re1 (by simp only[yh]) h1
end
inductive yb4 (w:World)(fa:Nat->Addr):List (Str×Nat)->List DictEntry->Prop
 | nil:yb4 w fa [] []
 | cons {k:Str} {i:Nat} {t:Tok} {D:List (Str×Nat)} {es:List DictEntry} (h:yb4 w fa D es):yb4 w fa ((k,i)::D) (⟨PyData.keyHash w.params k,.str k t,.ref (fa i)⟩ :: es)
def GDF (K:PySem.W.Frag)(w:World)(mg:Str->Option Value)(fa:Nat->Addr)(x:Str)(D:List (Str×Nat)):Prop :=
 ∃(y:Addr) (es:Array DictEntry) (ep:Nat),mg x=some (.ref y)/\K.lookup y=some ⟨.type "dict",none,.dict es ep,#[]⟩/\yb4 w fa D es.toList/\(D.map (·.1)).Nodup
theorem yb4.pairs {P:Program}{w:World}{fa:Nat->Addr}{D:List (Str×Nat)}{es:List DictEntry}(h:yb4 w fa D es) :
  ∃vs:List (Str×Value),Pairs (strKind P w) es vs/\(∀e∈es,∃k,(strKind P w).is k e.key=true/\e.hash=(strKind P w).hash k)/\vs.map (·.1)=D.map (·.1) /\
   ∀s i,D.lookup s=some i->valueAt vs s=some (.ref (fa i)):=by
 induction h with
 |nil=>exact⟨[],.nil,λe he=>(by cases he),rfl,λs v e=>by cases e⟩
 | @cons k i t D es h ih =>
  obtain⟨vs,h1,h2,h3,h5⟩:=ih
  have hat:∀s,valueAt ((k,Value.ref (fa i))::vs) s=if k=s then some (.ref (fa i))else valueAt vs s:=λs=>by
   unfold valueAt
   rw[List.find?_cons]
   by_cases e:k=s
   ·simp[e]
   ·simp[e]
  refine⟨(k,.ref (fa i))::vs,.cons (strKind_is P w k t) rfl h1,λe he=>?_,by rw[List.map_cons,List.map_cons,h3],λs j e=>?_⟩
  ·rcases List.mem_cons.1 he with rfl|he
   ·exact⟨k,strKind_is P w k t,rfl⟩
   ·exact h2 e he
  ·rw[hat]
   simp only[List.lookup]at e
   by_cases q:k=s
   ·subst q
    rw[beq_self_eq_true]at e
    cases e
    rw[if_pos rfl]
   ·rw[beq_eq_false_iff_ne.2 (Ne.symm q)]at e
    rw[if_neg q]
    exact h5 s j e
section
variable {S:Se}{X:Cx}{σ:St}{B:Addr->Prop}{φ:Ph}{H:Hp}{st:Store}{ρ:IC.Env}{pos p p1 p2 p3 p4 p5 p6 p7:Pos}{a b i e n:Expr}{es:List Expr}{ca cn:Ce}{ces:Ces}{x y:Str}{D:List (Str×Nat)}{ty:TE}{t:TA}{fa:Nat->Addr}{fdd:Nat->FuncData}{ps:Nat->List Str}{k ix:Nat}
structure Makers (S:Se)(X:Cx)(k:Nat)(D:List (Str×Nat))(fa:Nat->Addr)(fdd:Nat->FuncData)(ps:Nat->List Str):Prop where
 F:∀s j,D.lookup s=some j->yax X.prog X.w X.K X.mg X.base (CX1 X.prog X.w) k (fa j) (fdd j) (ps j) (spI X.K S.cl S.call j)
 kp:∀s j,D.lookup s=some j->PySem.W.keepIn X.K (.ref (fa j))=true
 b:∀s j,D.lookup s=some j->Binds X.K (fdd j) (ps j) []
end
section
variable {P:Program}{w:World}{K:PySem.W.Frag}{mg:Str->Option Value}{base:Heap}{cl:Nat->Addr}{T:Nat->Option IC.Fn}{fi:Nat}{fn:IC.Fn}{x qual:Str}{stm:Stmt}{f:Addr}{fd:FuncData}{N ps:List Str}{k m:Nat}
theorem ziS:yax P w K mg base (CX1 P w) m f fd ps (spI K cl (yc T 0) fi) :=
 ⟨λvs H Q E ⟨_,_,_,_,_,_,h⟩=>by rw[yc]at h;exact h.elim,λA outer s H args us vs Q E _ _ _ _ ⟨_,_,_,_,_,_,h⟩=>by rw[yc]at h;exact h.elim⟩
end
theorem yc3.units {k:Nat}{A:Around}(r:yc3 k A):A.units+64<cLine:=by have:=r.un;omega
section
variable {P:Program}{w:World}{K:PySem.W.Frag}{mg:Str->Option Value}{base:Heap}{cl:Nat->Addr}{T:Nat->Option IC.Fn}{fi:Nat}{fn:IC.Fn}{x qual:Str}{stm:Stmt}{f:Addr}{fd:FuncData}{N ps:List Str}{k m:Nat}
end
section
variable {S:Se}{X:Cx}{σ:St}{B:Addr->Prop}{φ:Ph}{H:Hp}{st:Store}{ρ:IC.Env}{p pos:Pos}{e:Expr}{es:List Expr}{ces:Ces}{fi k:Nat}{x:Str}{f:Addr}{fd:FuncData}{ps:List Str}
end
end L2
namespace L2
open PySem IC
section
variable {S:Se}{X:Cx}{σ:St}{B:Addr->Prop}{φ φ1:Ph}{H H1:Hp}{st:Store}{ρ:IC.Env}{p pos p2 px py pt pt2:Pos}{a b c d o a' b' c' d':Expr}{ca cb cc cd ce cf:Ce}{pins:List (Addr×Obj)}{s:Shared}{kt k2:Nat}{es:List Expr}{ces:Ces}{x:Str}
end
end L2
namespace L2
open PySem PySem.Spec PyProof.Rows
section
variable {X:Cx}
end
end L2
namespace L2
open PySem PySem.Spec PyProof.Rows IC
section
variable {S:Se}{X:Cx}{σ:St}{B:Addr->Prop}{φ φ1:Ph}{H H1:Hp}{st:Store}{ρ:IC.Env}{p pos p2 apos:Pos}{a b c d:Expr}{ca cb cc:Ce}{es:List Expr}{ces:Ces}{K:PySem.W.Frag}{cl:Nat->Addr}
end
section
variable {S:Se}{X:Cx}{a b:Expr}{c i:Nat}{j:Int}{f:Str}{pos tpos:Pos}
theorem zmD (hc:Cls X.K (S.cl c))(hn:yaf X.K (S.cl c) f)(ha:PE X a (tE S X (.var i)))(hv:PE X b (tE S X (.cst (.int j)))) :
  PS X (.AugAssign (.Attribute a f tpos) .Add b pos) (tS S X (.sfl c (.var i) f (.bin .add (.fld c (.var i) f) (.cst (.int j))))) :=
 (zhp ha hv znH).imp λD σ H ⟨B,φ,st,ρ,rs,re,h⟩=>by
  simp only[ex,ev]at h
  cases q:ρ[i]? with
  |none=>rw[q]at h;exact h.elim
  |some o =>
   cases o with
   |none=>rw[q]at h;exact h.elim
   |some x =>
    rw[q]at h
    dsimp only[R.bind]at h
    refine⟨B,φ,st,ρ,rs,re,?_⟩
    simp only[ev,q]
    intro x' H1 φ1 s1 rs1 rx
    have re1:=re.step s1
    have h:=yay.on s1 h
    cases e:ydv c st x f with
    |none=>rw[e]at h;exact h.elim
    |some v =>
     rw[e]at h
     obtain⟨n,fs,rfl,hn',l⟩:=zfT e
     obtain⟨y,ks,dx,rfl,hp,hy,lr⟩:=rs1.ins rx hn'
     obtain⟨x,hx,rxv⟩:=lr.lookup.1 v l
     refine⟨y,S.cl c,dx,ks,x,rfl,hy,hc,hn,hx,⟨B,φ1,st,ρ,rs1,re1,?_⟩⟩
     simp only[ev]
     intro y' H2 φ2 s2 rs2 ry
     simp only[yd]at ry
     subst ry
     cases v with
     |int k =>
      simp only[yd]at rxv
      subst rxv
      refine⟨k,j,rfl,rfl,?_⟩
      have h:yay S X B φ1 H1 (match ycF c st (.loc n) f (.int (k+j))with|some st3=>Fl.nx ρ st3|none=>Fl.bad) D:=h
      have h:=yay.on s2 h
      have rx2:=rx.step s2
      obtain⟨y2,ks2,dx2,e2,hp2,hy2,lr2⟩:=rs2.ins rx2 hn'
      cases e2
      cases e3:ycF c st (.loc n) f (.int (k+j))with
      |none=>rw[e3]at h;exact h.elim
      |some st4 =>
       rw[e3]at h
       obtain⟨n',fs',z,hn2,hl,rfl⟩:=zfP e3
       cases z
       rw[hn']at hn2
       cases hn2
       refine⟨dx2,ks2,hy2,by rw[<- lr2.len];exact hl,?_⟩
       have s4:Step φ2 H2 φ2 (L2.upd H2 y (.ins (S.cl c) dx2 (yaR f (.int (k+j)) ks2))):=.put (List.mem_of_getElem? hp2)
       exact h σ _ φ2 s4 (rs2.put (o:=.ins c (ycw f (.int (k+j)) fs)) hp2 ⟨_,⟨dx2,zj⟩,(FS.put (by simp only[yd]) lr2).step s4⟩) ((re1.step s2).step s4)
     |_=>exact h.elim
end
end L2
namespace HT
open PySem PySem.Spec PyProof.Rows
section
variable {prog:Program}{w:World}{A:Around}{E:Value->Shared->Prop}{s:Shared}
theorem zgt (n:Nat):Builtin.Slice.slicePlaces ((n:Int) - 1) (-1) (-1)=n:=by
 unfold Builtin.Slice.slicePlaces
 rw[if_neg (by decide)]
 by_cases h:(n:Int) - 1 > -1
 ·rw[if_pos h]
  have:-(-1:Int)=1:=rfl
  rw[this,Int.ediv_one];omega
 ·rw[if_neg h];omega
theorem zbv {sl:Addr}{n:Nat}{t:Tok}{Q:Int×Int×Nat->Shared->Prop}(hs:s.heap.IsSliceOf sl .none .none (.int (-1) t))
  (h:Q ((n:Int) - 1,-1,n) s):wpAny (model prog w) A (Builtin.Slice.sliceApplied (.ref sl) (pure (n:Int))) Q E s:=by
 obtain⟨os,hos,hcs,hds⟩:=id hs
 unfold Builtin.Slice.sliceApplied Builtin.Slice.sliceFields
 refine wpAny_bind (wpAny_bind (wpAny_field hos hds (x:=.none) rfl (wpAny_bind (wpAny_field hos hds (x:=.none) rfl (wpAny_bind (wpAny_field hos hds (x:=.int (-1) t) rfl (wpAny_pure ?_)))))))
 refine wpAny_bind (slicePart_int ?_)
 show wpAny _ _ (if ((-1:Int) == 0)=true then _ else _) _ _ s
 rw[if_neg (by decide)]
 refine wpAny_bind (slicePart_none (wpAny_bind (slicePart_none (wpAny_bind (wpAny_pure ?_)))))
 show wpAny _ _ (pure ((n:Int) - 1,(-1:Int),Builtin.Slice.slicePlaces ((n:Int) - 1) (-1) (-1))) _ _ s
 rw[zgt]
 exact wpAny_pure h
theorem zfg {α β:Type}{f g:α->Option β}:∀l:List α,(∀x∈l,f x=g x)->l.filterMap f=l.filterMap g
 | [],_=>rfl
 |a::l,h=>by
  rw[List.filterMap_cons,List.filterMap_cons,h a List.mem_cons_self,zfg l λx hx=>h x (List.mem_cons_of_mem _ hx)]
theorem zjj (l:List Value):((List.range l.toArray.size).filterMap λ(m:Nat)=>l.toArray[((l.toArray.size:Int) - 1+(m:Int)*(-1)).toNat]?)=l.reverse:=by
 refine List.ext_getElem? λi=>?_
 have e:∀m:Nat,m<l.length->l.toArray[((l.toArray.size:Int) - 1+(m:Int)*(-1)).toNat]?=some (l.reverse.getD m .none):=λm hm=>by
  rw[List.size_toArray,show ((l.length:Int) - 1+(m:Int)*(-1)).toNat=l.length - 1 - m by omega]
  rw[List.getElem?_toArray,List.getD_eq_getElem?_getD,List.getElem?_reverse hm,List.getElem?_eq_getElem (by omega)]
  rfl
 have e2:((List.range l.toArray.size).filterMap λ(m:Nat)=>l.toArray[((l.toArray.size:Int) - 1+(m:Int)*(-1)).toNat]?)=(List.range l.length).map λm=>l.reverse.getD m .none:=by
  rw[<- List.filterMap_eq_map,List.size_toArray]
  refine zfg _ λm hm=>?_
  have:=e m (List.mem_range.1 hm)
  rw[List.size_toArray]at this
  exact this
 rw[e2,List.getElem?_map]
 by_cases hi:i<l.length
 ·rw[List.getElem?_range hi]
  show some (l.reverse.getD i .none)=_
  rw[List.getD_eq_getElem?_getD,List.getElem?_eq_getElem (by simpa using hi)]
  rfl
 ·rw[List.getElem?_eq_none (by simpa using hi),List.getElem?_eq_none (by simpa using hi)]
  rfl
theorem getItem_tuple_rev {t sl:Addr}{l:List Value}{tk:Tok}{Q:Value->Shared->Prop}(ht:IsTup s.heap t l.toArray)(hs:s.heap.IsSliceOf sl .none .none (.int (-1) tk))
  (h:Q (.ref s.heap.objs.size) { s with heap:=s.heap.push { cls:=.type "tuple",data:=.seq l.reverse.toArray } })
  (hsz:l.length<=sizeLine):wpAny (model prog w) A (getItem (.ref t) (.ref sl)) Q E s:=by
 have htake:sizeOk (.seq l.reverse.toArray):=by
  show l.reverse.toArray.size<=sizeLine
  rw[List.size_toArray,List.length_reverse];exact hsz
 obtain⟨os,hos,hcs,hds⟩:=id hs
 have hTs:s.TypeIs (.ref sl) "slice":=⟨os,hos,hcs⟩
 unfold getItem
 try with_reducible refine wpAny_holding ?_
 first|refine wpAny_bind (wpAny_pure ?_)|skip
 refine wpAny_bind (wpAny_sequenceKey ht.typeIs (by decide) ?_)
 refine wpAny_bind (wpAny_callSpecial?_slot (name:=Str.ofString "__getitem__") ht.typeIs PyProof.Rows.slot_tuple_getitem
  (wpAny_call_entry PyProof.Rows.slot_tuple_getitem ht.typeIs entry_tuple_getitem ?_ (args_tuple_getitem _ _)))
 show wpAny _ _ (Builtin.Tuple.tupleItemsOf (.ref t) >>= _) _ _ s
 refine wpAny_bind (tupleItemsOf_ ht ?_)
 refine wpAny_bind (wpAny_typeOf hTs ?_)
 rw[if_pos (by decide)]
 refine wpAny_bind (zbv hs ?_)
 have hno:¬((((l.toArray.size:Int) - 1) == 0 && (-1:Int) == 1 && l.toArray.size == l.toArray.size)=true):=by
  intro q
  rw[Bool.and_eq_true,Bool.and_eq_true]at q
  exact absurd q.1.2 (by decide)
 show wpAny _ _ (if (((l.toArray.size:Int) - 1) == 0 && (-1:Int) == 1 && l.toArray.size == l.toArray.size)=true then _ else _) _ _ s
 rw[if_neg hno,zjj]
 first
  | exact wpAny_bind (m:=Builtin.Tuple.tupleExact _) (wpAny_newObj_type (wpAny_pure ⟨_,rfl,wpAny_pure h⟩) htake)
  | exact wpAny_bind (m:=Builtin.Tuple.tupleExact _) (wpAny_newObj_type (wpAny_bind (wpAny_pure (wpAny_pure ⟨_,rfl,wpAny_pure h⟩))) htake)
  | exact wpAny_bind (wpAny_bind (m:=Builtin.Tuple.tupleExact _) (wpAny_newObj_type (wpAny_pure (wpAny_pure ⟨_,rfl,wpAny_pure h⟩)) htake))
  | exact wpAny_bind (wpAny_bind (m:=Builtin.Tuple.tupleExact _) (wpAny_newObj_type (wpAny_pure ⟨_,rfl,wpAny_pure h⟩) htake))
end
end HT
namespace L2
open PySem PySem.Spec PyProof.Rows IC
section
variable {S:Se}{X:Cx}{pos p2:Pos}{e e3:Expr}{te t3:TE}{a:Expr}{ca c3:Ce}
theorem zmg (he:PE X e te)(h3:PE X e3 t3):PE X (.Subscript e (.Slice none none (some e3) p2) pos) (λσ H Q=>te σ H λx H1=>t3 σ H1 λk H2=>k=.int (-1)/\∃a xs,x=.ref a/\((SqT X.K H2 a xs/\∀p,H2 p=none->Q (.ref p) (upd H2 p (.tup xs.reverse))) \/ (SqL X.K H2 a xs/\∀p,H2 p=none->Q (.ref p) (upd H2 p (.lst xs.reverse))))):=by
 intro pins s σ H Q I h
 refine Subscript_ (thn (he pins s σ H _ I h) λv s1 ⟨x,H1,I1,r1,q1⟩=>?_)
 refine wpAny_Slice ?_
 rw[evalPart_none]
 refine wpAny_pure (wpAny_pure ?_)
 show wpAny _ _ (eval e3 X.env) _ _ s1
 refine thn (h3 pins s1 σ H1 _ I1 q1) λvk s3 ⟨k,H3,I3,rk,ek,a,xs,ex,q⟩=>?_
 subst ek ex
 obtain⟨tk,rfl⟩:=rk
 cases r1
 have I4:Inv X pins σ H3 { s3 with heap:=s3.heap.push { cls:=.type "slice",data:=.fields #[.none,.none,.int (-1) tk] } }:=I3.kept (t':=s3.toks) λb ob q=>Heap.get?_push_of_some _ q
 rcases q with⟨hx,q⟩|⟨hx,q⟩
 ·obtain⟨its,r,ht,hz⟩:=I4.tuple hx
  have hg:wpAny (model X.prog X.w) X.A (getItem (.ref a) (.ref s3.heap.objs.size)) (EP X pins σ Q) X.xe { s3 with heap:=s3.heap.push { cls:=.type "slice",data:=.fields #[.none,.none,.int (-1) tk] } }:=by
   refine HT.getItem_tuple_rev ht (Heap.IsSliceOf.new ..) ?_ (by rw[<- r.length];exact hz)
   refine⟨.ref _,_,I4.laid (t':=s3.toks) (o:=.tup xs.reverse) (λb ob q=>Heap.get?_push_of_some _ q) (Nat.le_refl _) ?_,rfl,q _ (I4.hok.fresh (Nat.le_refl _))⟩
   exact⟨by rw[List.length_reverse];exact hz,_,r.reverse,IsTup.new _ _⟩
  show wpAny (model X.prog X.w) X.A (subscriptTail e (.Slice none none (some e3) p2) (.ref a) (.ref s3.heap.objs.size)) (EP X pins σ Q) X.xe { s3 with heap:=s3.heap.push { cls:=.type "slice",data:=.fields #[.none,.none,.int (-1) tk] } }
  exact tail_any (ops:=[.ref a,.ref s3.heap.objs.size]) ht.typeIs PyProof.Rows.slot_tuple_getitem.lookup hg (by ac_rfl)
 ·obtain⟨its,r,ht,hz⟩:=I4.list hx
  have hlen:=r.length
  have hg:wpAny (model X.prog X.w) X.A (getItem (.ref a) (.ref s3.heap.objs.size)) (EP X pins σ Q) X.xe { s3 with heap:=s3.heap.push { cls:=.type "slice",data:=.fields #[.none,.none,.int (-1) tk] } }:=by
   refine wpAny_getItem_list_slice ht.isList (Heap.IsSliceOf.new ..) .none .none (.int (-1) tk) (by decide) ?_ (by rw[List.size_toArray] <;> omega)
   rw[PySem.W.krv_pick]
   refine⟨.ref _,_,I4.laid (t':=s3.toks) (o:=.lst xs.reverse) (λb ob q=>Heap.get?_push_of_some _ q) (Nat.le_refl _) ?_,rfl,q _ (I4.hok.fresh (Nat.le_refl _))⟩
   exact⟨by rw[List.length_reverse];exact hz,its.reverse,0,r.reverse,Heap.get?_push_size _ rfl⟩
  show wpAny (model X.prog X.w) X.A (subscriptTail e (.Slice none none (some e3) p2) (.ref a) (.ref s3.heap.objs.size)) (EP X pins σ Q) X.xe { s3 with heap:=s3.heap.push { cls:=.type "slice",data:=.fields #[.none,.none,.int (-1) tk] } }
  exact tail_any (ops:=[.ref a,.ref s3.heap.objs.size]) ht.isList.typeIs slot_list_getitem.lookup hg (by ac_rfl)
theorem yh.reverse {K:PySem.W.Frag}{cl:Nat->Addr}{B:Addr->Prop}{φ:Ph}{H:Hp}:∀{vs:List PV} {xs:List V},yh K cl B φ H vs xs->yh K cl B φ H vs.reverse xs.reverse
 | [],xs,h=>by
  simp only[yh]at h
  subst h
  simp only[List.reverse_nil,yh]
 |v::vs,xs,h=>by
  simp only[yh]at h
  obtain⟨y,ys,rfl,r,l⟩:=h
  rw[List.reverse_cons,List.reverse_cons]
  exact(yh.reverse l).append (by simp only[yh];exact⟨y,[],rfl,r,rfl⟩)
theorem zhC {α β γ:Type}(r:R α)(f:α->Store->R β)(g:β->Store->R γ):(r.bind f).bind g=r.bind λv s=>(f v s).bind g:=by cases r <;> rfl
theorem zmW (ha:PE X a (tE S X ca))(h3:PE X e3 (tE S X (.neg (.cst (.int 1))))):PE X (.Subscript a (.Slice none none (some e3) p2) pos) (tE S X (.blt .rev (.cons ca .nil))) :=
 (zmg ha h3).imp λσ H Q ⟨B,φ,st,ρ,rs,re,h⟩=>by
  simp only[ev,evs,zhC]at h
  refine tE.bind rs re h λx H1 v st1 φ1 s1 rs1 re1 rv h1=>?_
  refine⟨B,φ1,st1,ρ,rs1,re1,?_⟩
  obtain⟨z,ez,q⟩:=zN h1 rs1
  simp only[ev,R.bind]
  intro y H2 φ2 s2 rs2 ry
  simp only[yd]at ry
  refine⟨ry,?_⟩
  unfold yan at ez
  cases v with
  |tp k vs =>
   simp only[yd4]at ez
   split at ez
   ·cases ez
   ·cases ez
    have rv2:=rv.step s2
    simp only[yd]at rv2
    obtain⟨p,xs,rfl,r1,l1⟩:=rv2
    exact⟨p,xs,rfl,.inl ⟨r1.sq,λt ht=>q _ _ φ2 (s2.trans (.upd ht)) (rs2.upd ht) (.tup_new ht rs2 l1.reverse)⟩⟩
  |lst vs =>
   simp only[yd4]at ez
   cases ez
   have rv2:=rv.step s2
   simp only[yd]at rv2
   obtain⟨p,xs,rfl,r1,l1⟩:=rv2
   exact⟨p,xs,rfl,.inr ⟨r1.sq,λt ht=>q _ _ φ2 (s2.trans (.upd ht)) (rs2.upd ht) (.lst_new ht rs2 l1.reverse)⟩⟩
  |_=>cases ez
end
section
variable {X:Cx}{prog:Program}{w:World}{A:Around}{E:Value->Shared->Prop}{s:Shared}
end
section
variable {S:Se}{X:Cx}{pos px:Pos}{a:Expr}{ca:Ce}
end
end L2
namespace L2
open PySem PySem.Spec PyProof.Rows IC WK
inductive GK where
 | fn (i:Nat)|fnD (i:Nat)|cst (v:PV)|dct (D:List (Str×PV))|exc (c:Nat)|cls (c i:Nat)
structure Gs where
 g:Str->Option GK
 b:Str->Bool
 t:Ty->Bool
 fl:Nat->Str->Bool
 me:Nat->Str->Option Nat
 kb:Nat->Nat->List Str->Option (List (Option Int))
 mr:Str->Option (List (Str×Nat))
structure Kx where
 N:List Str
 sc:Scope
 own:Bool
def Fo (m:Nat)(S:Se)(X:Cx)(i:Nat)(f:Addr)(fd:FuncData)(ps:List Str):Prop:=yax X.prog X.w X.K X.mg X.base (CX1 X.prog X.w) m f fd ps (spI X.K S.cl S.call i)
structure Glo (γ:Gs)(m:Nat)(S:Se)(X:Cx):Prop where
 F:∀x i,γ.g x=some (.fn i)->∃f fd ps,Fo m S X i f fd ps/\X.mg x=some (.ref f)/\PySem.W.keepIn X.K (.ref f)=true/\Binds X.K fd ps []
 Q:∀x i np ks sh,γ.g x=some (.fnD i)->γ.kb i np ks=some sh->∃f fd ps,Fo m S X i f fd ps/\X.mg x=some (.ref f)/\PySem.W.keepIn X.K (.ref f)=true/\∃g,ybo X.K fd ps ks g (gK np sh)
 C:∀x v,γ.g x=some (.cst v)->GC X.K X.mg S.cl x v \/ ∃i,v=.int i/\GCI X.mg x i
 D:∀x d,γ.g x=some (.dct d)->GD X.K X.w X.mg S.cl x d
 E:∀x c,γ.g x=some (.exc c)->ycW X.K X.mg (S.cl c) x
 N:∀x c i,γ.g x=some (.cls c i)->X.mg x=some (.ref (S.cl c))/\∃f fd ps,Mk X.K (S.cl c) f/\Fo m S X i f fd ps/\Binds X.K fd ps []
 B:∀x,γ.b x=true->X.mg x=none
 T:∀t,γ.t t=true->ydX X.K t
 A:∀c f,γ.fl c f=true->Cls X.K (S.cl c)/\yaf X.K (S.cl c) f
 M:∀c n i,γ.me c n=some i->Cls X.K (S.cl c)/\∃f fd ps,Meth X.K (S.cl c) n f/\Fo m S X i f fd ps/\Binds X.K fd ps []
 K:∀y D,γ.mr y=some D->∃fa fdd ps,Makers S X m D fa fdd ps/\GDF X.K X.w X.mg fa y D
structure Good (γ:Gs)(κ:Kx)(m:Nat)(S:Se)(X:Cx):Prop where
 n:X.N=κ.N
 sc:X.env.scope=κ.sc
 calm:X.calm=true
 room:yai (m+1) X.A
 own:κ.own=true->PassesOwn (model X.prog X.w) X.A X.env X.xe/\(∀x,X.fn x=true)/\S.may=true
 glo:Glo γ m S X
noncomputable abbrev Pr (P:Prop):Type:=Option (PLift P)
abbrev YE (γ:Gs)(κ:Kx)(e:Expr)(c:Ce):Prop:=∀m S X,Good γ κ m S X->PE X e (tE S X c)
abbrev YT (γ:Gs)(κ:Kx)(e:Expr)(c:Ce):Prop:=∀m S X,Good γ κ m S X->PT X e (tTs S X c)
abbrev YW (γ:Gs)(κ:Kx)(e:Expr)(c:Ce):Prop:=∀m S X,Good γ κ m S X->PW X e (tTs S X c)
abbrev YA (γ:Gs)(κ:Kx)(e:List Expr)(c:Ces):Prop:=∀m S X,Good γ κ m S X->PA X e (tAs S X c)
abbrev YO (γ:Gs)(κ:Kx)(e:Option Expr)(c:Ce):Prop:=∀m S X,Good γ κ m S X->PO X e (tO S X c)
abbrev YS (γ:Gs)(κ:Kx)(s:Stmt)(c:Cs):Prop:=∀m S X,Good γ κ m S X->PS X s (tS S X c)
abbrev YSs (γ:Gs)(κ:Kx)(s:List Stmt)(c:Css):Prop:=∀m S X,Good γ κ m S X->PSs X s (tSs S X c)
noncomputable def an {P Q:Prop}(a:Pr P)(k:P->Pr Q):Pr Q:=match a with
 |some h=>k h.down
 |none=>none
noncomputable def ok {P:Prop}(h:P):Pr P:=some ⟨h⟩
noncomputable def ask (p:Prop)[Decidable p]:Pr p:=if h:p then some ⟨h⟩else none
noncomputable def nst:Expr->Bool
 | .Starred _ _=>false
 |_=>true
theorem yL {a:Expr}{es:List Expr}{env:PySem.Env}(h:nst a=true):starEach (a::es) env=(false,eval a env)::starEach es env:=by
 cases a <;> first|rfl|cases h
def ybL (es:List Expr):Bool:=es.all nst
theorem stars {pos:Pos}{env:PySem.Env}:∀{es:List Expr},ybL es=true->(backTo pos (starEach es env)).any (·.1)=false
 | [],_=>rfl
 |a::es,h=>by
  simp only[ybL,List.all_cons,Bool.and_eq_true]at h
  rw[yL h.1]
  have:=stars (pos:=pos) (env:=env) (es:=es) h.2
  simpa [backTo] using this
noncomputable def nco:Expr->Bool
 | .ListComp ..=>false
 | .SetComp ..=>false
 | .DictComp ..=>false
 |_=>true
theorem swp {a:Expr}{t:Option Expr}{l:Nat}{env:PySem.Env}(h:nco a=true):swapsWith a t l env=pure false:=by
 cases a <;> first|rfl|cases h
noncomputable def nse:Expr->Bool
 | .Set ..=>false
 |_=>true
theorem fse {a:Expr}{env:PySem.Env}(h:nse a=true):∀x,foldedSetIterable a env x=pure x:=by
 cases a <;> first|exact λ_=>rfl|cases h
theorem nmk {op:CmpOp}{a:Expr}(h:nse a=true):behindInMarks op a=false:=by
 cases a <;> first|rfl|cases h
noncomputable def nsl:Expr->Bool
 | .Slice ..=>false
 |_=>true
theorem pix {a:Expr}(h:nsl a=true):ybf a:=by
 cases a <;> first|exact λ_ _=>rfl|cases h
theorem nos {a:Expr}(h:nsl a=true):ydq a:=pix h
noncomputable def ntu:Expr->Bool
 | .Tuple ..=>false
 |_=>true
noncomputable def nte:Expr->Bool
 | .UnaryOp ..=>false
 | .BoolOp ..=>false
 | .IfExp ..=>false
 | .Compare ..=>false
 |_=>true
theorem itr {a:Expr}{env:PySem.Env}(h:nte a=true):∀whole,isTrue a env whole=(do let v <- whole;standAt a.pos;holding [v] (truthy v)):=by
 cases a <;> first|exact λ_=>rfl|cases h
noncomputable def nca:Expr->Bool
 | .Call ..=>false
 |_=>true
theorem ycY {a:Expr}{f:Str}{env:PySem.Env}{w:Sem Value}(h:nca a=true):attributeBase a f env w=w:=by
 cases a <;> first|rfl|cases h
def mOp (op:Operator)(o:BOp):Pr (∀S X,OpR X (binaryOp op) (rT2 S X (yC o))) :=
 match op,o with
 | .Add,.add=>ok (λ_ _=>znl)
 | .Sub,.sub=>ok (λ_ _=>zmR)
 | .Mult,.mul=>ok (λ_ _=>znD)
 | .FloorDiv,.fdiv=>ok (λ_ _=>zkA)
 | .Mod,.mod=>ok (λ_ _=>zof)
 | .Pow,.pow=>ok (λ_ _=>znr)
 | .BitAnd,.band=>ok (λ_ _=>zkG)
 | .BitOr,.bor=>ok (λ_ _=>zmy)
 | .BitXor,.bxor=>ok (λ_ _=>zlr)
 |_,_=>none
def mCm (op:CmpOp)(o:COp):Pr (∀m S X,yai m X.A->OpR X (compareOp op) (rT2 S X (ye o))) :=
 match op,o with
 | .Eq,.eq=>ok (λ_ _ _ r=>zos r.units)
 | .NotEq,.ne=>ok (λ_ _ _ r=>zou r.units)
 | .Lt,.lt=>ok (λ_ _ _ _=>zon)
 | .LtE,.le=>ok (λ_ _ _ _=>zoT)
 | .Gt,.gt=>ok (λ_ _ _ _=>zoy)
 | .GtE,.ge=>ok (λ_ _ _ _=>zoz)
 | .Is,.is=>ok (λ_ _ _ _=>zoE)
 | .In,.isin=>ok (λ_ _ _ _=>zor)
 | .NotIn,.notin=>ok (λ_ _ _ _=>zjQ)
 |_,_=>none
noncomputable def ydZ (sc:Scope)(x:Str):Bool:=match sc.names.lookup x with
 |some .local=>true
 |some .cell=>true
 |some .free=>true
 |_=>false
theorem zlQ {sc:Scope}{x:Str}(h:ydZ sc x=true):Vis sc x:=by
 unfold ydZ at h
 split at h
 ·exact .inl ‹_›
 ·exact .inr (.inl ‹_›)
 ·exact .inr (.inr ‹_›)
 ·cases h
noncomputable def ydm (sc:Scope)(x:Str):Bool:=match sc.names.lookup x with
 |some .local=>true
 |some .cell=>true
 |_=>false
theorem zhZ {sc:Scope}{x:Str}(h:ydm sc x=true):Loc sc x:=by
 unfold ydm at h
 split at h
 ·exact .inl ‹_›
 ·exact .inr ‹_›
 ·cases h
noncomputable def pln (x:Str):Bool:=!(x == ("__debug__":Str)) && !(x == ("__classdict__":Str)) && !(x == ("__name__":Str))
theorem ybm {x:Str}(h:pln x=true):(x == ("__debug__":Str))=false:=by
 simp only[pln,Bool.and_eq_true,Bool.not_eq_true']at h;exact h.1.1
theorem yd5 {x:Str}(h:pln x=true):(x == ("__classdict__":Str))=false:=by
 simp only[pln,Bool.and_eq_true,Bool.not_eq_true']at h;exact h.1.2
theorem ydR {x:Str}(h:pln x=true):x ≠ "__name__":=by
 simp only[pln,Bool.and_eq_true,Bool.not_eq_true']at h
 intro e;rw[e]at h;exact absurd h.2 (by decide)
def glB (κ:Kx)(x:Str):Bool:=decide (κ.sc.names.lookup x=some .globalImplicit) && pln x
theorem zM {γ:Gs}{κ:Kx}{m:Nat}{S:Se}{X:Cx}(G:Good γ κ m S X){x:Str}(h:glB κ x=true):Gl X x:=by
 simp only[glB,Bool.and_eq_true,decide_eq_true_eq]at h
 show X.env.scope.names.lookup x=_
 rw[G.sc];exact h.1
theorem zaz {κ:Kx}{x:Str}(h:glB κ x=true):pln x=true:=by
 simp only[glB,Bool.and_eq_true]at h;exact h.2
def setB (κ:Kx)(i:Nat)(x:Str):Bool:=decide (κ.N[i]?=some x) && decide κ.N.Nodup && ydm κ.sc x && (κ.own || decide (κ.sc.names.lookup x=some .local)) && pln x
structure yd2 (X:Cx)(i:Nat)(x:Str):Prop where
 d:X.N.Nodup
 i:X.N[i]?=some x
 l:Loc X.env.scope x
 f:X.fn x=true \/ X.env.scope.names.lookup x=some .local
 p:pln x=true
theorem zai {γ:Gs}{κ:Kx}{m:Nat}{S:Se}{X:Cx}(G:Good γ κ m S X){i:Nat}{x:Str}(h:setB κ i x=true):yd2 X i x:=by
 simp only[setB,Bool.and_eq_true,Bool.or_eq_true,decide_eq_true_eq]at h
 obtain⟨⟨⟨⟨h1,h2⟩,h3⟩,h4⟩,h5⟩:=h
 refine⟨by rw[G.n];exact h2,by rw[G.n];exact h1,by rw[G.sc];exact zhZ h3,?_,h5⟩
 rcases h4 with h4|h4
 ·exact .inl ((G.own h4).2.1 x)
 ·exact .inr (by rw[G.sc];exact h4)
noncomputable def gFn (γ:Gs)(x:Str)(i:Nat):Pr (γ.g x=some (.fn i)):=match h:γ.g x with
 |some (.fn j)=>if e:j=i then some ⟨by subst e;rfl⟩else none
 |_=>none
section
variable {γ:Gs}{κ:Kx}{ca cb cc:Ce}{ces:Ces}
def yeQ (v:PV)(e:Expr):Pr (YE γ κ e (.cst v)) :=
 match e with
 | .Constant (.int i) _ _=>match v with
  | .int j=>an (ask (i=j)) λh=>ok (λ_ _ _ _=>by cases h;exact zj6)
  |_=>none
 | .Constant (.bool i) _ _=>match v with
  | .bl j=>an (ask (i=j)) λh=>ok (λ_ _ _ _=>by cases h;exact zoR)
  |_=>none
 | .Constant .none _ _=>match v with
  | .non=>ok (λ_ _ _ _=>znM)
  |_=>none
 | .Constant (.str i) _ _=>match v with
  | .str j=>an (ask (i=j)) λh=>ok (λ_ _ _ _=>by cases h;exact zmU)
  |_=>none
 |_=>none
def yer (i:Nat)(e:Expr):Pr (YE γ κ e (.var i)) :=
 match e with
 | .Name x _=>an (ask (κ.N[i]?=some x/\ydZ κ.sc x=true/\pln x=true)) λh=>ok (λ_ _ _ G=>znT (by rw[G.n];exact h.1) (by rw[G.sc];exact zlQ h.2.1) (ybm h.2.2) (yd5 h.2.2))
 |_=>none
def yfa (o:BOp)(e:Expr)(fa:∀x,Pr (YE γ κ x ca))(fb:∀x,Pr (YE γ κ x cb)):Pr (YE γ κ e (.bin o ca cb)) :=
 match e with
 | .BinOp a op b _ =>
  an (mOp op o) λho=>an (fa a) λha=>an (fb b) λhb=>ok (λm S X G=>znz (ho S X) (ha m S X G) (hb m S X G))
 |_=>none
def yfd (e:Expr)(fa:∀x,Pr (YE γ κ x ca)):Pr (YE γ κ e (.neg ca)) :=
 match e with
 | .UnaryOp .USub a _ =>
  an (fa a) λha=>ok (λm S X G=>zj8 (ha m S X G))
 |_=>none
def yfY (e:Expr)(fa:∀x,Pr (YE γ κ x ca)):Pr (YE γ κ e (.not ca)) :=
 match e with
 | .UnaryOp .Not a _ =>
  an (fa a) λha=>ok (λm S X G=>zm9 (ha m S X G))
 |_=>none
def yfl (o:COp)(e:Expr)(fa:∀x,Pr (YE γ κ x ca))(fb:∀x,Pr (YE γ κ x cb)):Pr (YE γ κ e (.cmp o ca cb)) :=
 match e with
 | .Compare a [op] [b] _ =>
  an (mCm op o) λho=>an (ask (nse b=true)) λhs=>an (fa a) λha=>an (fb b) λhb=>ok (λm S X G=>znK (ho _ S X G.room) (ha m S X G) (hb m S X G) (nmk hs))
 |_=>none
def yef (o:COp)(e:Expr)(fa:∀x,Pr (YE γ κ x ca))(fb:∀x,Pr (YE γ κ x cb)):Pr (YT γ κ e (.cmp o ca cb)) :=
 match e with
 | .Compare a [op] [b] _ =>
  an (mCm op o) λho=>an (ask (nse b=true)) λhs=>an (fa a) λha=>an (fb b) λhb=>ok (λm S X G=>zmA (ho _ S X G.room) (ha m S X G) (hb m S X G) (nmk hs))
 |_=>none
theorem lmk {op op':CmpOp}{b c:Expr}(h:nse c=true):lastMarks [op,op'] [b,c]=false:=nmk h
def yfp (o p:COp)(e:Expr)(fa:∀x,Pr (YE γ κ x ca))(fb:∀x,Pr (YE γ κ x cb))(fc:∀x,Pr (YE γ κ x cc)):Pr (YE γ κ e (.chain o p ca cb cc)) :=
 match e with
 | .Compare a [op,op'] [b,c] _ =>
  an (mCm op o) λho=>an (mCm op' p) λhp=>an (ask (nse c=true)) λhs=>an (fa a) λha=>an (fb b) λhb=>an (fc c) λhc=>ok (λm S X G=>ziw (ho _ S X G.room) (hp _ S X G.room) (ha m S X G) (hb m S X G) (hc m S X G) (lmk hs))
 |_=>none
def yd1 (o p:COp)(e:Expr)(fa:∀x,Pr (YE γ κ x ca))(fb:∀x,Pr (YE γ κ x cb))(fc:∀x,Pr (YE γ κ x cc)):Pr (YT γ κ e (.chain o p ca cb cc)) :=
 match e with
 | .Compare a [op,op'] [b,c] _ =>
  an (mCm op o) λho=>an (mCm op' p) λhp=>an (ask (nse c=true)) λhs=>an (fa a) λha=>an (fb b) λhb=>an (fc c) λhc=>ok (λm S X G=>ziV (ho _ S X G.room) (hp _ S X G.room) (ha m S X G) (hb m S X G) (hc m S X G) (lmk hs))
 |_=>none
def yfr (e:Expr)(fc:∀x,Pr (YT γ κ x cc))(fa:∀x,Pr (YE γ κ x ca))(fb:∀x,Pr (YE γ κ x cb)):Pr (YE γ κ e (.ite cc ca cb)) :=
 match e with
 | .IfExp c a b _ =>
  an (fc c) λhc=>an (fa a) λha=>an (fb b) λhb=>ok (λm S X G=>znY (hc m S X G) (ha m S X G) (hb m S X G))
 |_=>none
def yfh (e:Expr)(fa:∀x,Pr (YA γ κ x ces)):Pr (YE γ κ e (.tup ces)) :=
 match e with
 | .Tuple es _ _ =>
  an (fa es) λha=>ok (λm S X G=>zob (ha m S X G))
 |_=>none
def ygl (e:Expr)(fa:∀x,Pr (YA γ κ x ces)):Pr (YE γ κ e (.lst ces)) :=
 match e with
 | .List es _ =>
  an (fa es) λha=>ok (λm S X G=>zmc (ha m S X G))
 |_=>none
def yei (e:Expr)(fa:∀x,Pr (YA γ κ x ces)):Pr (YE γ κ e (.newl ces)) :=
 match e with
 | .List es _ =>
  an (fa es) λha=>ok (λm S X G=>zld (ha m S X G))
 |_=>none
def ydS (t:Bool)(e:Expr):Pr (YE γ κ e (.dict0 t)) :=
 match t,e with
 |true,.Dict [] [] _=>ok (λ_ _ _ _=>zhS)
 |_,_=>none
def mIdx (e:Expr)(fa:∀x,Pr (YE γ κ x ca))(fb:∀x,Pr (YE γ κ x cb)):Pr (YE γ κ e (.idx ca cb)) :=
 match e with
 | .Subscript a b _ =>
  an (ask (nsl b=true)) λhs=>an (fa a) λha=>an (fb b) λhb=>ok (λm S X G=>znA (ha m S X G) (hb m S X G) (pix hs))
 |_=>none
def yf7 (e:Expr)(fa:∀x,Pr (YE γ κ x ca))(fb:∀x,Pr (YO γ κ x cb))(fc:∀x,Pr (YO γ κ x cc)):Pr (YE γ κ e (.slc ca cb cc)) :=
 match e with
 | .Subscript a (.Slice l h none _) _ =>
  an (fa a) λha=>an (fb l) λhb=>an (fc h) λhc=>ok (λm S X G=>zm6 (ha m S X G) (hb m S X G) (hc m S X G))
 |_=>none
def yeC (c:Ce)(e:Option Expr)(fa:∀x,Pr (YE γ κ x c)):Pr (YO γ κ e c) :=
 match e with
 |none=>match c with
  | .cst .non=>ok (λ_ _ _ _=>zkH)
  |_=>none
 |some a =>
  an (fa a) λha=>ok (λm S X G=>zkR (ha m S X G))
inductive Fs (γ:Gs)(κ:Kx):Ces->Type where
 | nil:Fs γ κ .nil
 | cons {c:Ce} {cs:Ces} (f:∀x,Pr (YE γ κ x c)) (r:Fs γ κ cs):Fs γ κ (.cons c cs)
def ya1:{ces:Ces}->Fs γ κ ces->(es:List Expr)->Pr (YA γ κ es ces)
 |_,.nil,[]=>ok λ_ _ _ _=>zfm
 |_,.cons f r,a::es=>an (ask (nst a=true)) λhs=>an (f a) λha=>an (ya1 r es) λhr=>ok λm S X G=>zch (ha m S X G) (hr m S X G) (yL hs)
 |_,_,_=>none
structure Sp2 (γ:Gs)(κ:Kx)(ces:Ces)(np:Nat) where
 c1:Ces
 c2:Ces
 f1:Fs γ κ c1
 f2:Fs γ κ c2
 h:yat c1 c2=ces
 l:ycH c1=np
def ycc:(np:Nat)->{ces:Ces}->Fs γ κ ces->Option (Sp2 γ κ ces np)
 |0,ces,F=>some ⟨.nil,ces,.nil,F,rfl,rfl⟩
 |n+1,_,.cons f r=>match ycc n r with
  |some s=>some ⟨.cons _ s.c1,s.c2,.cons f s.f1,s.f2,by rw[yat,s.h],by rw[ycH,s.l]⟩
  |none=>none
 |_,_,_=>none
structure It2 (γ:Gs)(κ:Kx)(ces:Ces)(sh:List (Option Int))(kws:List Keyword) where
 it:List (Sum Ce Int)
 h:yE it=ces
 s:it.map shC=sh
 k:∀m S X,Good γ κ m S X->PK X kws (tK S X it)
def ybK:(sh:List (Option Int))->{ces:Ces}->Fs γ κ ces->(kws:List Keyword)->Option (It2 γ κ ces sh kws)
 | [],_,.nil,[]=>some ⟨[],rfl,rfl,λ_ _ _ _=>zmu⟩
 |none::sh,.cons c _,.cons f r,⟨_,e,_⟩ :: kws=>match f e,ybK sh r kws with
  |some h,some q=>some ⟨.inl c::q.it,by rw[yE,q.h],by rw[List.map_cons,q.s];rfl,λm S X G=>zoA (h.down m S X G) (q.k m S X G)⟩
  |_,_=>none
 |some i::sh,.cons (.cst (.int j)) _,.cons _ r,kws=>if e:i=j then match ybK sh r kws with
  |some q=>some ⟨.inr i::q.it,by rw[yE,q.h,e],by rw[List.map_cons,q.s];rfl,λm S X G=>zoO (q.k m S X G)⟩
  |none=>none
  else none
 |_,_,_,_=>none
noncomputable def kwN:List Keyword->List Str
 | []=>[]
 | ⟨some x,_,_⟩ :: r=>x::kwN r
 |_::r=>kwN r
noncomputable def kwB:List Keyword->Bool
 | []=>true
 | ⟨some _,_,_⟩ :: r=>kwB r
 |_=>false
theorem znC {pos:Pos}{env:PySem.Env}:∀{kws:List Keyword},kwB kws=true->(backToKw pos (keywordEach kws env)).all (·.1.isSome)=true/\(backToKw pos (keywordEach kws env)).filterMap (·.1)=kwN kws/\(backToKw pos (keywordEach kws env)).any (·.1.isNone)=false
 | [],_=>⟨rfl,rfl,rfl⟩
 | ⟨some x,e,_⟩ :: r,h=>by
  obtain⟨h1,h2,h3⟩:=znC (pos:=pos) (env:=env) (kws:=r) h
  simp only[backToKw]at h1 h2 h3 ⊢
  simp only[keywordEach,List.map_cons,List.all_cons,List.filterMap_cons,List.any_cons,h1,h2,h3,kwN]
  simp
def yfg (i:Nat)(F:Fs γ κ ces)(e:Expr):Pr (YE γ κ e (.call i ces)) :=
 match e with
 | .Call (.Name x _) [] [] _=>match F with
  | .nil=>an (ask (glB κ x=true)) λhg=>an (gFn γ x i) λhf=>ok λm S X G=>by
   obtain⟨f,fd,ps,h1,h2,h3,h4⟩:=G.glo.F x i hf
   exact zjJ h1 (G.room.mono (Nat.le_succ m)) (zM G hg) h2 h3 h4 (ybm (zaz hg))
  |_=>none
 | .Call (.Name x _) (a::es) kws _=>an (ask (glB κ x=true/\nst a=true/\ybL es=true)) λhg =>
  match hx:γ.g x with
  |some (.fn j)=>match kws with
   | []=>an (ask (j=i)) λhj=>an (ya1 F (a::es)) λha=>ok λm S X G=>by
    subst hj
    obtain⟨f,fd,ps,h1,h2,h3,h4⟩:=G.glo.F x j hx
    exact zlX h1 (G.room.mono (Nat.le_succ m)) (zM G hg.1) h2 h3 h4 (ha m S X G) (ybm (zaz hg.1)) (yL hg.2.1) (stars hg.2.2)
   |_=>none
  |some (.fnD j)=>match hk:γ.kb j (es.length+1) (kwN kws)with
   |none=>none
   |some sh=>match ycc (es.length+1) F with
    |none=>none
    |some s=>match ybK sh s.f2 kws with
     |none=>none
     |some q=>an (ask (kwB kws=true/\j=i)) λhw=>an (ya1 s.f1 (a::es)) λha=>ok λm S X G=>by
      obtain⟨hw,rfl⟩:=hw
      obtain⟨f,fd,ps,h1,h2,h3,h4⟩:=G.glo.Q x j _ _ sh hx hk
      rw[<- s.h,<- q.h]
      rw[<- q.s]at h4
      have w:=λ{pos}=>znC (pos:=pos) (env:=X.env) hw
      exact ziM h1 (G.room.mono (Nat.le_succ m)) (zM G hg.1) h2 h3 h4 s.l (ha m S X G) (q.k m S X G) w.1 w.2.1 (ybm (zaz hg.1)) (yL hg.2.1) (by
       rw[w.2.2,Bool.or_false]
       exact stars (es:=a::es) (by simp only[ybL,List.all_cons,hg.2.1,Bool.true_and];exact hg.2.2))
  |_=>none
 |_=>none
abbrev ydH (b:Blt)(x:Str):Prop:=∀S X,X.calm=true->(∃id,yaa X (.builtin id) (rB S X b)/\bootBuiltins x=some (.builtin id)) \/ ∃T,yaa X (.type T) (rB S X b)/\bootBuiltins x=some (.type T)
def yf4 (b:Blt)(x:Str):Pr (ydH b x) :=
 match b with
 | .len=>an (ask (x="len")) λh=>ok λ_ _ _=>.inl ⟨_,znX,h ▸ znw⟩
 | .int=>an (ask (x="int")) λh=>ok λ_ _ _=>.inr ⟨_,zmz,h ▸ zka⟩
 | .abs=>an (ask (x="abs")) λh=>ok λ_ _ _=>.inl ⟨_,znv,h ▸ znZ⟩
 | .min=>an (ask (x="min")) λh=>ok λ_ _ c=>.inl ⟨_,zn3 c,h ▸ zn2⟩
 | .max=>an (ask (x="max")) λh=>ok λ_ _ c=>.inl ⟨_,zmi c,h ▸ zmp⟩
 | .tuple=>an (ask (x="tuple")) λh=>ok λ_ _ _=>.inr ⟨_,zix,h ▸ zfB⟩
 | .all=>an (ask (x="all")) λh=>ok λ_ _ c=>.inl ⟨_,zmo c,h ▸ zm3⟩
 |_=>none
def ygw (b:Blt)(F:Fs γ κ ces)(e:Expr):Pr (YE γ κ e (.blt b ces)) :=
 match e with
 | .Call (.Name x _) (a::es) [] _=>an (ask (glB κ x=true/\nst a=true/\ybL es=true/\γ.b x=true)) λhg=>an (yf4 b x) λhb=>an (ya1 F (a::es)) λha=>ok λm S X G=>by
  rcases hb S X G.calm with⟨id,h1,h2⟩|⟨T,h1,h2⟩
  ·exact zmO h1 (zM G hg.1) (G.glo.B x hg.2.2.2) h2 (ha m S X G) (ydR (zaz hg.1)) (ybm (zaz hg.1)) (yL hg.2.1) (stars hg.2.2.1)
  ·exact zkC h1 (zM G hg.1) (G.glo.B x hg.2.2.2) h2 (ha m S X G) (ydR (zaz hg.1)) (ybm (zaz hg.1)) (yL hg.2.1) (stars hg.2.2.1)
 |_=>none
def ygh (F:Fs γ κ ces)(e:Expr):Pr (YE γ κ e (.blt .rev ces)) :=
 match e,F with
 | .Subscript a (.Slice none none (some (.UnaryOp .USub (.Constant (.int i) _ _) _)) _) _,.cons f .nil=>an (ask (i=1)) λhi=>an (f a) λha=>ok λm S X G=>by
  subst hi
  exact zmW (ha m S X G) (zj8 zj6)
 |_,_=>none
def yf3 (b:Blt)(F:Fs γ κ ces)(e:Expr):Pr (YE γ κ e (.blt b ces)) :=
 match b with
 | .rev=>ygh F e
 |b=>ygw b F e
def tyB (t:Ty)(x:Str):Pr (ycQ t=true/\bootBuiltins x=some (.type (tyN t))) :=
 match t with
 | .int=>an (ask (x="int")) λh=>ok ⟨rfl,h ▸ zka⟩
 | .bool=>an (ask (x="bool")) λh=>ok ⟨rfl,h ▸ zlM⟩
 | .str=>an (ask (x="str")) λh=>ok ⟨rfl,h ▸ znt⟩
 | .tuple=>an (ask (x="tuple")) λh=>ok ⟨rfl,h ▸ zfB⟩
 |_=>none
def ygu (ts:List Ty)(e:Expr)(fa:∀x,Pr (YE γ κ x ca)):Pr (YE γ κ e (.isi ca ts)) :=
 match ts,e with
 | [t],.Call (.Name n _) [a,.Name x _] [] _=>an (ask (n="isinstance"/\glB κ n=true/\γ.b n=true/\glB κ x=true/\γ.b x=true/\γ.t t=true/\nst a=true)) λh=>an (tyB t x) λht=>an (fa a) λha=>ok λm S X G=>by
  obtain⟨rfl,h1,h2,h3,h4,h5,h6⟩:=h
  exact znJ (G.glo.T t h5) ht.1 (zM G h1) (G.glo.B _ h2) (zM G h3) (G.glo.B _ h4) ht.2 (ha m S X G) (ydR (zaz h3)) (ybm (zaz h3)) (yL h6) rfl
 |_,_=>none
mutual
noncomputable def yep:(a b:PV)->Pr (a=b)
 | .non,.non=>ok rfl
 | .bl a,.bl b=>an (ask (a=b)) λh=>ok (by rw[h])
 | .int a,.int b=>an (ask (a=b)) λh=>ok (by rw[h])
 | .str a,.str b=>an (ask (a=b)) λh=>ok (by rw[h])
 | .tp k a,.tp j b=>an (ask (k=j)) λh=>an (ycj a b) λg=>ok (by rw[h,g])
 | .lst a,.lst b=>an (ycj a b) λg=>ok (by rw[g])
 |_,_=>none
noncomputable def ycj:(a b:List PV)->Pr (a=b)
 | [],[]=>ok rfl
 |a::x,b::y=>an (yep a b) λh=>an (ycj x y) λg=>ok (by rw[h,g])
 |_,_=>none
end
def eqD:(a b:List (Str×PV))->Pr (a=b)
 | [],[]=>ok rfl
 | (k,a)::x,(j,b)::y=>an (ask (k=j)) λe=>an (yep a b) λh=>an (eqD x y) λg=>ok (by rw[e,h,g])
 |_,_=>none
def yfC (v:PV)(e:Expr):Pr (YE γ κ e (.cst v)) :=
 match e with
 | .Name x _=>match h:γ.g x with
  |some (.cst u)=>an (ask (glB κ x=true)) λhg=>an (yep u v) λhv=>ok λm S X G=>by
   subst hv
   rcases G.glo.C x u h with q|⟨i,rfl,q⟩
   ·exact zoo (zM G hg) q (ybm (zaz hg))
   ·exact zni (zM G hg) q (ybm (zaz hg))
  |_=>none
 |e=>yeQ v e
def yf0 (D:List (Str×PV))(e:Expr)(fb:∀x,Pr (YE γ κ x cb)):Pr (YE γ κ e (.dix D cb)) :=
 match e with
 | .Subscript (.Name x _) b _=>match h:γ.g x with
  |some (.dct E)=>an (ask (glB κ x=true/\nsl b=true)) λhg=>an (eqD E D) λhv=>an (fb b) λhb=>ok λm S X G=>by
   subst hv
   exact znk (zM G hg.1) (G.glo.D x E h) (hb m S X G) (nos hg.2) (ybm (zaz hg.1))
  |_=>none
 |_=>none
def yfD (D:List (Str×PV))(e:Expr)(fa:∀x,Pr (YE γ κ x ca)):Pr (YE γ κ e (.din ca D)) :=
 match e with
 | .Compare a [.In] [.Name x _] _=>match h:γ.g x with
  |some (.dct E)=>an (ask (glB κ x=true)) λhg=>an (eqD E D) λhv=>an (fa a) λha=>ok λm S X G=>by
   subst hv
   exact zl6 (zM G hg) (G.glo.D x E h) (ha m S X G) rfl (ybm (zaz hg))
  |_=>none
 |_=>none
theorem ydg {pos:Pos}{env:PySem.Env}:∀{es:List Expr},ybL es=true->((backTo pos (starEach es env)).all λx=>!x.1)=true
 | [],_=>rfl
 |a::es,h=>by
  simp only[ybL,List.all_cons,Bool.and_eq_true]at h
  have:=ydg (pos:=pos) (env:=env) (es:=es) h.2
  simp only[backTo]at this ⊢
  rw[yL h.1,List.map_cons,List.all_cons,this]
  rfl
theorem zj2 {o:Expr}{n:Str}{ap pos:Pos}{es:List Expr}{env:PySem.Env}(hb:nca o=true)(hs:ybL es=true)(hn:es.length<30)(hl:(ap.endLine == pos.line)=true) :
  eval (.Call (.Attribute o n ap) es [] pos) env=(do
   let ov <- eval o env
   standAt ap.atName
   let (f,first) <- holding [ov] (getMethod ov n (do return (<- importBound o env).getD true))
   callWith pos f first (backTo pos (starEach es env)) (backToKw pos (keywordEach [] env))):=by
 have hf:methodCallForm (es.length+([]:List Keyword).length) (backTo pos (starEach es env)) (backToKw pos (keywordEach [] env))=true:=by
  simp only[methodCallForm,ydg hs,Bool.true_and]
  simp[backToKw,keywordEach,hn]
 rw[arm_eval_Call,ycY hb]
 simp only[methodCall,calleeOf,methodCallPos,hf,hl,if_true,Bool.not_true,Bool.or_true,pure_bind]
def yfL (c:Nat)(f:Str)(e:Expr)(fa:∀x,Pr (YE γ κ x ca)):Pr (YE γ κ e (.fld c ca f)) :=
 match e with
 | .Attribute a g _=>an (ask (g=f/\γ.fl c f=true/\nca a=true)) λh=>an (fa a) λha=>ok λm S X G=>by
  obtain⟨rfl,h1,h2⟩:=h
  exact zno (G.glo.A c g h1).1 (G.glo.A c g h1).2 (ha m S X G) (ycY h2)
 |_=>none
def yft (c i:Nat)(F:Fs γ κ ces)(e:Expr):Pr (YE γ κ e (.new c i ces)) :=
 match e with
 | .Call (.Name x _) (a::es) [] _=>match h:γ.g x with
  |some (.cls c' i')=>an (ask (c'=c/\i'=i/\glB κ x=true/\nst a=true/\ybL es=true)) λhg=>an (ya1 F (a::es)) λha=>ok λm S X G=>by
   obtain⟨rfl,rfl,h1,h2,h3⟩:=hg
   obtain⟨q,f,fd,ps,q1,q2,q3⟩:=G.glo.N x c' i' h
   exact zmE q1 q2 G.room (zM G h1) q q3 (ha m S X G) (ybm (zaz h1)) (yL h2) (stars h3)
  |_=>none
 |_=>none
def yfW (c i:Nat)(n:Str)(F:Fs γ κ ces)(e:Expr)(fa:∀x,Pr (YE γ κ x ca)):Pr (YE γ κ e (.mcl c i n ca ces)) :=
 match e with
 | .Call (.Attribute (.Name x p) n' ap) [] [] pos=>match F with
  | .nil=>an (ask (n'=n/\γ.me c n=some i/\(ap.endLine == pos.line)=true)) λh=>an (fa (.Name x p)) λho=>ok λm S X G=>by
   obtain⟨rfl,h1,h4⟩:=h
   obtain⟨q,f,fd,ps,q1,q2,q3⟩:=G.glo.M c n' i h1
   exact zlt q q1 q2 (G.room.mono (Nat.le_succ m)) q3 (ho m S X G) (zj2 rfl rfl (Nat.zero_lt_succ _) h4)
  |_=>none
 | .Call (.Attribute (.Name x p) n' ap) (a::es) [] pos=>an (ask (n'=n/\γ.me c n=some i/\nst a=true/\ybL es=true/\(ap.endLine == pos.line)=true/\(a::es).length<30)) λh=>an (fa (.Name x p)) λho=>an (ya1 F (a::es)) λha=>ok λm S X G=>by
  obtain⟨rfl,h1,h2,h3,h4,h5⟩:=h
  obtain⟨q,f,fd,ps,q1,q2,q3⟩:=G.glo.M c n' i h1
  exact zm2 q q1 q2 (G.room.mono (Nat.le_succ m)) q3 (ho m S X G) (ha m S X G) (yL h2) (stars h3) (zj2 rfl (by simp only[ybL,List.all_cons,h2,Bool.true_and];exact h3) h5 h4)
 |_=>none
theorem yex {pos:Pos}{env:PySem.Env}{b:Expr}(h:nst b=true):((backTo pos (starEach [b] env)).all (λx=>!x.1) && (backToKw pos (keywordEach [] env)).all (λx=>x.1.isSome) && decide (([b]:List Expr).length+([]:List Keyword).length+(if ([]:List Keyword).isEmpty then 0 else 1)<30))=true:=by
 rw[yL h];rfl
def ygj (k:Mth)(F:Fs γ κ ces)(e:Expr)(fa:∀x,Pr (YE γ κ x ca)):Pr (YE γ κ e (.mth k ca ces)) :=
 match k,e,F with
 | .append,.Call (.Attribute a n ap) [b] [] pos,.cons fb .nil=>an (ask (n="append"/\nca a=true/\nst b=true/\(ap.endLine == pos.line)=true)) λh=>an (fa a) λha=>an (fb b) λhb=>ok λm S X G=>by
  obtain⟨rfl,h1,h2,h3⟩:=h
  exact zg2 (ha m S X G) (hb m S X G) (yL h2) (ycY h1) h3 (yex h2)
 | .extend,.Call (.Attribute a n ap) [b] [] pos,.cons fb .nil=>an (ask (n="extend"/\nca a=true/\nst b=true/\(ap.endLine == pos.line)=true)) λh=>an (fa a) λha=>an (fb b) λhb=>ok λm S X G=>by
  obtain⟨rfl,h1,h2,h3⟩:=h
  exact zhY (ha m S X G) (hb m S X G) (yL h2) (ycY h1) h3 (yex h2)
 | .get,.Call (.Attribute a n ap) [b,c] [] pos,.cons fb (.cons fc .nil)=>an (ask (n="get"/\nca a=true/\nst b=true/\nst c=true/\(ap.endLine == pos.line)=true)) λh=>an (fa a) λha=>an (fb b) λhb=>an (fc c) λhc=>ok λm S X G=>by
  obtain⟨rfl,h1,h2,h4,h3⟩:=h
  exact zny (zkD G.room) (ha m S X G) (hb m S X G) (hc m S X G) ⟨ycY h1,by rw[yL h2,yL h4];rfl,h3,by rw[yL h2,yL h4];rfl⟩
 |_,_,_=>none
end
structure Ev (γ:Gs)(c:Ce) where
 e:∀κ x,Pr (YE γ κ x c)
 t:∀κ x,Pr (YT γ κ x c)
 w:∀κ op l pos,Pr (YW γ κ (.BoolOp op l pos) c)
section
variable {γ:Gs}{ca cb cc:Ce}
def w1 {c:Ce}(t:∀κ x,Pr (YT γ κ x c))(κ:Kx)(op:BoolOp)(l:List Expr)(pos:Pos):Pr (YW γ κ (.BoolOp op l pos) c) :=
 match op,l with
 | .And,[a]=>an (t κ a) λh=>ok λm S X G=>zli (h m S X G)
 | .Or,[a]=>an (t κ a) λh=>ok λm S X G=>znj (h m S X G)
 |_,_=>none
def plT {c:Ce}(e:∀κ x,Pr (YE γ κ x c))(κ:Kx)(x:Expr):Pr (YT γ κ x c):=an (ask (nte x=true)) λh=>an (e κ x) λhe=>ok λm S X G=>zmS (he m S X G) (itr h)
def plain {c:Ce}(e:∀κ x,Pr (YE γ κ x c)):Ev γ c:=⟨e,plT e,w1 (plT e)⟩
def ycs {c:Ce}(e:∀κ x,Pr (YE γ κ x c))(t:∀κ x,Pr (YT γ κ x c)):Ev γ c:=⟨e,t,w1 t⟩
def ye7 (A:Ev γ ca)(κ:Kx)(e:Expr):Pr (YT γ κ e (.not ca)) :=
 match e with
 | .UnaryOp .Not a _=>an (A.t κ a) λh=>ok λm S X G=>znc (h m S X G)
 |_=>none
def yfF (A:Ev γ ca)(B:Ev γ cb)(κ:Kx)(e:Expr):Pr (YE γ κ e (.and ca cb)) :=
 match e with
 | .BoolOp .And (a::b::[]) _=>an (A.e κ a) λha=>an (B.e κ b) λhb=>ok λm S X G=>zki (ha m S X G) (zkc (hb m S X G))
 | .BoolOp .And (a::b::c::r) p=>an (A.e κ a) λha=>an (B.e κ (.BoolOp .And (b::c::r) p)) λhb=>ok λm S X G=>zki (ha m S X G) (hb m S X G)
 |_=>none
def orE (A:Ev γ ca)(B:Ev γ cb)(κ:Kx)(e:Expr):Pr (YE γ κ e (.or ca cb)) :=
 match e with
 | .BoolOp .Or (a::b::[]) _=>an (A.e κ a) λha=>an (B.e κ b) λhb=>ok λm S X G=>znq (ha m S X G) (zkc (hb m S X G))
 | .BoolOp .Or (a::b::c::r) p=>an (A.e κ a) λha=>an (B.e κ (.BoolOp .Or (b::c::r) p)) λhb=>ok λm S X G=>znq (ha m S X G) (hb m S X G)
 |_=>none
def yd7 (A:Ev γ ca)(B:Ev γ cb)(κ:Kx)(op:BoolOp)(l:List Expr)(pos:Pos):Pr (YW γ κ (.BoolOp op l pos) (.and ca cb)) :=
 match op,l with
 | .And,a::b::r=>an (A.t κ a) λha=>an (B.w κ .And (b::r) pos) λhb=>ok λm S X G=>zod (ha m S X G) (hb m S X G)
 |_,_=>none
def orW (A:Ev γ ca)(B:Ev γ cb)(κ:Kx)(op:BoolOp)(l:List Expr)(pos:Pos):Pr (YW γ κ (.BoolOp op l pos) (.or ca cb)) :=
 match op,l with
 | .Or,a::b::r=>an (A.t κ a) λha=>an (B.w κ .Or (b::r) pos) λhb=>ok λm S X G=>zoD (ha m S X G) (hb m S X G)
 |_,_=>none
def ptW {c:Ce}(w:∀κ op l pos,Pr (YW γ κ (.BoolOp op l pos) c))(κ:Kx)(e:Expr):Pr (YT γ κ e c) :=
 match e with
 | .BoolOp op l p=>an (w κ op l p) λh=>ok λm S X G=>PW.pt (h m S X G)
 |_=>none
def yeT {c:Ce}(t:∀κ x,Pr (YT γ κ x c))(w:∀κ op l pos,Pr (YW γ κ (.BoolOp op l pos) c))(κ:Kx)(op:BoolOp)(l:List Expr)(pos:Pos):Pr (YW γ κ (.BoolOp op l pos) c) :=
 match l with
 | [a]=>w1 t κ op [a] pos
 |l=>w κ op l pos
def ydY (A:Ev γ ca)(B:Ev γ cb):Ev γ (.and ca cb):=⟨yfF A B,ptW (yd7 A B),yeT (ptW (yd7 A B)) (yd7 A B)⟩
def ygn (A:Ev γ ca)(B:Ev γ cb):Ev γ (.or ca cb):=⟨orE A B,ptW (orW A B),yeT (ptW (orW A B)) (orW A B)⟩
end
abbrev YI (γ:Gs)(κ:Kx)(tg l:Expr)(c:Cit):Prop:=∀m S X,Good γ κ m S X->PI X tg l (tI S X c)
abbrev YG (γ:Gs)(κ:Kx)(tg:Expr)(c:Tg):Prop:=∀m S X,Good γ κ m S X->PG X tg (tG S X c)
section
variable {γ:Gs}{κ:Kx}{ca cb cc ce:Ce}{ci:Cit}
def yeY (e:∀x,Pr (YE γ κ x ca))(tg l:Expr):Pr (YI γ κ tg l (.seq ca)):=an (e l) λh=>ok λm S X G=>znR (h m S X G)
def iR1 (fa:∀x,Pr (YE γ κ x ca))(tg l:Expr):Pr (YI γ κ tg l (.range1 ca)) :=
 match l with
 | .Call (.Name x _) [a] [] _=>an (ask (x="range"/\glB κ x=true/\γ.b x=true/\nst a=true)) λh=>an (fa a) λha=>ok λm S X G=>by
  obtain⟨rfl,h1,h2,h3⟩:=h
  exact zil (zM G h1) (G.glo.B _ h2) (ha m S X G) (yL h3)
 |_=>none
def iR2 (fa:∀x,Pr (YE γ κ x ca))(fb:∀x,Pr (YE γ κ x cb))(tg l:Expr):Pr (YI γ κ tg l (.range2 ca cb)) :=
 match l with
 | .Call (.Name x _) [a,b] [] _=>an (ask (x="range"/\glB κ x=true/\γ.b x=true/\nst a=true/\nst b=true)) λh=>an (fa a) λha=>an (fb b) λhb=>ok λm S X G=>by
  obtain⟨rfl,h1,h2,h3,h4⟩:=h
  exact zhV (zM G h1) (G.glo.B _ h2) (ha m S X G) (hb m S X G) (by rw[yL h3,yL h4];rfl) (yL h4)
 |_=>none
def ydO (fa:∀x,Pr (YE γ κ x ca))(tg l:Expr):Pr (YI γ κ tg l (.enum ca)) :=
 match tg,l with
 | .Tuple _ _ _,.Call (.Name x _) [a] [] _=>an (ask (x="enumerate"/\glB κ x=true/\γ.b x=true/\nst a=true)) λh=>an (fa a) λha=>ok λm S X G=>by
  obtain⟨rfl,h1,h2,h3⟩:=h
  exact zlF (zM G h1) (G.glo.B _ h2) (ha m S X G) (yL h3)
 |_,_=>none
def yfG (fa:∀x,Pr (YE γ κ x ca))(fb:∀x,Pr (YE γ κ x cb))(tg l:Expr):Pr (YI γ κ tg l (.zip ca cb)) :=
 match tg,l with
 | .Tuple _ _ _,.Call (.Name x _) [a,b] [] _=>an (ask (x="zip"/\glB κ x=true/\γ.b x=true/\nst a=true/\nst b=true)) λh=>an (fa a) λha=>an (fb b) λhb=>ok λm S X G=>by
  obtain⟨rfl,h1,h2,h3,h4⟩:=h
  exact zmN (zM G h1) (G.glo.B _ h2) (ha m S X G) (hb m S X G) (by rw[yL h3,yL h4];rfl) (yL h4)
 |_,_=>none
def iRD (fa:∀x,Pr (YE γ κ x ca))(fb:∀x,Pr (YE γ κ x cb))(tg l:Expr):Pr (YI γ κ tg l (.rangeD ca cb)) :=
 match l with
 | .Call (.Name x _) [a,b,.UnaryOp .USub (.Constant (.int i) _ _) _] [] _=>an (ask (x="range"/\glB κ x=true/\γ.b x=true/\nst a=true/\nst b=true/\i=1)) λh=>an (fa a) λha=>an (fb b) λhb=>ok λm S X G=>by
  obtain⟨rfl,h1,h2,h3,h4,rfl⟩:=h
  exact zg7 (zM G h1) (G.glo.B _ h2) (ha m S X G) (hb m S X G) (by rw[yL h3,yL h4];rfl) (by rw[yL h4];rfl) rfl
 |_=>none
def gNm (κ:Kx):(l:List Nat)->(es:List Expr)->Pr (∀m S X,Good γ κ m S X->PGs X es (gNs l)/\(assignEach es X.env).length=l.length/\(assignEach es X.env).findIdx? (·.1)=none)
 | [],[]=>ok λ_ _ _ _=>⟨zla,rfl,rfl⟩
 |i::l,.Name x _::es=>an (ask (setB κ i x=true)) λh=>an (gNm κ l es) λhr=>ok λm S X G=>by
  have s:=zai G h
  obtain⟨h1,h2,h3⟩:=hr m S X G
  refine⟨ziZ s.d s.i s.l h1 s.f,?_,?_⟩
  ·simp only[assignEach,List.length_cons,h2]
  ·simp only[assignEach,List.findIdx?_cons,h3];rfl
 |_,_=>none
def mTg (ct:Tg)(tg:Expr):Pr (YG γ κ tg ct) :=
 match ct,tg with
 | .n i,.Name x _=>an (ask (setB κ i x=true)) λh=>ok λm S X G=>let s:=zai G h;zkV s.d s.i s.l s.f
 | .t l,.Tuple es _ _=>an (gNm κ l es) λh=>ok λm S X G=>zmI G.calm (h m S X G).1 (h m S X G).2.1 (h m S X G).2.2
 |_,_=>none
noncomputable def tgN:Expr->List Str
 | .Name x _=>[x]
 | .Tuple es _ _=>es.filterMap fun
  | .Name x _=>some x
  |_=>none
 |_=>[]
def ycN (N:List Str)(sl:List (Option Nat))(tg:Expr):List Str:=tgN tg++(sl.drop (tgN tg).length).filterMap λo=>o.bind λj=>N[j]?
noncomputable def ybV (sc so:Scope):Scope:={ sc with names:=sc.names.map λ(n,k)=>if (k == NameKind.free && so.kind == .function && so.names.lookup n == some .cell)then(n,NameKind.cell)else(n,k) }
noncomputable def yaz (N:List Str)(so sc:Scope)(NC:List Str)(sl:List (Option Nat)):Bool :=
 decide (sc.kind=.function) && (sc.names.all λy=>y.2 != .local || decide (sc.names.lookup y.1=some .local)) && (sc.names.all λy=>y.2 != .cell) && (sc.names.all λy=>y.2 != .free || decide (so.names.lookup y.1=some .cell)) &&
  ((NC.zip sl).all λp=>p.2.all λj=>decide (N[j]?=some p.1/\sc.names.lookup p.1=some .free)) && decide (sl.length=NC.length)
theorem zjv {X:Cx}{sc:Scope}{NC:List Str}{sl:List (Option Nat)}(h:yaz X.N X.env.scope sc NC sl=true):yZ X sc NC sl:=by
 simp only[yaz,Bool.and_eq_true,decide_eq_true_eq,List.all_eq_true,Bool.or_eq_true,bne_iff_ne,ne_eq]at h
 obtain⟨⟨⟨⟨⟨h1,h2⟩,h3⟩,h4⟩,h5⟩,h6⟩:=h
 exact ycP _ _ rfl rfl h1 (λy hy e=>(h2 y hy).resolve_left λz=>z e) h3 (λy hy e=>(h4 y hy).resolve_left λz=>z e) (λp hp=>by simpa using h5 p hp) h6
theorem Good.comp {m:Nat}{S:Se}{X:Cx}(G:Good γ κ m S X)(sc:Scope)(NC:List Str)(j:CI):Good γ ⟨NC,ybV sc κ.sc,false⟩ m S (cxC X sc NC j):=by
 refine⟨rfl,?_,G.calm,G.room,(λh=>nomatch h),⟨G.glo.F,G.glo.Q,G.glo.C,G.glo.D,G.glo.E,G.glo.N,G.glo.B,G.glo.T,G.glo.A,G.glo.M,λy D h=>let ⟨fa,fdd,ps,M,d⟩:=G.glo.K y D h;⟨fa,fdd,ps,⟨M.F,M.kp,M.b⟩,d⟩⟩⟩
 show relabel sc X.env=_
 rw[<- G.sc]
 rfl
def yfy (c:Ce)(f:∀x,Pr (YT γ κ x c))(ifs:List Expr):Pr (∀m S X,Good γ κ m S X->PTs X ifs (tT0 S X.K c)) :=
 match ifs with
 | []=>match c with
  | .cst (.bl true)=>ok λ_ _ _ _=>ziX
  |_=>none
 | [a]=>an (f a) λh=>ok λm S X G=>zlc rfl (h m S X G)
 |_=>none
structure ycl (γ:Gs)(κ:Kx)(sl:List (Option Nat))(ct:Tg)(ci:Cit)(cc ce:Ce)(elt tg it:Expr)(ifs:List Expr)(sc:Scope):Prop where
 q:∀m S X,Good γ κ m S X->∃NC,yZ X sc NC sl/\PI X tg it (tI S X ci)/\(∀j,PG (cxC X sc NC j) tg (tG0 S X.K ct))/\(∀j,PTs (cxC X sc NC j) ifs (tT0 S X.K cc))/\∀j,PE (cxC X sc NC j) elt (tE0 S X.K ce)
 f:yaj ct sl=true
 s:nse it=true
def mCo (sl:List (Option Nat))(ct:Tg)(fi:∀tg l,Pr (YI γ κ tg l ci))(C:Ev γ cc)(E:Ev γ ce)(elt tg it:Expr)(ifs:List Expr)(sc:Scope):Pr (ycl γ κ sl ct ci cc ce elt tg it ifs sc) :=
 an (ask (yaz κ.N κ.sc sc (ycN κ.N sl tg) sl=true/\yaj ct sl=true/\nse it=true)) λh=>an (fi tg it) λhi=>an (mTg (γ:=γ) (κ:=⟨ycN κ.N sl tg,ybV sc κ.sc,false⟩) ct tg) λhg =>
  an (yfy (γ:=γ) (κ:=⟨ycN κ.N sl tg,ybV sc κ.sc,false⟩) cc (C.t _) ifs) λht=>an (E.e ⟨ycN κ.N sl tg,ybV sc κ.sc,false⟩ elt) λhe=>ok ⟨λm S X G=>⟨ycN κ.N sl tg,by
   rw[<- G.n,<- G.sc]at h;rw[<- G.n];exact zjv h.1,hi m S X G,λj=>zlW rfl (hg m S _ (G.comp sc _ j)),λj=>ht m S _ (G.comp sc _ j),λj=>zlL rfl (he m S _ (G.comp sc _ j))⟩,h.2.1,h.2.2⟩
def yd3 (sl:List (Option Nat))(ct:Tg)(fi:∀tg l,Pr (YI γ κ tg l ci))(C:Ev γ cc)(E:Ev γ ce)(e:Expr):Pr (YE γ κ e (.comp sl ct ci cc ce)) :=
 match e with
 | .ListComp elt [⟨tg,it,ifs,0⟩] sc _=>an (mCo sl ct fi C E elt tg it ifs sc) λh=>ok λm S X G=>by
  obtain⟨NC,h1,h2,h3,h4,h5⟩:=h.q m S X G
  exact zlK G.calm h1 h.f h2 h3 h4 h5 (fse h.s)
 |_=>none
end
section
variable {γ:Gs}{κ:Kx}
def mPp:(kvs:List (Str×Int))->(ks:List (Option Expr))->(vs:List Expr)->Pr (∀X pos,PPs X pos ks vs (trC kvs))
 | [],[],[]=>ok λ_ _=>zmJ
 | (x,i)::r,some (.Constant (.str y) _ _)::ks,.Constant (.int j) _ _::vs=>an (ask (y=x/\j=i)) λh=>an (mPp r ks vs) λhr=>ok λX pos=>by
  obtain⟨rfl,rfl⟩:=h
  exact zl3 (hr X pos)
 |_,_,_=>none
def ydy (kvs:List (Str×Int))(e:Expr):Pr (YE γ κ e (.newd kvs)) :=
 match e with
 | .Dict ks vs pos=>an (mPp kvs ks vs) λh=>an (ask (ks.all (·.isSome)=true/\ks.length=vs.length/\ks.length≠0/\ks.length<=15)) λq=>ok λm S X G=>zlx (h X pos) q.1 q.2.1 (λz=>q.2.2.1 (by rw[z];rfl)) q.2.2.2
 |_=>none
end
mutual
noncomputable def ch (γ:Gs):(c:Ce)->Ev γ c
 | .cst v=>plain λκ x=>yfC v x
 | .var i=>plain λκ x=>yer i x
 | .bin o a b=>plain λκ x=>yfa o x ((ch γ a).e κ) ((ch γ b).e κ)
 | .neg a=>plain λκ x=>yfd x ((ch γ a).e κ)
 | .not a=>ycs (λκ x=>yfY x ((ch γ a).e κ)) (ye7 (ch γ a))
 | .and a b=>ydY (ch γ a) (ch γ b)
 | .or a b=>ygn (ch γ a) (ch γ b)
 | .cmp o a b=>ycs (λκ x=>yfl o x ((ch γ a).e κ) ((ch γ b).e κ)) (λκ x=>yef o x ((ch γ a).e κ) ((ch γ b).e κ))
 | .chain o p a b c=>ycs (λκ x=>yfp o p x ((ch γ a).e κ) ((ch γ b).e κ) ((ch γ c).e κ)) (λκ x=>yd1 o p x ((ch γ a).e κ) ((ch γ b).e κ) ((ch γ c).e κ))
 | .ite c a b=>plain λκ x=>yfr x ((ch γ c).t κ) ((ch γ a).e κ) ((ch γ b).e κ)
 | .tup es=>plain λκ x=>yfh x (ya1 (chs γ es κ))
 | .lst es=>plain λκ x=>ygl x (ya1 (chs γ es κ))
 | .newl es=>plain λκ x=>yei x (ya1 (chs γ es κ))
 | .newd kvs=>plain λκ x=>ydy kvs x
 | .dict0 t=>plain λκ x=>ydS t x
 | .idx a i=>plain λκ x=>mIdx x ((ch γ a).e κ) ((ch γ i).e κ)
 | .slc a l h=>plain λκ x=>yf7 x ((ch γ a).e κ) (λo=>yeC l o ((ch γ l).e κ)) (λo=>yeC h o ((ch γ h).e κ))
 | .call f es=>plain λκ x=>yfg f (chs γ es κ) x
 | .blt b es=>plain λκ x=>yf3 b (chs γ es κ) x
 | .mth k o es=>plain λκ x=>ygj k (chs γ es κ) x ((ch γ o).e κ)
 | .isi a ts=>plain λκ x=>ygu ts x ((ch γ a).e κ)
 | .comp sl tg it c e=>plain λκ x=>yd3 sl tg (chi γ it κ) (ch γ c) (ch γ e) x
 | .frz a=>plain λκ x=>an ((ch γ a).e κ x) λh=>ok λm S X G=>znQ (h m S X G)
 | .nope=>plain λκ x=>ok λ_ _ _ _=>zks
 | .dix D a=>plain λκ x=>yf0 D x ((ch γ a).e κ)
 | .din a D=>plain λκ x=>yfD D x ((ch γ a).e κ)
 | .fld c a f=>plain λκ x=>yfL c f x ((ch γ a).e κ)
 | .new c i es=>plain λκ x=>yft c i (chs γ es κ) x
 | .mcl c i n o es=>plain λκ x=>yfW c i n (chs γ es κ) x ((ch γ o).e κ)
noncomputable def chs (γ:Gs):(cs:Ces)->(κ:Kx)->Fs γ κ cs
 | .nil,_=>.nil
 | .cons c cs,κ=>.cons (λx=>(ch γ c).e κ x) (chs γ cs κ)
noncomputable def chi (γ:Gs):(c:Cit)->(κ:Kx)->∀tg l,Pr (YI γ κ tg l c)
 | .seq a,κ=>yeY ((ch γ a).e κ)
 | .range1 a,κ=>iR1 ((ch γ a).e κ)
 | .range2 a b,κ=>iR2 ((ch γ a).e κ) ((ch γ b).e κ)
 | .enum a,κ=>ydO ((ch γ a).e κ)
 | .zip a b,κ=>yfG ((ch γ a).e κ) ((ch γ b).e κ)
 | .rangeD a b,κ=>iRD ((ch γ a).e κ) ((ch γ b).e κ)
 |_,_=>λ_ _=>none
end
section
variable {γ:Gs}{κ:Kx}{ca cb cc ce:Ce}{ci:Cit}{ct:Tg}{cs cs':Css}{ces:Ces}
noncomputable def swB (so:Scope)(x:Str)(px pos:Pos)(sc:Scope):Bool:=(if so.kind.isAnnotationScope then ScopeKind.function else so.kind) == .function && so.names.lookup x == some .local && px.line == pos.line && !(sc.names.any λ(n,k)=>n == x && (k == .local || k == .cell))
theorem yeX {elt:Expr}{gs:List Comprehension}{sc:Scope}{pos px:Pos}{x:Str}{l:Nat}{env:PySem.Env}:swapsWith (.ListComp elt gs sc pos) (some (.Name x px)) l env=pure (swB env.scope x px pos sc):=rfl
def ydJ (f:∀x,Pr (YE γ κ x ca))(s:Stmt):Pr (YS γ κ s (.expr ca)) :=
 match s with
 | .Expr a _=>an (ask (nco a=true)) λhs=>an (f a) λh=>ok λm S X G=>zkE (h m S X G) (swp hs)
 |_=>none
def yez (i:Nat)(f:∀x,Pr (YE γ κ x ca))(s:Stmt):Pr (YS γ κ s (.asg (.n i) ca)) :=
 match s with
 | .Assign [.Name x _] a _=>an (ask (nco a=true/\setB κ i x=true)) λhs=>an (f a) λh=>ok λm S X G=>let q:=zai G hs.2;znN q.d q.i q.l (h m S X G) (swp hs.1) q.f
 |_=>none
def ydE (i:Nat)(sl:List (Option Nat))(ct:Tg)(fi:∀tg l,Pr (YI γ κ tg l ci))(C:Ev γ cc)(E:Ev γ ce)(s:Stmt):Pr (YS γ κ s (.asg (.n i) (.comp sl ct ci cc ce))) :=
 match s with
 | .Assign [.Name x px] (.ListComp elt [⟨tg,it,ifs,0⟩] sc p) _=>an (ask (setB κ i x=true/\swB κ.sc x px p sc=true)) λhs=>an (mCo sl ct fi C E elt tg it ifs sc) λh=>ok λm S X G=>by
  obtain⟨NC,h1,h2,h3,h4,h5⟩:=h.q m S X G
  have q:=zai G hs.1
  exact zkq q.d q.i q.l G.calm h1 h.f h2 h3 h4 h5 (by rw[yeX,G.sc,hs.2]) (fse h.s) q.f
 |_=>none
theorem yeV {a:Expr}(h:nst a=true):(match (generalizing:=false) a with | .Starred _ _=>true|_=>false)=false:=by
 revert h;cases a <;> intro h <;> first|rfl|cases h
def swD (so:Scope)(x y:Str)(px py:Pos)(a b:Expr):Bool:=(if so.kind.isAnnotationScope then ScopeKind.function else so.kind) == .function && so.names.lookup x == some .local && so.names.lookup y == some .local && py.line == px.line && nst a && nst b && !(x == y) && !(foldedForSure 8 a && foldedForSure 8 b) && !(constantsAlone 8 a && constantsAlone 8 b)
theorem ygi {x y:Str}{px py pt pt2:Pos}{kt k2:Nat}{a b:Expr}{env:PySem.Env}(h:swD env.scope x y px py a b=true) :
  swappedStores [.Tuple [.Name x px,.Name y py] kt pt] (.Tuple [a,b] k2 pt2) env=pure (some [x,y]):=by
 simp only[swD,Bool.and_eq_true,Bool.not_eq_true']at h
 obtain⟨⟨⟨⟨⟨⟨⟨⟨h1,h2⟩,h3⟩,h4⟩,h5⟩,h6⟩,h7⟩,h8⟩,h9⟩:=h
 have k1:(env.blockKind != .function)=false:=by
  show (!((if env.scope.kind.isAnnotationScope then ScopeKind.function else env.scope.kind) == .function))=false
  rw[h1];rfl
 have k2:env.kindOf x=some .local:=eq_of_beq h2
 have k3:env.kindOf y=some .local:=eq_of_beq h3
 have k4:py.line=px.line:=eq_of_beq h4
 have k7:¬y=x:=λz=>by subst z;simp at h7
 have m1:=yeV h5
 have m2:=yeV h6
 have c8:¬(foldedForSure 8 a=true/\foldedForSure 8 b=true):=λz=>by rw[z.1,z.2]at h8;cases h8
 have c9:¬(constantsAlone 8 a=true/\constantsAlone 8 b=true):=λz=>by rw[z.1,z.2]at h9;cases h9
 have x1:(Expr.Name x px).pos=px:=rfl
 have x2:(Expr.Name y py).pos=py:=rfl
 unfold swappedStores
 simp[k1,m1,m2,k2,k3,k4,List.eraseDups_cons,k7,x1,x2,c8,c9,List.filterMap_cons]
 intro z
 exfalso
 rcases z with z|z
 ·exact Bool.false_ne_true (m1.symm.trans z)
 ·exact Bool.false_ne_true (m2.symm.trans z)
def yfv (i j:Nat)(fa:∀x,Pr (YE γ κ x ca))(fb:∀x,Pr (YE γ κ x cb))(s:Stmt):Pr (YS γ κ s (.asg (.t [i,j]) (.tup (.cons ca (.cons cb .nil))))) :=
 match s with
 | .Assign [.Tuple [.Name x px,.Name y py] _ _] (.Tuple [a,b] _ _) _=>an (ask (setB κ i x=true/\setB κ j y=true/\i≠j/\swD κ.sc x y px py a b=true)) λh=>an (fa a) λha=>an (fb b) λhb=>ok λm S X G=>by
  obtain⟨h1,h2,h3,h4⟩:=h
  have q:=zai G h1
  have r:=zai G h2
  have h5:=h4
  simp only[swD,Bool.and_eq_true]at h5
  have e1:X.env.scope.names.lookup x=some .local:=by rw[G.sc];exact eq_of_beq h5.1.1.1.1.1.1.1.2
  have e2:X.env.scope.names.lookup y=some .local:=by rw[G.sc];exact eq_of_beq h5.1.1.1.1.1.1.2
  exact zmx G.calm q.d q.i r.i h3 (zmC G.calm q.d q.i r.i h3 e1 e2 (zch (ha m S X G) (zch (hb m S X G) zfm (yL h5.1.1.1.2)) (yL h5.1.1.1.1.2)) (ygi (by rw[G.sc];exact h4)))
 |_=>none
theorem sw0 {es:List Expr}{k:Nat}{p:Pos}{a:Expr}{env:PySem.Env}(h:ntu a=true):swappedStores [.Tuple es k p] a env=pure none:=by
 cases a <;> first|rfl|cases h
theorem sw1 {b c:Expr}{p:Pos}{a:Expr}{env:PySem.Env}:swappedStores [.Subscript b c p] a env=pure none:=by
 cases a <;> rfl
theorem yeF {t a:Expr}{l:Nat}{env:PySem.Env}(h:nco a=true):swapsWithSole [t] a l env=pure false:=by
 show swapsWith a (some t) l env=_
 exact swp h
theorem asS {b c:Expr}{pos:Pos}{env:PySem.Env}(h:nsl c=true):∀v,assign (.Subscript b c pos) env v=(do
   let ov <- holding [v] (eval b env)
   let iv <- holding [v,ov] (eval c env)
   standAt pos
   holding [v,ov,iv] (setItem ov iv v)
   release [v,ov,iv] []):=by
 cases c <;> first|exact λ_=>rfl|cases h
def yfH (l:List Nat)(f:∀x,Pr (YE γ κ x ca))(s:Stmt):Pr (YS γ κ s (.asg (.t l) ca)) :=
 match s with
 | .Assign [.Tuple es k p] a _=>an (ask (nco a=true/\ntu a=true)) λhs=>an (mTg (γ:=γ) (κ:=κ) (.t l) (.Tuple es k p)) λhg=>an (f a) λh=>ok λm S X G=>zkZ (h m S X G) (hg m S X G) (yeF hs.1) (sw0 hs.2)
 |_=>none
def yfJ (f:∀x,Pr (YE γ κ x cc))(fo:∀x,Pr (YE γ κ x ca))(fi:∀x,Pr (YE γ κ x cb))(s:Stmt):Pr (YS γ κ s (.six ca cb cc)) :=
 match s with
 | .Assign [.Subscript b c _] a _=>an (ask (nco a=true/\nsl c=true)) λhs=>an (f a) λh=>an (fo b) λho=>an (fi c) λhi=>ok λm S X G=>zoi (h m S X G) (ho m S X G) (hi m S X G) (yeF hs.1) sw1 (zjX (ho m S X G) (hi m S X G) zfp (asS hs.2))
 |_=>none
def ydz (f:∀x,Pr (YE γ κ x cc))(fo:∀x,Pr (YE γ κ x ca))(fi:∀x,Pr (YE γ κ x cb))(s:Stmt):Pr (YS γ κ s (.dput ca cb cc)) :=
 match s with
 | .Assign [.Subscript b c _] a _=>an (ask (nco a=true)) λhs=>an (f a) λh=>an (fo b) λho=>an (fi c) λhi=>ok λm S X G=>zle (zkD G.room) (ho m S X G) (hi m S X G) (h m S X G) (swp hs)
 |_=>none
def yfQ (op:Operator)(o:BOp):Pr (∀S X,PIp X op (rT2 S X (ybE o))) :=
 match op,o with
 | .Add,.add=>ok λ_ _=>zlZ
 |_,_=>none
def yga (i:Nat)(o:BOp)(f:∀x,Pr (YE γ κ x ca))(s:Stmt):Pr (YS γ κ s (.aug i o ca)) :=
 match s with
 | .AugAssign (.Name x _) op a _=>an (ask (setB κ i x=true)) λh=>an (yfQ op o) λhp=>an (f a) λha=>ok λm S X G=>let q:=zai G h;zn8 q.d q.i q.l (ha m S X G) (hp S X) q.f (ybm q.p) (yd5 q.p)
 |_=>none
def ygr (c:Ce)(f:∀x,Pr (YE γ κ x c))(s:Stmt):Pr (YS γ κ s (.ret c)) :=
 match s with
 | .Return (some a) _=>an (f a) λh=>ok λm S X G=>znd (h m S X G)
 | .Return none _=>match c with
  | .cst .non=>ok λ_ _ _ _=>zkt
  |_=>none
 |_=>none
def sIf (fc:∀x,Pr (YT γ κ x cc))(fa:∀x,Pr (YSs γ κ x cs))(fb:∀x,Pr (YSs γ κ x cs'))(s:Stmt):Pr (YS γ κ s (.ite cc cs cs')) :=
 match s with
 | .If c a b _=>an (fc c) λhc=>an (fa a) λha=>an (fb b) λhb=>ok λm S X G=>zoL (hc m S X G) (ha m S X G) (hb m S X G)
 |_=>none
def ye2 (ct:Tg)(fi:∀tg l,Pr (YI γ κ tg l ci))(fb:∀x,Pr (YSs γ κ x cs))(s:Stmt):Pr (YS γ κ s (.for ct ci cs)) :=
 match s with
 | .For tg l b [] _=>an (ask (κ.own=true/\nse l=true)) λho=>an (fi tg l) λhi=>an (mTg (γ:=γ) (κ:=κ) ct tg) λhg=>an (fb b) λhb=>ok λm S X G=>zoe (G.own ho.1).1 G.calm (hi m S X G) (hg m S X G) (hb m S X G) (fse ho.2)
 |_=>none
def sWh (fc:∀x,Pr (YT γ κ x cc))(fb:∀x,Pr (YSs γ κ x cs))(s:Stmt):Pr (YS γ κ s (.while cc cs)) :=
 match s with
 | .While c b [] _=>an (ask (κ.own=true)) λho=>an (fc c) λhc=>an (fb b) λhb=>ok λm S X G=>ziY (G.own ho).1 (hc m S X G) (hb m S X G)
 |_=>none
def yfq (c:Nat)(f:Str)(fo:∀x,Pr (YE γ κ x ca))(fv:∀x,Pr (YE γ κ x cb))(s:Stmt):Pr (YS γ κ s (.sfl c ca f cb)) :=
 match s with
 | .Assign [.Attribute a g _] b _=>an (ask (g=f/\γ.fl c f=true/\nco b=true)) λh=>an (fo a) λha=>an (fv b) λhb=>ok λm S X G=>by
  obtain⟨rfl,h1,h2⟩:=h
  exact zm0 (G.glo.A c g h1).1 (G.glo.A c g h1).2 (ha m S X G) (hb m S X G) (swp h2)
 |_=>none
def ygo (c i:Nat)(f:Str)(j:Int)(fo:∀x,Pr (YE γ κ x (.var i)))(fv:∀x,Pr (YE γ κ x (.cst (.int j))))(s:Stmt):Pr (YS γ κ s (.sfl c (.var i) f (.bin .add (.fld c (.var i) f) (.cst (.int j))))) :=
 match s with
 | .AugAssign (.Attribute a g _) .Add b _=>an (ask (g=f/\γ.fl c f=true)) λh=>an (fo a) λha=>an (fv b) λhb=>ok λm S X G=>by
  obtain⟨rfl,h1⟩:=h
  exact zmD (G.glo.A c g h1).1 (G.glo.A c g h1).2 (ha m S X G) (hb m S X G)
 |_=>none
def ygg (c:Nat)(o:Ce)(f:Str)(e:Ce)(O:Ev γ o)(E:Ev γ e)(s:Stmt):Pr (YS γ κ s (.sfl c o f e)) :=
 match s with
 | .AugAssign t op b p=>match o,e with
  | .var i,.bin .add (.fld c' (.var i') f') (.cst (.int j))=>an (ask (c'=c/\i'=i/\f'=f)) λh=>an (ygo (γ:=γ) (κ:=κ) c i f j (λx=>yer i x) (λx=>yeQ (.int j) x) (.AugAssign t op b p)) λq=>ok (by
    obtain⟨rfl,rfl,rfl⟩:=h
    exact q)
  |_,_=>none
 |s=>yfq c f (O.e κ) (E.e κ) s
end
mutual
noncomputable def chS (γ:Gs):(c:Cs)->(κ:Kx)->∀s,Pr (YS γ κ s c)
 | .expr e,κ=>ydJ ((ch γ e).e κ)
 | .asg (.n i) (.comp sl ct ci cc ce),κ=>ydE i sl ct (chi γ ci κ) (ch γ cc) (ch γ ce)
 | .asg (.n i) c,κ=>yez i ((ch γ c).e κ)
 | .asg (.t [i,j]) (.tup (.cons a (.cons b .nil))),κ=>yfv i j ((ch γ a).e κ) ((ch γ b).e κ)
 | .asg (.t l) c,κ=>yfH l ((ch γ c).e κ)
 | .six o i e,κ=>yfJ ((ch γ e).e κ) ((ch γ o).e κ) ((ch γ i).e κ)
 | .dput o i e,κ=>ydz ((ch γ e).e κ) ((ch γ o).e κ) ((ch γ i).e κ)
 | .aug i o e,κ=>yga i o ((ch γ e).e κ)
 | .ret e,κ=>ygr e ((ch γ e).e κ)
 | .ite c a b,κ=>sIf ((ch γ c).t κ) (ycE γ a κ) (ycE γ b κ)
 | .for t it b,κ=>ye2 t (chi γ it κ) (ycE γ b κ)
 | .while c b,κ=>sWh ((ch γ c).t κ) (ycE γ b κ)
 | .nope,_=>λ_=>ok λ_ _ _ _=>zlA
 | .sfl c o f e,κ=>ygg c o f e (ch γ o) (ch γ e)
noncomputable def ycE (γ:Gs):(c:Css)->(κ:Kx)->∀s,Pr (YSs γ κ s c)
 | .nil,_,[]=>ok λ_ _ _ _=>zms
 | .cons c cs,κ,s::ss=>an (chS γ c κ s) λh=>an (ycE γ cs κ ss) λhr=>ok λm S X G=>zl0 (h m S X G) (hr m S X G)
 |_,_,_=>none
end
inductive Dk where
 | fn|fd (ds:List Int)|me (c:Nat)|ini (c:Nat)
structure Df where
 gn:Str
 nm:Str
 q:Str
 st:Stmt
 N:List Str
 ps:List Str
 fn:IC.Fn
 k:Dk
def scB (N P:List Str)(sc:Scope):Bool:=decide (sc.kind=.function) && !sc.isCoroutine && !sc.isGenerator && decide N.Nodup && decide (N.take P.length=P) && P.all (ydm sc) && sc.names.all λy=>y.2 != .free
theorem zmV {N P:List Str}{sc:Scope}(h:scB N P sc=true):yaZ N P sc:=by
 simp only[scB,Bool.and_eq_true,decide_eq_true_eq,Bool.not_eq_true',List.all_eq_true,bne_iff_ne,ne_eq]at h
 obtain⟨⟨⟨⟨⟨⟨h1,h2⟩,h3⟩,h4⟩,h5⟩,h6⟩,h7⟩:=h
 exact⟨h1,h2,h3,h4,h5,λx hx=>zhZ (h6 x hx),h7⟩
def okD (γ:Gs)(d:Df):Bool:=scB d.N d.ps (yt d.st) && decide (d.ps.length=d.fn.np) && decide (d.N.length=d.fn.ns) && (ycE γ d.fn.body ⟨d.N,yt d.st,true⟩ (yS d.st)).isSome
noncomputable def ybF {α:Type}(P:α->Prop):List α->Prop
 | []=>True
 |d::r=>P d/\ybF P r
theorem ybF.get {α:Type}{P:α->Prop}:∀{l:List α},ybF P l->∀d∈l,P d
 |_::_,h,d,hd=>by
  rcases List.mem_cons.1 hd with rfl|hd
  ·exact h.1
  ·exact h.2.get d hd
noncomputable def ybl:List Str->(List Value->Prop)->Prop
 | [],P=>P []
 |_::r,P=>∀a,ybl r λus=>P (a::us)
theorem ybl.get:∀{ps:List Str} {P:List Value->Prop},ybl ps P->∀us,us.length=ps.length->P us
 | [],P,h,[],_=>h
 |_::r,P,h,a::us,e=>(h a).get us (by simpa using e)
def ya4 (d:Df):Prop:=∀(kV doc pm:Value) (an:Option Addr) (cdv ct:Value),ybl d.ps λus=>bindArgs (PySem.W.fnOf d.nm d.q (yX d.st) (yS d.st) (yt d.st) .none kV doc pm an cdv ct) ⟨us,[]⟩=pure (d.ps.zip us)
structure yci (K:PySem.W.Frag)(d:Df)(dv:Value)(f:Addr)(fd:FuncData):Prop where
 ex:∃(oc:Value) (od:Option Addr) (kV doc pm:Value) (an:Option Addr) (cdv ct:Value) (osl:Array (Option Value)),
  fd=PySem.W.fnOf d.nm d.q (yX d.st) (yS d.st) (yt d.st) dv kV doc pm an cdv ct/\K.lookup f=some ⟨oc,od,.func fd,osl⟩/\PySem.W.codeIn K cdv d.q=true
 kp:PySem.W.keepIn K (.ref f)=true
def At (K:PySem.W.Frag)(cn:Nat->Str)(d:Df)(f:Addr):Prop :=
 match d.k with
 | .fn=>PySem.W.nsIn K mainGlobals d.gn=some (some (.ref f))/\ya4 d
 | .fd _=>PySem.W.nsIn K mainGlobals d.gn=some (some (.ref f))
 | .me c=>ya4 d/\∃q,PySem.W.nsIn K mainGlobals (cn c)=some (some (.ref q))/\PySem.W.findIn K (.ref q) d.nm=some (some (.ref f))/\PySem.W.isFn K (.ref f)=true
 | .ini c=>ya4 d/\∃q,PySem.W.nsIn K mainGlobals (cn c)=some (some (.ref q))/\PySem.W.findIn K (.ref q) d.nm=some (some (.ref f))/\PySem.W.isFn K (.ref f)=true/\PySem.W.makesIn K q=true/\PySem.W.keepIn K (.ref q)=true
def DvP (K:PySem.W.Frag)(d:Df)(dv:Value):Prop :=
 match d.k with
 | .fd ds=>∃dT o its n,dv=.ref dT/\K.lookup dT=some o/\o.data=.seq its n/\Vals (ds.map V.int) its.toList
 |_=>dv=.none
def ycD (K:PySem.W.Frag)(cn:Nat->Str)(d:Df):Prop:=∃dv f fd,yci K d dv f fd/\At K cn d f/\DvP K d dv
section
variable {K:PySem.W.Frag}{cn:Nat->Str}{gn nm:Str}{st:Stmt}{N ps:List Str}{fn:IC.Fn}{f:Addr}{oc:Value}{od:Option Addr}{kV doc pm:Value}{an:Option Addr}{cdv ct:Value}{osl:Array (Option Value)}
theorem rowFn (a:PySem.W.nsIn K mainGlobals gn=some (some (.ref f)))(l:K.lookup f=some ⟨oc,od,.func (PySem.W.fnOf nm nm (yX st) (yS st) (yt st) .none kV doc pm an cdv ct),osl⟩)
  (c:PySem.W.codeIn K cdv nm=true) (p:PySem.W.keepIn K (.ref f)=true) (b:ya4 ⟨gn,nm,nm,st,N,ps,fn,.fn⟩):ycD K cn ⟨gn,nm,nm,st,N,ps,fn,.fn⟩ :=
 ⟨.none,f,_,⟨⟨oc,od,kV,doc,pm,an,cdv,ct,osl,rfl,l,c⟩,p⟩,⟨a,b⟩,rfl⟩
theorem rowFd {ds:List Int}{dT:Addr}{o:Obj}{its:Array Value}{n:Nat}(a:PySem.W.nsIn K mainGlobals gn=some (some (.ref f)))(l:K.lookup f=some ⟨oc,od,.func (PySem.W.fnOf nm nm (yX st) (yS st) (yt st) (.ref dT) kV doc pm an cdv ct),osl⟩)
  (c:PySem.W.codeIn K cdv nm=true) (p:PySem.W.keepIn K (.ref f)=true) (d:K.lookup dT=some o) (e:o.data=.seq its n) (v:Vals (ds.map V.int) its.toList):ycD K cn ⟨gn,nm,nm,st,N,ps,fn,.fd ds⟩ :=
 ⟨.ref dT,f,_,⟨⟨oc,od,kV,doc,pm,an,cdv,ct,osl,rfl,l,c⟩,p⟩,a,dT,o,its,n,rfl,d,e,v⟩
theorem rowMe {qn:Str}{cc:Nat}{q:Addr}(z:PySem.W.nsIn K mainGlobals (cn cc)=some (some (.ref q)))(a:PySem.W.findIn K (.ref q) nm=some (some (.ref f)))(i:PySem.W.isFn K (.ref f)=true)(l:K.lookup f=some ⟨oc,od,.func (PySem.W.fnOf nm qn (yX st) (yS st) (yt st) .none kV doc pm an cdv ct),osl⟩)
  (c:PySem.W.codeIn K cdv qn=true) (p:PySem.W.keepIn K (.ref f)=true) (b:ya4 ⟨gn,nm,qn,st,N,ps,fn,.me cc⟩):ycD K cn ⟨gn,nm,qn,st,N,ps,fn,.me cc⟩ :=
 ⟨.none,f,_,⟨⟨oc,od,kV,doc,pm,an,cdv,ct,osl,rfl,l,c⟩,p⟩,⟨b,q,z,a,i⟩,rfl⟩
theorem rowIni {qn:Str}{cc:Nat}{q:Addr}(z:PySem.W.nsIn K mainGlobals (cn cc)=some (some (.ref q)))(a:PySem.W.findIn K (.ref q) nm=some (some (.ref f)))(i:PySem.W.isFn K (.ref f)=true)(l:K.lookup f=some ⟨oc,od,.func (PySem.W.fnOf nm qn (yX st) (yS st) (yt st) .none kV doc pm an cdv ct),osl⟩)
  (c:PySem.W.codeIn K cdv qn=true) (p:PySem.W.keepIn K (.ref f)=true) (b:ya4 ⟨gn,nm,qn,st,N,ps,fn,.ini cc⟩) (mk:PySem.W.makesIn K q=true) (kq:PySem.W.keepIn K (.ref q)=true):ycD K cn ⟨gn,nm,qn,st,N,ps,fn,.ini cc⟩ :=
 ⟨.none,f,_,⟨⟨oc,od,kV,doc,pm,an,cdv,ct,osl,rfl,l,c⟩,p⟩,⟨b,q,z,a,i,mk,kq⟩,rfl⟩
theorem gdf_mk {w:World}{h:Heap}{mg:Str->Option Value}{x:Str}{D:List (Str×Nat)}{fa:Nat->Addr}{y:Addr}{es:Array DictEntry}{ep:Nat}(X:K.In h)(G:h.Ns mainGlobals mg)(a:PySem.W.nsIn K mainGlobals x=some (some (.ref y)))(l:K.lookup y=some ⟨.type "dict",none,.dict es ep,#[]⟩)
  (r:yb4 w fa D es.toList) (n:(D.map (·.1)).Nodup):GDF K w mg fa x D:=⟨y,es,ep,PySem.W.mg_of X G a,l,r,n⟩
theorem gd_mk {w:World}{h:Heap}{mg:Str->Option Value}{x:Str}{D:List (Str×PV)}{cl:Nat->Addr}{y:Addr}{es:Array DictEntry}{ep:Nat}(X:K.In h)(G:h.Ns mainGlobals mg)(a:PySem.W.nsIn K mainGlobals x=some (some (.ref y)))(l:K.lookup y=some ⟨.type "dict",none,.dict es ep,#[]⟩)
  (s:(y == sysModules)=false) (r:ybT K cl w D es.toList) (n:(D.map (·.1)).Nodup):GD K w mg cl x D:=⟨y,es,ep,PySem.W.mg_of X G a,l,s,r,n⟩
end
abbrev KoV (K:PySem.W.Frag)(v:PV)(u:Value):Prop:=∃x:V,RelV x u/\∀cl B φ H,yd K cl B φ H v x
abbrev KoL (K:PySem.W.Frag)(vs:List PV)(us:List Value):Prop:=∃xs:List V,Vals xs us/\∀cl B φ H,yh K cl B φ H vs xs
mutual
noncomputable def yeg (K:PySem.W.Frag):(v:PV)->(u:Value)->Pr (KoV K v u)
 | .int i,.int j t=>an (ask (i=j)) λh=>ok ⟨.int i,⟨t,by rw[h]⟩,λ_ _ _ _=>by simp only[yd]⟩
 | .str i,.str j t=>an (ask (i=j)) λh=>ok ⟨.str i,⟨t,by rw[h]⟩,λ_ _ _ _=>by simp only[yd]⟩
 | .tp true vs,.ref a=>match h:K.lookup a with
  |some ⟨c,_,.seq its n,_⟩=>an (ask (c=.type "tuple"/\its.size<=sizeLine)) λq=>an (ycX K vs its.toList) λr=>ok (by
    obtain⟨xs,r1,r2⟩:=r
    refine⟨.ref a,rfl,λcl B φ H=>?_⟩
    simp only[yd]
    exact⟨a,xs,rfl,.inr ⟨rfl,_,its,n,h,q.1,rfl,q.2,r1⟩,r2 cl B φ H⟩)
  |_=>none
 |_,_=>none
noncomputable def ycX (K:PySem.W.Frag):(vs:List PV)->(us:List Value)->Pr (KoL K vs us)
 | [],[]=>ok ⟨[],.nil,λ_ _ _ _=>by simp only[yh]⟩
 |v::vs,u::us=>an (yeg K v u) λh=>an (ycX K vs us) λr=>ok (by
   obtain⟨x,h1,h2⟩:=h
   obtain⟨xs,r1,r2⟩:=r
   refine⟨x::xs,.cons h1 r1,λcl B φ H=>?_⟩
   simp only[yh]
   exact⟨x,xs,rfl,h2 cl B φ H,r2 cl B φ H⟩)
 |_,_=>none
end
theorem con_row {K:PySem.W.Frag}{cl:Nat->Addr}{w:World}{k:Str}{v:PV}{tk:Tok}{u:Value}{D:List (Str×PV)}{es:List DictEntry}(c:(yeg K v u).isSome=true)(h:ybT K cl w D es):ybT K cl w ((k,v)::D) (⟨PyData.keyHash w.params k,.str k tk,u⟩ :: es):=by
 obtain⟨⟨x,r,q⟩,_⟩:=Option.isSome_iff_exists.1 c
 exact .cons r (q cl) h
theorem frow_cons {w:World}{fa:Nat->Addr}{k:Str}{i:Nat}{tk:Tok}{a:Addr}{D:List (Str×Nat)}{es:List DictEntry}(e:fa i=a)(h:yb4 w fa D es):yb4 w fa ((k,i)::D) (⟨PyData.keyHash w.params k,.str k tk,.ref a⟩ :: es):=by
 subst e;exact .cons h
structure Tb where
 tbl:List Df
 al:List (Str×GK)
 bs:List Str
 ts:List Ty
 fl:List (Nat×Str)
 me:List ((Nat×Str)×Nat)
 kb:List ((Nat×Nat×List Str)×List (Option Int))
 cn:List (Nat×Str)
 dd:List (Str×List (Str×PV))
 ml:List (Str×List (Str×Nat))
noncomputable abbrev eF (x:Str)(i:Nat):Str×GK:=(x,.fn i)
noncomputable abbrev eD (x:Str)(i:Nat):Str×GK:=(x,.fnD i)
noncomputable abbrev eC (x:Str)(v:PV):Str×GK:=(x,.cst v)
noncomputable abbrev eG (x:Str)(g:GK):Str×GK:=(x,g)
noncomputable abbrev eN (c:Nat)(x:Str):Nat×Str:=(c,x)
noncomputable abbrev eM (c:Nat)(x:Str)(i:Nat):(Nat×Str)×Nat:=((c,x),i)
noncomputable abbrev eK (i n:Nat)(ks:List Str)(sh:List (Option Int)):(Nat×Nat×List Str)×List (Option Int):=((i,n,ks),sh)
noncomputable abbrev eB (x:Str)(d:List (Str×PV)):Str×List (Str×PV):=(x,d)
noncomputable def tyE:Ty->Ty->Bool
 | .int,.int=>true
 | .bool,.bool=>true
 | .str,.str=>true
 | .tuple,.tuple=>true
 | .list,.list=>true
 |_,_=>false
theorem zn0 {a b:Ty}(h:tyE a b=true):a=b:=by
 cases a <;> cases b <;> first|rfl|cases h
def Tb.gs (t:Tb):Gs:=⟨λx=>t.al.lookup x,λx=>t.bs.contains x,λy=>t.ts.any (tyE y),λc f=>t.fl.contains (c,f),λc n=>t.me.lookup (c,n),λi n ks=>t.kb.lookup (i,n,ks),λx=>t.ml.lookup x⟩
noncomputable def nmA (K:PySem.W.Frag)(x:Str):Option Addr:=match PySem.W.nsIn K mainGlobals x with
 |some (some (.ref q))=>some q
 |_=>none
def clA (K:PySem.W.Frag)(t:Tb)(c:Nat):Addr:=((t.cn.lookup c).bind (nmA K)).getD 0
noncomputable def cnm (t:Tb)(c:Nat):Str:=(t.cn.lookup c).getD ""
def faA (K:PySem.W.Frag)(t:Tb)(i:Nat):Addr:=match t.tbl[i]? with
 |some d=>match d.k with
  | .fn=>(nmA K d.gn).getD 0
  | .fd _=>(nmA K d.gn).getD 0
  | .me c=>match PySem.W.findIn K (.ref (clA K t c)) d.nm with
   |some (some (.ref f))=>f
   |_=>0
  | .ini c=>match PySem.W.findIn K (.ref (clA K t c)) d.nm with
   |some (some (.ref f))=>f
   |_=>0
 |none=>0
noncomputable def ycO:Dk->Bool
 | .fn=>true
 |_=>false
noncomputable def ydL:Dk->Bool
 | .fd _=>true
 |_=>false
noncomputable def yfn:PV->Bool
 | .int _=>true
 | .tp _ _=>true
 |_=>false
def alB (K:PySem.W.Frag)(t:Tb):Str×GK->Bool
 | (x,.fn i)=>match t.tbl[i]? with
  |some d=>ycO d.k && (decide (x=d.gn) || decide (nmA K x=nmA K d.gn))
  |none=>false
 | (x,.fnD i)=>match t.tbl[i]? with
  |some d=>ydL d.k && (decide (x=d.gn) || decide (nmA K x=nmA K d.gn))
  |none=>false
 | (x,.cst v)=>yfn v && match PySem.W.nsIn K mainGlobals x with
  |some (some u)=>(yeg K v u).isSome
  |_=>false
 | (x,.dct d)=>t.dd.any λp=>decide (p.1=x) && (eqD p.2 d).isSome
 | (x,.exc c)=>decide (t.cn.lookup c=some x) && (nmA K x).any λq=>PySem.W.excIn K q [.type "ValueError",.type "Exception",.type "BaseException",.type "object"] "ValueError.__new__"
 | (x,.cls c i)=>decide (t.cn.lookup c=some x) && (nmA K x).isSome && match t.tbl[i]? with
  |some d=>match d.k with
   | .ini c'=>decide (c'=c) && decide (d.nm="__init__")
   |_=>false
  |none=>false
def yeP (K:PySem.W.Frag)(t:Ty):Bool :=
 decide (PySem.W.kitOne K (.type "NoneType") (.type (tyN t))=some (ybd .non t)) && decide (PySem.W.kitOne K (.type "bool") (.type (tyN t))=some (ybd (.bl true) t)) && decide (PySem.W.kitOne K (.type "int") (.type (tyN t))=some (ybd (.int 0) t)) && decide (PySem.W.kitOne K (.type "str") (.type (tyN t))=some (ybd (.str Str.empty) t)) && decide (PySem.W.kitOne K (.type "tuple") (.type (tyN t))=some (ybd (.tp true []) t)) && decide (PySem.W.kitOne K (.type "list") (.type (tyN t))=some (ybd (.lst []) t))
noncomputable def ydl (K:PySem.W.Frag)(q:Addr):Bool:=PySem.W.plainGet K q Str.empty && PySem.W.hasDictIn K q && PySem.W.plainOver K q && decide (PySem.W.findIn K (.ref q) "__setattr__"=some (some (.builtin "object.__setattr__")))
theorem zg4 {K:PySem.W.Frag}{q:Addr}(h:ydl K q=true):Cls K q:=by
 simp only[ydl,Bool.and_eq_true,decide_eq_true_eq]at h
 exact⟨h.1.1.1,h.1.1.2,h.1.2,h.2⟩
def ydB (K:PySem.W.Frag)(t:Tb):Bool :=
 t.al.all (alB K t) && t.bs.all (λx=>decide (PySem.W.nsIn K mainGlobals x=some none)) && t.ts.all (yeP K) &&
  t.fl.all (λp=>(t.cn.lookup p.1).isSome && (nmA K (cnm t p.1)).any λq=>ydl K q && decide (PySem.W.findIn K (.ref q) p.2=some none)) &&
  t.me.all (λp=>(t.cn.lookup p.1.1).isSome && (nmA K (cnm t p.1.1)).any λq=>ydl K q && match t.tbl[p.2]? with
   |some d=>(match d.k with
    | .me c=>decide (c=p.1.1)
    |_=>false) && decide (d.nm=p.1.2)
   |none=>false) &&
  t.ml.all λp=>p.2.all λq=>match t.tbl[q.2]? with
   |some d=>ycO d.k
   |none=>false
noncomputable def fd0:FuncData:=PySem.W.fnOf "" "" (yX (.Pass ⟨0,0,0,0⟩)) [] (yt (.Pass ⟨0,0,0,0⟩)) .none .none .none .none none .none .none
def fdA (K:PySem.W.Frag)(t:Tb)(i:Nat):FuncData:=match K.lookup (faA K t i)with
 |some ⟨_,_,.func fd,_⟩=>fd
 |_=>fd0
noncomputable def psA (t:Tb)(i:Nat):List Str:=match t.tbl[i]? with
 |some d=>d.ps
 |none=>[]
theorem lkm {α β:Type}[BEq α][LawfulBEq α]{x:α}{k:β}:∀{l:List (α×β)},l.lookup x=some k->(x,k)∈l
 | [],h=>nomatch h
 |y::l,h=>by
  rw[List.lookup_cons]at h
  cases hx:x == y.1 with
  |true=>rw[hx]at h;cases h;rw[eq_of_beq hx];exact List.mem_cons_self
  |false=>rw[hx]at h;exact List.mem_cons_of_mem _ (lkm h)
def KbP (t:Tb)(p:(Nat×Nat×List Str)×List (Option Int)):Prop:=∀d ds,t.tbl[p.1.1]?=some d->d.k=.fd ds->∀(K:PySem.W.Frag) (mg:Str->Option Value) (f:Addr) (fd:FuncData),FnD K mg d.nm d.st d.ps ds f fd->∃g,ybo K fd d.ps p.1.2.2 g (gK p.1.2.1 p.2)
structure Fact (t:Tb)(w:World)(K:PySem.W.Frag)(mg:Str->Option Value):Prop where
 X:∀x u,PySem.W.nsIn K mainGlobals x=some u->mg x=u
 R:ybF (ycD K (cnm t)) t.tbl
 B:ydB K t=true
 D:ybF (λp=>∀cl,GD K w mg cl p.1 p.2) t.dd
 Kb:ybF (KbP t) t.kb
 Ml:ybF (λp=>GDF K w mg (faA K t) p.1 p.2) t.ml
theorem zok {K:PySem.W.Frag}{x:Str}{q:Addr}(h:nmA K x=some q):PySem.W.nsIn K mainGlobals x=some (some (.ref q)):=by
 unfold nmA at h
 split at h
 ·cases h;assumption
 ·cases h
theorem zbc {K:PySem.W.Frag}{x:Str}{q:Addr}(h:PySem.W.nsIn K mainGlobals x=some (some (.ref q))):nmA K x=some q:=by
 simp only[nmA,h]
theorem zfr {K:PySem.W.Frag}{t:Tb}{c:Nat}{q:Addr}(h:nmA K (cnm t c)=some q)(hc:(t.cn.lookup c).isSome=true):clA K t c=q:=by
 obtain⟨x,e⟩:=Option.isSome_iff_exists.1 hc
 simp only[clA,e,Option.bind_some]
 simp only[cnm,e,Option.getD_some]at h
 rw[h];rfl
noncomputable def okT (t:Tb)(d:Df):Bool:=okD t.gs d && match d.k with
 | .fn=>true
 | .fd _=>decide (d.q=d.nm)
 | .me c=>(t.cn.lookup c).isSome
 | .ini c=>(t.cn.lookup c).isSome && decide (d.nm="__init__")
section
variable {t:Tb}{w:World}{K:PySem.W.Frag}{mg:Str->Option Value}{T:Nat->Option IC.Fn}{P:Program}{base:Heap}{k:Nat}
theorem zcn (F:Fact t w K mg)(O:∀d∈t.tbl,okT t d=true){i:Nat}{d:Df}(h:t.tbl[i]?=some d):∃dv fd,yci K d dv (faA K t i) fd/\At K (cnm t) d (faA K t i)/\DvP K d dv:=by
 have hm:=List.mem_of_getElem? h
 obtain⟨dv,f,fd,h1,h2,h3⟩:=F.R.get d hm
 have e:f=faA K t i:=by
  have o:=O d hm
  simp only[okT,Bool.and_eq_true]at o
  have o:=o.2
  simp only[faA,h]
  unfold At at h2
  cases q:d.k with
  |fn =>
   rw[q]at h2
   simp only[zbc h2.1,Option.getD_some]
  |fd ds =>
   rw[q]at h2
   have h2:PySem.W.nsIn K mainGlobals d.gn=some (some (.ref f)):=h2
   simp only[zbc h2,Option.getD_some]
  |me c =>
   rw[q]at h2 o
   obtain⟨_,q',e1,e2,_⟩:=h2
   simp only[zfr (zbc e1) o,e2]
  |ini c =>
   rw[q]at h2 o
   obtain⟨_,q',e1,e2,_⟩:=h2
   simp only[Bool.and_eq_true]at o
   simp only[zfr (zbc e1) o.1,e2]
 subst e
 exact⟨dv,fd,h1,h2,h3⟩
theorem yci.binds {d:Df}{f:Addr}{fd:FuncData}(R:yci K d .none f fd)(b:ya4 d):Binds K fd d.ps [] :=
 Fun.binds ⟨R.ex,R.kp⟩ λkV doc pm an cdv ct us hl=>(b kV doc pm an cdv ct).get us hl
theorem yci.ok {d:Df}{dv:Value}{f:Addr}{fd:FuncData}{fi m:Nat}{cl:Nat->Addr}(R:yci K d dv f fd)(hT:T fi=some d.fn)(Sc:yaZ d.N d.ps (yt d.st))(hnp:d.ps.length=d.fn.np)(hns:d.N.length=d.fn.ns)
  (body:∀(cdv:Value) (A:Around) (outer:List PySem.Env) (s:Shared) (H:Hp) (E:XK),yai m (A.deeper (envOfC d.q (yt d.st) s.heap.objs.size f cdv)) ->
   PSs (yaP (CX1 P w) P w K mg base d.N d.q (yt d.st) f cdv A outer s H E) (yS d.st) (tSs ⟨cl,yc T k,true⟩ (yaP (CX1 P w) P w K mg base d.N d.q (yt d.st) f cdv A outer s H E) d.fn.body)) :
  yax P w K mg base (CX1 P w) (m+1) f fd d.ps (spI K cl (yc T (k+1)) fi):=by
 obtain⟨oc,od,kV,doc,pm,an,cdv,ct,osl,rfl,lk,hcd⟩:=R.ex
 exact zoK lk hcd Sc (λvs H Q E h=>zng hT hnp h) λA outer s H vs Q E hr h=>⟨_,body cdv A outer s H E hr,zll hT hns h⟩
def Fn2 (t:Tb)(P:Program)(w:World)(K:PySem.W.Frag)(mg:Str->Option Value)(base:Heap)(T:Nat->Option IC.Fn)(k:Nat):Prop :=
 ∀i d dv fd,t.tbl[i]?=some d->yci K d dv (faA K t i) fd->yax P w K mg base (CX1 P w) (2*k) (faA K t i) fd d.ps (spI K (clA K t) (yc T k) i)
theorem ziB (F:Fact t w K mg)(O:∀d∈t.tbl,okT t d=true)(C:Fn2 t P w K mg base T k){N:List Str}{q:Str}{sc:Scope}{f:Addr}{cdv:Value}{A:Around}{outer:List PySem.Env}{s:Shared}{H:Hp}{E:XK} :
  Glo t.gs (2*k) ⟨clA K t,yc T k,true⟩ (yaP (CX1 P w) P w K mg base N q sc f cdv A outer s H E):=by
 have B:=F.B
 simp only[ydB,Bool.and_eq_true,List.all_eq_true]at B
 obtain⟨⟨⟨⟨⟨b1,b2⟩,b3⟩,b4⟩,b5⟩,b6⟩:=B
 have mgr:∀{x:Str} {a:Addr},nmA K x=some a->mg x=some (.ref a):=λh=>F.X _ _ (zok h)
 have same:∀{x y:Str} {a:Addr},(decide (x=y) || decide (nmA K x=nmA K y))=true->nmA K y=some a->nmA K x=some a:=λ{x y a} h e=>by
  simp only[Bool.or_eq_true,decide_eq_true_eq]at h
  rcases h with rfl|h
  ·exact e
  ·rw[h];exact e
 refine⟨λx i h=>?_,λx i np ks sh h hk=>?_,λx v h=>?_,λx d h=>?_,λx c h=>?_,λx c i h=>?_,λx h=>?_,λy h=>?_,λc n h=>?_,λc n i h=>?_,λy D h=>?_⟩
 ·have q:=b1 _ (lkm h)
  simp only[alB]at q
  split at q
  ·rename_i d hd
   simp only[Bool.and_eq_true]at q
   obtain⟨dv,fd,r1,r2,r3⟩:=zcn F O hd
   have hk:d.k=.fn:=by cases e:d.k <;> rw[e]at q <;> first|rfl|cases q.1
   simp only[At,hk]at r2
   simp only[DvP,hk]at r3
   subst r3
   exact⟨_,fd,d.ps,C i d _ fd hd r1,mgr (same q.2 (zbc r2.1)),r1.kp,r1.binds r2.2⟩
  ·cases q
 ·have q:=b1 _ (lkm h)
  simp only[alB]at q
  split at q
  ·rename_i d hd
   simp only[Bool.and_eq_true]at q
   obtain⟨dv,fd,r1,r2,r3⟩:=zcn F O hd
   obtain⟨ds,hk'⟩:∃ds,d.k=.fd ds:=by cases e:d.k <;> rw[e]at q <;> first|exact⟨_,rfl⟩|cases q.1
   simp only[At,hk']at r2
   simp only[DvP,hk']at r3
   obtain⟨dT,o,its,n,rfl,e1,e2,e3⟩:=r3
   have oo:=O d (List.mem_of_getElem? hd)
   simp only[okT,hk',Bool.and_eq_true,decide_eq_true_eq]at oo
   have D:FnD K (λ_=>some (.ref (faA K t i))) d.nm d.st d.ps ds (faA K t i) fd:=by
    obtain⟨oc,od,kV,doc,pm,an,cdv,ct,osl,z1,z2,z3⟩:=r1.ex
    rw[oo.2]at z1 z3
    exact⟨⟨oc,od,dT,kV,doc,pm,an,cdv,ct,osl,o,its,n,z1,z2,z3,e1,e2,e3⟩,r1.kp,rfl⟩
   exact⟨_,fd,d.ps,C i d _ fd hd r1,mgr (same q.2 (zbc r2)),r1.kp,F.Kb.get _ (lkm hk) d ds hd hk' K _ _ _ D⟩
  ·cases q
 ·have q:=b1 _ (lkm h)
  simp only[alB,Bool.and_eq_true]at q
  obtain⟨q0,q⟩:=q
  split at q
  ·rename_i u hu
   obtain⟨⟨y,r,z⟩,_⟩:=Option.isSome_iff_exists.1 q
   have hm:=F.X _ _ hu
   cases v with
   |int i =>
    have z:=z (λ_=>0) (λ_=>False) [] (λ_=>none)
    simp only[yd]at z
    subst z
    obtain⟨tk,rfl⟩:=r
    exact .inr ⟨i,rfl,tk,hm⟩
   |tp b vs =>
    have z0:=z (λ_=>0) (λ_=>False) [] (λ_=>none)
    simp only[yd]at z0
    obtain⟨a,xs,rfl,_⟩:=z0
    have r:u=.ref a:=r
    subst r
    exact .inl ⟨a,hm,λB φ H=>z _ B φ H⟩
   |_=>cases q0
  ·cases q
 ·have q:=b1 _ (lkm h)
  simp only[alB,List.any_eq_true,Bool.and_eq_true,decide_eq_true_eq]at q
  obtain⟨p,hp,rfl,q⟩:=q
  obtain⟨⟨e⟩,_⟩:=Option.isSome_iff_exists.1 q
  rw[<- e]
  exact F.D.get p hp _
 ·have q:=b1 _ (lkm h)
  simp only[alB,Bool.and_eq_true,decide_eq_true_eq,Option.any_eq_true_iff_get]at q
  obtain⟨q1,q2,q3⟩:=q
  obtain⟨a,ha⟩:=Option.isSome_iff_exists.1 q2
  have e:clA K t c=a:=by simp only[clA,q1,Option.bind_some,ha,Option.getD_some]
  simp only[ha,Option.get_some]at q3
  exact⟨by show mg x=some (.ref (clA K t c));rw[e];exact mgr ha,by show PySem.W.excIn K (clA K t c) _ _=true;rw[e];exact q3⟩
 ·have q:=b1 _ (lkm h)
  simp only[alB,Bool.and_eq_true,decide_eq_true_eq]at q
  obtain⟨⟨q1,q2⟩,q3⟩:=q
  obtain⟨a,ha⟩:=Option.isSome_iff_exists.1 q2
  have e:clA K t c=a:=by simp only[clA,q1,Option.bind_some,ha,Option.getD_some]
  split at q3
  ·rename_i d hd
   cases hk:d.k with
   |ini c' =>
    rw[hk]at q3
    simp only[Bool.and_eq_true,decide_eq_true_eq]at q3
    obtain⟨rfl,hn⟩:=q3
    obtain⟨dv,fd,r1,r2,r3⟩:=zcn F O hd
    simp only[At,hk]at r2
    simp only[DvP,hk]at r3
    subst r3
    obtain⟨r0,q',r4,r5,r6,r7,r8⟩:=r2
    have e2:q'=a:=by
     have:nmA K (cnm t c')=some q':=zbc r4
     simp only[cnm,q1,Option.getD_some,ha]at this
     exact(Option.some.inj this).symm
    subst e2
    rw[hn]at r5
    refine⟨by show mg x=some (.ref (clA K t c'));rw[e];exact mgr ha,_,fd,d.ps,?_,C i d _ fd hd r1,r1.binds r0⟩
    show Mk K (clA K t c') _
    rw[e]
    exact⟨r7,r5,r6,r8⟩
   |_=>rw[hk]at q3;cases q3
  ·cases q3
 ·have q:x∈t.bs:=by simpa [Tb.gs] using h
  have:=b2 x q
  simp only[decide_eq_true_eq]at this
  exact F.X _ _ this
 ·simp only[Tb.gs,List.any_eq_true]at h
  obtain⟨y',hy,e⟩:=h
  have:=zn0 e
  subst this
  have q:=b3 y hy
  simp only[yeP,Bool.and_eq_true,decide_eq_true_eq]at q
  exact⟨q.1.1.1.1.1,q.1.1.1.1.2,q.1.1.1.2,q.1.1.2,q.1.2,q.2⟩
 ·have q:(c,n)∈t.fl:=by simpa [Tb.gs] using h
  have q:=b4 _ q
  simp only[Bool.and_eq_true,Option.any_eq_true_iff_get,decide_eq_true_eq]at q
  obtain⟨q1,q2,q3⟩:=q
  obtain⟨a,ha⟩:=Option.isSome_iff_exists.1 q2
  simp only[ha,Option.get_some]at q3
  have e:clA K t c=a:=zfr ha q1
  show Cls K (clA K t c)/\yaf K (clA K t c) n
  rw[e]
  exact⟨zg4 q3.1,q3.2⟩
 ·have q:=b5 _ (lkm h)
  simp only[Bool.and_eq_true,Option.any_eq_true_iff_get,decide_eq_true_eq]at q
  obtain⟨q1,q2,q3,q4⟩:=q
  obtain⟨a,ha⟩:=Option.isSome_iff_exists.1 q2
  simp only[ha,Option.get_some]at q3
  have e:clA K t c=a:=zfr ha q1
  split at q4
  ·rename_i d hd
   simp only[Bool.and_eq_true,decide_eq_true_eq]at q4
   obtain⟨q4,hn⟩:=q4
   cases hk:d.k with
   |me c' =>
    rw[hk]at q4
    have q4:c'=c:=by simpa using q4
    subst q4
    obtain⟨dv,fd,r1,r2,r3⟩:=zcn F O hd
    simp only[At,hk]at r2
    simp only[DvP,hk]at r3
    subst r3
    obtain⟨r0,q',r4,r5,r6⟩:=r2
    have e2:q'=a:=Option.some.inj ((zbc r4).symm.trans ha)
    subst e2
    refine⟨by show Cls K (clA K t c');rw[e];exact zg4 q3,_,fd,d.ps,?_,C i d _ fd hd r1,r1.binds r0⟩
    show Meth K (clA K t c') n _
    rw[e,<- hn]
    exact⟨r5,r6,r1.kp⟩
   |_=>rw[hk]at q4;cases q4
  ·cases q4
 ·have q:=b6 _ (lkm h)
  have g:∀s j,D.lookup s=some j->∃d dv fd,t.tbl[j]?=some d/\yci K d dv (faA K t j) fd/\dv=.none/\ya4 d/\fd=fdA K t j/\d.ps=psA t j:=λs j hj=>by
   have q:=q _ (lkm hj)
   split at q
   ·rename_i d hd
    obtain⟨dv,fd,r1,r2,r3⟩:=zcn F O hd
    have hk:d.k=.fn:=by cases e:d.k <;> rw[e]at q <;> first|rfl|cases q
    simp only[At,hk]at r2
    simp only[DvP,hk]at r3
    obtain⟨oc,od,kV,doc,pm,an,cdv,ct,osl,_,lk,_⟩:=r1.ex
    exact⟨d,dv,fd,hd,r1,r3,r2.2,by simp only[fdA,lk],by simp only[psA,hd]⟩
   ·cases q
  refine⟨faA K t,fdA K t,psA t,⟨λs j hj=>?_,λs j hj=>?_,λs j hj=>?_⟩,F.Ml.get _ (lkm h)⟩
  ·obtain⟨d,dv,fd,h1,h2,h3,h4,h5,h6⟩:=g s j hj
   rw[<- h5,<- h6]
   exact C j d dv fd h1 h2
  ·obtain⟨d,dv,fd,h1,h2,h3,h4,h5,h6⟩:=g s j hj
   exact h2.kp
  ·obtain⟨d,dv,fd,h1,h2,h3,h4,h5,h6⟩:=g s j hj
   subst h3
   rw[<- h5,<- h6]
   exact h2.binds h4
theorem zih (F:Fact t w K mg)(O:∀d∈t.tbl,okT t d=true)(hT:∀i d,t.tbl[i]?=some d->T i=some d.fn):∀k,Fn2 t P w K mg base T k
 |0=>λi d dv fd _ _=>ziS
 |k+1=>λi d dv fd h R=>by
  have o:=O d (List.mem_of_getElem? h)
  simp only[okT,okD,Bool.and_eq_true,decide_eq_true_eq]at o
  obtain⟨⟨⟨⟨o1,o2⟩,o3⟩,o4⟩,_⟩:=o
  obtain⟨⟨y⟩,_⟩:=Option.isSome_iff_exists.1 o4
  exact R.ok (m:=2*k+1) (hT i d h) (zmV o1) o2 o3 λ_ _ _ _ _ _ hr=>y (2*k) _ _ ⟨rfl,rfl,rfl,hr,λ_=>⟨own1,λ_=>rfl,rfl⟩,ziB F O (zih F O hT k)⟩
noncomputable def ycI:Nat->(List Value->Prop)->Prop
 |0,P=>P []
 |n+1,P=>∀a,ycI n λus=>P (a::us)
theorem ycI.get:∀{n:Nat} {P:List Value->Prop},ycI n P->∀us,us.length=n->P us
 |0,P,h,[],_=>h
 |n+1,P,h,a::us,e=>(h a).get us (by simpa using e)
theorem kbP {i np:Nat}{ks:List Str}{sh:List (Option Int)}{d:Df}{ds:List Int}(hd:t.tbl[i]?=some d)(hk:d.k=.fd ds)(h1:ks.length=nKw sh)(h2:sh.length=(ds.drop (ds.length - sh.length)).length)
  (h3:((sh.zip (ds.drop (ds.length - sh.length))).all λp=>p.1.all λi=>decide (i=p.2))=true) (hp:0<d.ps.length)
  (h:∀(dT:Addr) (kV doc pm:Value) (an:Option Addr) (cdv ct:Value),ycI np λus=>ycI ks.length λws=>ycI ds.length λits =>
   ∃k,bindArgs (PySem.W.fnOf d.nm d.nm (yX d.st) (yS d.st) (yt d.st) (.ref dT) kV doc pm an cdv ct) ⟨us,ks.zip ws⟩=seqItems? (.ref dT) >>= k/\k (some its.toArray)=pure (d.ps.zip (us++yaY sh ws (its.drop (ds.length - sh.length))))):KbP t ((i,np,ks),sh):=by
 intro d' ds' e1 e2 K mg f fd D
 have e1:t.tbl[i]?=some d':=e1
 rw[hd]at e1
 cases e1
 rw[hk]at e2
 cases e2
 exact kbD D h1 h2 h3 (λdT kV doc pm an cdv ct us ws its z1 z2 z3=>(((h dT kV doc pm an cdv ct).get us z1).get ws z2).get its z3) hp
theorem all_mk2 {h:Heap}{fx:Addr}(X:K.In h)(G:h.Ns mainGlobals mg)(hfa:mg "law"=some (.ref fx))(R:ybF (ycD K (cnm t)) t.tbl)(B:ydB K t=true)(D:ybF (λp=>∀cl,GD K w mg cl p.1 p.2) t.dd)(Kb:ybF (KbP t) t.kb)(Ml:ybF (λp=>GDF K w mg (faA K t) p.1 p.2) t.ml)
  (O:t.tbl.all (okT t)=true) (hT:∀i d,t.tbl[i]?=some d->T i=some d.fn) {L:Nat} {st:Stmt} {N:List Str} {fn:IC.Fn} (hL:t.tbl[L]?=some ⟨"law","law","law",st,N,["_law_script"],fn,.fn⟩) (lvl:Nat) :
  ∃fd:FuncData,(∀(s:Shared) (v:Value),BindsTo s fd ⟨[v],[]⟩ [("_law_script",v)])/\∀base:Heap,K.In base->base.Ns mainGlobals mg->yax P w K mg base (CX1 P w) (2*lvl) fx fd ["_law_script"] (spX K (yc T lvl) L):=by
 have F:Fact t w K mg:=⟨λx u e=>by
  cases u with
  |none=>exact PySem.W.mg_none_of X G e
  |some v=>exact PySem.W.mg_of X G e,R,B,D,Kb,Ml⟩
 have O':=List.all_eq_true.1 O
 obtain⟨dv,fd,r1,r2,r3⟩:=zcn F O' hL
 have r3:dv=.none:=r3
 subst r3
 have r2:PySem.W.nsIn K mainGlobals "law"=some (some (.ref (faA K t L)))/\ya4 _:=r2
 have e:=Value.ref.inj (Option.some.inj (hfa.symm.trans (PySem.W.mg_of X G r2.1)))
 subst e
 refine⟨fd,λs v=>?_,λbase _ _=>(zih F O' hT lvl L _ _ fd hL r1).imp λ_ _ _ _ h=>h _⟩
 obtain⟨oc,od,kV,doc,pm,an,cdv,ct,osl,rfl,_⟩:=r1.ex
 exact .of_eq (r2.2 kV doc pm an cdv ct v)
end
end L2
namespace IC
open PySem
noncomputable def z7:PV:=(.tp true [(.int 0),(.int 1),(.int 0)])
noncomputable def zaq:PV:=(.int 10000000000000000000000000000000000000000)
noncomputable def zdO:PV:=(.tp true [(.str "h"),(.tp true [(.int 0),(.int 0),(.int 0),(.int 0)])])
noncomputable def zj0:PV:=(.tp true [(.str "turned"),(.str "bare")])
noncomputable def zhP:PV:=(.tp true [(.str "l"),(.tp true [(.int 0),(.int 0),(.int 0),(.int 0)])])
noncomputable def zc0:PV:=(.tp true [(.tp true [(.str "m"),(.tp true [(.int 0),(.int 0),(.int 0),(.int 0)])]),(.tp true [(.str "m"),(.tp true [(.int 1),(.int 0),(.int 0),(.int 0)])]),(.tp true [(.str "m"),(.tp true [(.int 2),(.int 0),(.int 0),(.int 0)])]),(.tp true [(.str "m"),(.tp true [(.int 3),(.int 0),(.int 0),(.int 0)])])])
noncomputable def zdY:PV:=(.int 2)
noncomputable def zcT:PV:=(.int 4000)
noncomputable def ze5:PV:=(.int 4000)
noncomputable def zen:PV:=(.int 20)
noncomputable def zdc:PV:=(.int 2)
noncomputable def zbN:PV:=(.int 200)
noncomputable def zgJ:PV:=(.tp true [(.str "z"),(.tp true [(.int 0),(.int 0),(.int 0),(.int 0)])])
noncomputable def zd8:PV:=(.tp true [(.str "o"),(.tp true [(.int 0),(.int 0),(.int 0),(.int 0)])])
noncomputable def zfx:PV:=(.tp true [(.str "sum"),(.str "difference"),(.str "compare"),(.str "both"),(.str "any"),(.str "odd"),(.str "product"),(.str "signed product"),(.str "quotient"),(.str "signed quotient")])
noncomputable def zcl:PV:=(.tp true [(.str "both"),(.str "any"),(.str "odd")])
noncomputable def zd4:PV:=(.tp true [(.str "s"),(.tp true [(.int 0),(.int 0),(.int 0),(.int 0)])])
noncomputable def zdi:PV:=(.tp true [(.str "left"),(.str "right"),(.str "down"),(.str "roll")])
noncomputable def zif:PV:=(.tp true [(.str "t"),(.tp true [(.int 0),(.int 0),(.int 0),(.int 0)])])
def zdk:List (Str×PV):=[(Str.ofString "set",(.tp true [(.str "cell"),(.str "figure")])),(Str.ofString "move",(.tp true [(.str "cell"),(.str "cell")])),(Str.ofString "bare",(.tp true [(.str "cell"),(.str "cell")])),(Str.ofString "sum",(.tp true [(.str "cell"),(.str "cell"),(.str "cell")])),(Str.ofString "less",(.tp true [(.str "cell"),(.str "cell"),(.str "cell")])),(Str.ofString "both",(.tp true [(.str "cell"),(.str "cell"),(.str "cell")])),(Str.ofString "any",(.tp true [(.str "cell"),(.str "cell"),(.str "cell")])),(Str.ofString "odd",(.tp true [(.str "cell"),(.str "cell"),(.str "cell")])),(Str.ofString "twice",(.tp true [(.str "cell"),(.str "cell")])),(Str.ofString "half",(.tp true [(.str "cell"),(.str "cell")])),(Str.ofString "times",(.tp true [(.str "cell"),(.str "cell"),(.str "cell"),(.str "cell")])),(Str.ofString "mark",(.tp true [(.str "figure")])),(Str.ofString "ask",(.tp true [(.str "cell")]))]
noncomputable def zkd:Fn:=⟨5,5,true,(.k (.ret (.tup (.k (.v 0) (.k (.tup (.k (.v 1) (.k (.v 2) (.k (.v 3) (.k (.v 4) .e))))) .e)))) .e)⟩
noncomputable def zjT:Fn:=⟨1,1,true,(.k (.ret (.blt .tuple (.k (.comp [none] (.n 0) (.seq (.v 0)) (.cst (.bl true)) (.tup (.k (.s "row") (.k (.v 0) .e)))) .e))) .e)⟩
noncomputable def zfq:Fn:=⟨3,3,true,(.k (.ret (.tup (.k (.tup (.k (.s "rounds") (.k (.v 0) (.k (.v 1) (.k (.v 2) .e))))) .e))) .e)⟩
noncomputable def zfj:Fn:=⟨5,5,true,(.k (.ret (.tup (.k (.s "slice") (.k (.v 0) (.k (.tup (.k (.i 0) (.k (.i 0) (.k (.i 0) (.k (.i 0) .e))))) (.k (.tup (.k (.v 1) (.k (.v 2) (.k (.v 3) (.k (.v 4) .e))))) .e)))))) .e)⟩
noncomputable def zke:Fn:=⟨6,6,true,(.k (.ret (.tup (.k (.v 0) (.k (.tup (.k (.i 0) (.k (.v 2) (.k (.i 0) (.k (.v 3) (.k (.v 4) (.k (.v 5) .e))))))) (.k (.v 1) .e))))) .e)⟩
def zb1:Fn:=⟨1,1,true,(.k (.ret (.tup (.k (.s "sum") (.k (.v 0) (.k (.cst zgJ) (.k (.cst zgJ) .e)))))) .e)⟩
def zae:Fn:=⟨1,1,true,(.k (.ret (.lst (.k (.tup (.k (.s "set") (.k (.v 0) (.k (.i 1) .e)))) (.k (.tup (.k (.s "less") (.k (.v 0) (.k (.v 0) (.k (.cst zgJ) .e))))) .e)))) .e)⟩
def zaL:Fn:=⟨3,4,true,(.k (.asg (.n 3) (.tup (.k (.s "any") (.k (.cst zd4) (.k (.cst zd4) (.k (.call 0 (yat (.k (.v 0) .e) (yE [.inr 0,.inl (.i 1),.inr 0,.inl (.v 1)]))) .e)))))) (.k (.ret (.bin .add (.bin .add (.call 1 (.k (.lst (.k (.tup (.k (.s "set") (.k (.cst zd4) (.k (.i 0) .e)))) .e)) .e)) (.call 2 (.k (.v 2) (.k (.tup .e) (.k (.call 1 (.k (.lst (.k (.v 3) .e)) .e)) .e))))) (.call 1 (.k (.lst (.k (.tup (.k (.s "ask") (.k (.cst zd4) .e))) .e)) .e)))) .e))⟩
def zao:Fn:=⟨2,3,true,(.k (.asg (.n 2) (.lst (.k (.tup (.k (.s "twice") (.k (.cst zif) (.k (.call 0 (yat (.k (.s "c") (.k (.bin .sub (.v 0) (.i 1)) .e)) (yE [.inr 0,.inr 0,.inl (.v 1)]))) .e)))) (.k (.call 5 (.k (.idx (.cst zc0) (.i 3)) .e)) .e)))) (.k (.ret (.bin .add (.call 7 (.k (.s "c") (.k (.i 0) (.k (.tup (.k (.v 0) (.k (.v 1) (.k (.i 0) .e)))) .e)))) (.call 1 (.k (.bin .add (.call 6 (.k (.idx (.cst zc0) (.i 2)) .e)) (.v 2)) .e)))) .e))⟩
def zZ:Fn:=⟨0,1,true,(.k (.asg (.n 0) (.bin .add (.call 7 (.k (.s "c") (.k (.i 1) (.k (.cst z7) .e)))) (.call 1 (.k (.lst (.k (.call 5 (.k (.idx (.cst zc0) (.i 1)) .e)) .e)) .e)))) (.k (.ret (.bin .add (.bin .add (.call 10 .e) (.v 0)) (.call 8 (.k (.i 0) (.k (.i 2) .e))))) .e))⟩
def zbp:Fn:=⟨0,3,true,(.k (.asg (.n 0) (.tup (.k (.call 4 (yat (.k (.i 1) (.k (.tup (.k (.call 3 (yat (.k (.s "c") .e) (yE [.inr 0,.inl (.i 1),.inr 0,.inl (.i 1)]))) .e)) .e)) (yE [.inr 0,.inr 0,.inr 0,.inr 0]))) (.k (.call 4 (yat (.k (.neg (.i 1)) (.k (.tup (.k (.call 3 (yat (.k (.s "a") .e) (yE [.inr 0,.inr 0,.inr 0,.inl (.i 1)]))) (.k (.call 3 (yat (.k (.s "b") .e) (yE [.inr 0,.inl (.i 1),.inr 0,.inr 0]))) .e))) .e)) (yE [.inr 0,.inr 0,.inr 0,.inr 0]))) .e)))) (.k (.asg (.n 1) (.call 1 (.k (.lst (.k (.tup (.k (.s "mark") (.k (.i 0) .e))) (.k (.tup (.k (.s "set") (.k (.cst zd8) (.k (.i 0) .e)))) .e))) .e))) (.k (.asg (.n 2) (.call 1 (.k (.lst (.k (.tup (.k (.s "move") (.k (.call 0 (yat (.k (.s "c") .e) (yE [.inr 0,.inl (.i 1),.inr 0,.inl (.i 1)]))) (.k (.cst zd8) .e)))) .e)) .e))) (.k (.ret (.call 2 (.k (.cst z7) (.k (.v 0) (.k (.bin .add (.bin .add (.v 1) (.call 11 .e)) (.v 2)) .e))))) .e))))⟩
def zaA:Fn:=⟨0,3,true,(.k (.asg (.n 0) (.call 0 (yat (.k (.s "c") .e) (yE [.inr 0,.inl (.i 1),.inl (.i 1),.inr 0])))) (.k (.asg (.n 1) (.tup (.k (.s "slice") (.k (.s "b") (.k (.tup (.k (.i 0) (.k (.i 1) (.k (.i 0) (.k (.i 0) .e))))) (.k (.tup (.k (.i 1) (.k (.i 1) (.k (.i 0) (.k (.i 0) .e))))) .e)))))) (.k (.asg (.n 2) (.tup (.k (.call 4 (yat (.k (.i 1) (.k (.tup (.k (.call 3 (yat (.k (.s "c") .e) (yE [.inr 0,.inl (.i 1),.inr 0,.inl (.i 1)]))) .e)) .e)) (yE [.inr 0,.inr 0,.inr 0,.inr 0]))) (.k (.call 4 (yat (.k (.i 1) (.k (.tup (.k (.call 3 (yat (.k (.s "o") (.k (.i 1) .e)) (yE [.inr 0,.inr 0,.inr 0]))) .e)) .e)) (yE [.inr 0,.inl (.i 1),.inl (.i 1),.inr 0]))) (.k (.call 4 (yat (.k (.neg (.i 1)) (.k (.tup (.k (.call 3 (yat (.k (.s "a") .e) (yE [.inr 0,.inr 0,.inr 0,.inl (.i 1)]))) (.k (.call 3 (yat (.k (.s "b") .e) (yE [.inr 0,.inl (.i 1),.inr 0,.inr 0]))) .e))) .e)) (yE [.inr 0,.inr 0,.inr 0,.inr 0]))) (.k (.call 4 (yat (.k (.neg (.i 1)) (.k (.tup (.k (.call 3 (yat (.k (.s "a") .e) (yE [.inr 0,.inr 0,.inl (.i 1),.inr 0]))) (.k (.v 1) .e))) .e)) (yE [.inr 0,.inl (.i 1),.inr 0,.inr 0]))) .e)))))) (.k (.ret (.call 2 (.k (.cst z7) (.k (.v 2) (.k (.call 1 (.k (.lst (.k (.tup (.k (.s "times") (.k (.cst zhP) (.k (.cst zdO) (.k (.call 0 (yat (.k (.s "a") .e) (yE [.inr 0,.inr 0,.inl (.i 1),.inr 0]))) (.k (.call 0 (yat (.k (.s "b") .e) (yE [.inr 0,.inl (.i 1),.inr 0,.inr 0]))) .e)))))) (.k (.tup (.k (.s "sum") (.k (.cst zhP) (.k (.cst zhP) (.k (.cst zd8) .e))))) (.k (.tup (.k (.s "sum") (.k (.cst zdO) (.k (.cst zdO) (.k (.cst zgJ) .e))))) (.k (.tup (.k (.s "sum") (.k (.v 0) (.k (.v 0) (.k (.cst zhP) .e))))) (.k (.tup (.k (.s "sum") (.k (.cst zd8) (.k (.cst zdO) (.k (.cst zgJ) .e))))) .e)))))) .e)) .e))))) .e))))⟩
noncomputable def zcp:Fn:=⟨3,3,true,(.k (.ret (.and (.isi (.v 0) [.int]) (.and (.not (.isi (.v 0) [.bool])) (.chain .le .le (.v 1) (.v 0) (.v 2))))) .e)⟩
noncomputable def zbL:Fn:=⟨1,1,true,(.k (.ret (.and (.isi (.v 0) [.str]) (.and (.cmp .eq (.blt .len (.k (.v 0) .e)) (.i 1)) (.chain .le .le (.s "a") (.v 0) (.s "z"))))) .e)⟩
def zcG:Fn:=⟨2,2,true,(.k (.ite (.or (.not (.isi (.v 0) [.tuple])) (.cmp .ne (.blt .len (.k (.v 0) .e)) (.v 1))) (.k .nope .e) .e) (.k (.ret (.blt .all (.k (.comp [none] (.n 0) (.seq (.v 0)) (.cst (.bl true)) (.call 12 (.k (.v 0) (.k (.neg (.cst zbN)) (.k (.cst zbN) .e))))) .e))) .e))⟩
noncomputable def zfz:Fn:=⟨1,1,true,(.k (.ret (.call 17 (.k (.v 0) (.k (.cst (.bl false)) .e)))) .e)⟩
noncomputable def zaM:Fn:=⟨1,1,true,(.k (.ret (.call 17 (.k (.v 0) (.k (.cst (.bl true)) .e)))) .e)⟩
def zcx:Fn:=⟨2,4,true,(.k (.ite (.or (.not (.call 18 (.k (.v 0) .e))) (.cmp .ne (.blt .len (.k (.v 0) .e)) (.bin .add (.blt .len (.k (.dix zdk (.idx (.v 0) (.i 0))) .e)) (.i 1)))) (.k (.ret (.cst (.bl false))) .e) .e) (.k (.for (.t [2,3]) (.zip (.dix zdk (.idx (.v 0) (.i 0))) (.slc (.v 0) (.i 1) (.cst .non))) (.k (.ite (.not (.call 19 (.k (.v 2) (.k (.v 3) (.k (.v 1) .e))))) (.k (.ret (.cst (.bl false))) .e) .e) .e)) (.k (.ret (.or (.cmp .ne (.idx (.v 0) (.i 0)) (.s "times")) (.cmp .ne (.idx (.v 0) (.i 1)) (.idx (.v 0) (.i 2))))) .e)))⟩
def zcs:Fn:=⟨1,1,true,(.k (.ret (.and (.isi (.v 0) [.tuple]) (.and (.cmp .gt (.blt .len (.k (.v 0) .e)) (.i 0)) (.and (.isi (.idx (.v 0) (.i 0)) [.str]) (.din (.idx (.v 0) (.i 0)) zdk))))) .e)⟩
noncomputable def zbj:Fn:=⟨3,3,true,(.k (.ite (.cmp .eq (.v 0) (.s "figure")) (.k (.ret (.call 12 (.k (.v 1) (.k (.i 0) (.k (.i 1) .e))))) .e) .e) (.k (.ret (.ite (.v 2) (.call 21 (.k (.v 1) .e)) (.call 20 (.k (.v 1) .e)))) .e))⟩
noncomputable def zdC:Fn:=⟨1,1,true,(.k (.ret (.and (.call 22 (.k (.v 0) .e)) (.call 12 (.k (.idx (.v 0) (.i 1)) (.k (.i 0) (.k (.i 99) .e)))))) .e)⟩
noncomputable def zas:Fn:=⟨1,1,true,(.k (.ret (.and (.call 22 (.k (.v 0) .e)) (.call 14 (.k (.idx (.v 0) (.i 1)) (.k (.i 4) .e))))) .e)⟩
noncomputable def zaH:Fn:=⟨1,1,true,(.k (.ret (.and (.isi (.v 0) [.tuple]) (.and (.cmp .eq (.blt .len (.k (.v 0) .e)) (.i 2)) (.call 13 (.k (.idx (.v 0) (.i 0)) .e))))) .e)⟩
def zaF:Fn:=⟨1,1,true,(.k (.ret (.and (.isi (.v 0) [.tuple]) (.and (.cmp .le (.blt .len (.k (.v 0) .e)) (.cst zen)) (.blt .all (.k (.comp [none] (.n 0) (.seq (.v 0)) (.cst (.bl true)) (.call 25 (.k (.v 0) .e))) .e))))) .e)⟩
noncomputable def zcF:Fn:=⟨4,4,true,(.k (.ret (.bin .add (.bin .add (.bin .add (.idx (.v 0) (.i 0)) (.bin .mul (.idx (.v 0) (.i 1)) (.v 2))) (.bin .mul (.idx (.v 0) (.i 2)) (.v 3))) (.bin .mul (.idx (.v 0) (.i 3)) (.v 1)))) .e)⟩
def zd6:Fn:=⟨1,4,true,(.k (.ite (.or (.not (.isi (.v 0) [.tuple])) (.cmp .ne (.blt .len (.k (.v 0) .e)) (.i 3))) (.k (.ret (.cst (.bl false))) .e) .e) (.k (.asg (.t [1,2,3]) (.v 0)) (.k (.ret (.and (.call 12 (.k (.v 1) (.k (.bin .sub (.i 1) (.cst zaq)) (.k (.bin .sub (.cst zaq) (.i 1)) .e)))) (.and (.call 14 (.k (.v 2) (.k (.i 6) .e))) (.call 26 (.k (.v 3) .e))))) .e)))⟩
def zbo:Fn:=⟨1,1,true,(.k (.ret (.and (.isi (.v 0) [.tuple]) (.and (.cmp .le (.blt .len (.k (.v 0) .e)) (.cst zdc)) (.blt .all (.k (.comp [none] (.n 0) (.seq (.v 0)) (.cst (.bl true)) (.call 27 (.k (.v 0) .e))) .e))))) .e)⟩
noncomputable def zcB:Fn:=⟨1,1,true,(.k (.ite (.or (.not (.isi (.v 0) [.tuple])) (.cmp .eq (.blt .len (.k (.v 0) .e)) (.i 0))) (.k (.ret (.cst (.bl false))) .e) .e) (.k (.ite (.cmp .eq (.idx (.v 0) (.i 0)) (.s "mark")) (.k (.ret (.cmp .eq (.blt .len (.k (.v 0) .e)) (.i 1))) .e) .e) (.k (.ite (.or (.cmp .ne (.idx (.v 0) (.i 0)) (.s "slice")) (.or (.cmp .ne (.blt .len (.k (.v 0) .e)) (.i 4)) (.not (.call 13 (.k (.idx (.v 0) (.i 1)) .e))))) (.k (.ret (.cst (.bl false))) .e) .e) (.k (.ret (.and (.call 14 (.k (.idx (.v 0) (.i 2)) (.k (.i 4) .e))) (.call 14 (.k (.idx (.v 0) (.i 3)) (.k (.i 4) .e))))) .e))))⟩
noncomputable def zQ:Fn:=⟨3,3,false,(.k (.sfl 20 (.v 0) (Str.ofString "w") (.v 1)) (.k (.sfl 20 (.v 0) (Str.ofString "n") (.v 2)) (.k (.sfl 20 (.v 0) (Str.ofString "steps") (.newl .e)) (.k (.sfl 20 (.v 0) (Str.ofString "rows") (.i 0)) (.k (.sfl 20 (.v 0) (Str.ofString "rounds") (.i 0)) .e)))))⟩
noncomputable def zR:Fn:=⟨3,4,false,(.k (.for (.n 3) (.seq (.v 1)) (.k (.ite (.cmp .eq (.idx (.v 3) (.i 0)) (.s "row")) (.k (.expr (.mcl 20 32 (Str.ofString "add_row") (.v 0) (.k (.idx (.v 3) (.i 1)) (.k (.v 2) .e)))) .e) (.k (.expr (.mcl 20 30 (Str.ofString "go_rounds") (.v 0) (.k (.v 3) (.k (.v 2) .e)))) .e)) .e)) .e)⟩
noncomputable def zK:Fn:=⟨3,5,false,(.k (.asg (.n 3) (.blt .max (.k (.i 0) (.k (.mcl 20 31 (Str.ofString "count_of") (.v 0) (.k (.idx (.v 1) (.i 1)) .e)) .e)))) (.k (.for (.n 4) (.range1 (.v 3)) (.k (.expr (.mcl 20 34 (Str.ofString "add_asked") (.v 0) (.k (.idx (.v 1) (.i 2)) (.k (.bin .add (.v 2) (.tup (.k (.v 4) .e))) .e)))) (.k (.expr (.mcl 20 33 (Str.ofString "add_round") (.v 0) .e)) (.k (.expr (.mcl 20 29 (Str.ofString "go_parts") (.v 0) (.k (.idx (.v 1) (.i 3)) (.k (.bin .add (.v 2) (.tup (.k (.v 4) .e))) .e)))) .e)))) (.k (.expr (.mcl 20 34 (Str.ofString "add_asked") (.v 0) (.k (.idx (.v 1) (.i 2)) (.k (.bin .add (.v 2) (.tup (.k (.v 3) .e))) .e)))) .e)))⟩
noncomputable def zP:Fn:=⟨2,5,false,(.k (.asg (.t [2,3,4]) (.v 1)) (.k (.ret (.bin .add (.bin .add (.v 2) (.bin .mul (.v 3) (.fld 20 (.v 0) (Str.ofString "n")))) (.bin .mul (.bin .mul (.v 4) (.fld 20 (.v 0) (Str.ofString "w"))) (.fld 20 (.v 0) (Str.ofString "n"))))) .e))⟩
def zT:Fn:=⟨3,6,false,(.k (.asg (.t [3,4]) (.call 40 (.k (.v 2) .e))) (.k (.asg (.n 5) (.blt .tuple (.k (.comp [none,some 3,some 4,some 0] (.n 0) (.seq (.v 1)) (.cst (.bl true)) (.call 41 (.k (.v 0) (.k (.fld 20 (.v 3) (Str.ofString "n")) (.k (.v 1) (.k (.v 2) .e)))))) .e))) (.k (.sfl 20 (.v 0) (Str.ofString "rows") (.bin .add (.fld 20 (.v 0) (Str.ofString "rows")) (.i 1))) (.k (.ite (.or (.not (.call 15 (.k (.v 5) .e))) (.cmp .gt (.fld 20 (.v 0) (Str.ofString "rows")) (.cst ze5))) (.k .nope .e) .e) (.k (.expr (.mth .append (.fld 20 (.v 0) (Str.ofString "steps")) (.k (.tup (.k (.s "row") (.k (.v 5) .e))) .e))) .e)))))⟩
def zL:Fn:=⟨1,1,false,(.k (.sfl 20 (.v 0) (Str.ofString "rounds") (.bin .add (.fld 20 (.v 0) (Str.ofString "rounds")) (.i 1))) (.k (.ite (.cmp .gt (.fld 20 (.v 0) (Str.ofString "rounds")) (.cst zcT)) (.k .nope .e) .e) .e))⟩
noncomputable def zI:Fn:=⟨3,5,false,(.k (.asg (.t [3,4]) (.call 40 (.k (.v 2) .e))) (.k (.expr (.mth .append (.fld 20 (.v 0) (Str.ofString "steps")) (.k (.tup (.k (.s "asked") (.k (.v 1) (.k (.v 3) (.k (.v 4) .e))))) .e))) .e))⟩
def zbl:Fn:=⟨1,1,true,(.k (.ret (.call 38 (.k (.v 0) (.k (.cst zdY) .e)))) .e)⟩
noncomputable def za8:Fn:=⟨3,3,true,(.k (.ret (.blt .tuple (.k (.comp [none] (.n 0) (.seq (.call 37 (.k (.v 0) (.k (.v 1) (.k (.v 2) .e))))) (.cmp .eq (.idx (.v 0) (.i 0)) (.s "row")) (.idx (.v 0) (.i 1))) .e))) .e)⟩
noncomputable def zcq:Fn:=⟨3,4,true,(.k (.ite (.not (.call 35 (.k (.v 0) .e))) (.k .nope .e) .e) (.k (.asg (.n 3) (.new 20 28 (.k (.v 1) (.k (.v 2) .e)))) (.k (.expr (.mcl 20 29 (Str.ofString "go_parts") (.v 3) (.k (.v 0) (.k (.tup .e) .e)))) (.k (.ret (.frz (.fld 20 (.v 3) (Str.ofString "steps")))) .e))))⟩
noncomputable def zb3:Fn:=⟨2,2,true,(.k (.ret (.and (.isi (.v 0) [.tuple]) (.blt .all (.k (.comp [none,some 1] (.n 0) (.seq (.v 0)) (.cst (.bl true)) (.call 39 (.k (.v 0) (.k (.v 1) .e)))) .e)))) .e)⟩
noncomputable def zdK:Fn:=⟨2,2,true,(.k (.ite (.or (.not (.isi (.v 0) [.tuple])) (.cmp .eq (.blt .len (.k (.v 0) .e)) (.i 0))) (.k (.ret (.cst (.bl false))) .e) .e) (.k (.ite (.cmp .eq (.idx (.v 0) (.i 0)) (.s "row")) (.k (.ret (.and (.cmp .eq (.blt .len (.k (.v 0) .e)) (.i 2)) (.call 16 (.k (.idx (.v 0) (.i 1)) .e)))) .e) .e) (.k (.ite (.or (.cmp .ne (.idx (.v 0) (.i 0)) (.s "rounds")) (.or (.cmp .ne (.blt .len (.k (.v 0) .e)) (.i 4)) (.cmp .eq (.v 1) (.i 0)))) (.k (.ret (.cst (.bl false))) .e) .e) (.k (.ret (.and (.call 14 (.k (.idx (.v 0) (.i 1)) (.k (.i 3) .e))) (.and (.call 23 (.k (.idx (.v 0) (.i 2)) .e)) (.call 38 (.k (.idx (.v 0) (.i 3)) (.k (.bin .sub (.v 1) (.i 1)) .e)))))) .e))))⟩
noncomputable def zb8:Fn:=⟨1,1,true,(.k (.ret (.slc (.bin .add (.v 0) (.tup (.k (.i 0) (.k (.i 0) .e)))) (.cst .non) (.i 2))) .e)⟩
noncomputable def zfQ:Fn:=⟨4,4,true,(.k (.ite (.not (.isi (.v 0) [.tuple])) (.k (.ret (.v 0)) .e) .e) (.k (.ret (.tup (.k (.idx (.v 0) (.i 0)) (.k (.call 24 (.k (.idx (.v 0) (.i 1)) (.k (.v 1) (.k (.v 2) (.k (.v 3) .e))))) .e)))) .e))⟩
def zdT:Fn:=⟨1,1,true,(.k (.ite (.not (.call 43 (.k (.v 0) .e))) (.k .nope .e) .e) (.k (.ite (.cmp .eq (.idx (.v 0) (.i 0)) (.s "led")) (.k .nope .e) .e) (.k (.ite (.cmp .isin (.idx (.v 0) (.i 0)) (.cst zdi)) (.k .nope .e) .e) (.k (.ite (.cmp .isin (.idx (.v 0) (.i 0)) (.cst zcl)) (.k .nope .e) .e) (.k (.ret (.call 44 (.k (.idx (.v 0) (.i 0)) .e))) .e)))))⟩
def zdr:Fn:=⟨1,1,true,(.k (.ite (.or (.not (.isi (.v 0) [.tuple])) (.cmp .eq (.blt .len (.k (.v 0) .e)) (.i 0))) (.k .nope .e) .e) (.k (.ite (.cmp .eq (.idx (.v 0) (.i 0)) (.s "led")) (.k .nope .e) .e) (.k (.ite (.cmp .isin (.idx (.v 0) (.i 0)) (.cst zdi)) (.k .nope .e) .e) (.k (.ret (.and (.cmp .eq (.blt .len (.k (.v 0) .e)) (.i 1)) (.or (.cmp .isin (.idx (.v 0) (.i 0)) (.cst zfx)) (.cmp .isin (.idx (.v 0) (.i 0)) (.cst zj0))))) .e))))⟩
noncomputable def zaf:Fn:=⟨1,1,true,(.k (.ite (.cmp .eq (.v 0) (.s "sum")) (.k .nope .e) .e) (.k (.ite (.cmp .eq (.v 0) (.s "difference")) (.k .nope .e) .e) (.k (.ite (.cmp .eq (.v 0) (.s "turned")) (.k .nope .e) .e) (.k (.ite (.cmp .eq (.v 0) (.s "compare")) (.k .nope .e) .e) (.k (.ite (.cmp .eq (.v 0) (.s "bare")) (.k .nope .e) .e) (.k (.ite (.cmp .eq (.v 0) (.s "product")) (.k (.ret (.call 9 .e)) .e) .e) (.k .nope (.k .nope (.k .nope .e)))))))))⟩
noncomputable def zbA:Fn:=⟨1,1,false,(.k (.ret (.newl (.k (.slc (.v 0) (.cst .non) (.i 63)) (.k (.i 0) (.k (.i 0) (.k (.cst (.bl false)) .e)))))) .e)⟩
noncomputable def yao:Fn:=⟨1,8,true,(.k (.asg (.n 1) (.tup (.k (.i 2147483647) (.k (.i 2147483629) (.k (.i 2147483587) (.k (.i 2147483579) (.k (.i 2147483563) .e))))))) (.k (.asg (.n 2) (.i 0)) (.k (.for (.t [3,4]) (.enum (.v 1)) (.k (.asg (.n 5) (.bin .add (.v 0) (.idx (.tup (.k (.i 11) (.k (.i 101) (.k (.i 1009) (.k (.i 10007) (.k (.i 100003) .e)))))) (.v 3)))) (.k (.asg (.n 5) (.bin .mod (.bin .mul (.v 5) (.bin .add (.i 48271) (.bin .mul (.i 2) (.v 3)))) (.v 4))) (.k (.asg (.n 6) (.bin .mod (.bin .mul (.v 5) (.v 5)) (.v 4))) (.k (.asg (.n 7) (.bin .mod (.bin .mul (.bin .mod (.bin .mul (.v 6) (.v 6)) (.v 4)) (.v 5)) (.v 4))) (.k (.asg (.n 2) (.bin .add (.bin .mul (.v 2) (.v 4)) (.v 7))) .e)))))) (.k (.ret (.v 2)) .e))))⟩
noncomputable def yab:Fn:=⟨1,4,false,(.k (.asg (.t [1,2]) (.tup (.k (.idx (.v 0) (.i 0)) (.k (.idx (.v 0) (.i 1)) .e)))) (.k (.asg (.n 3) (.bin .add (.bin .mul (.i 31) (.v 2)) (.i 7))) (.k (.ite (.cmp .gt (.blt .len (.k (.v 1) .e)) (.i 0)) (.k (.asg (.n 3) (.bin .mul (.i 104729) (.bin .fdiv (.v 2) (.blt .len (.k (.v 1) .e))))) (.k (.asg (.n 3) (.bin .add (.v 3) (.idx (.v 1) (.bin .mod (.v 2) (.blt .len (.k (.v 1) .e)))))) .e)) .e) (.k (.six (.v 0) (.i 1) (.bin .add (.v 2) (.i 1))) (.k (.six (.v 0) (.i 3) (.or (.cmp .ge (.v 2) (.blt .len (.k (.v 1) .e))) (.cmp .lt (.v 3) (.bin .pow (.i 10) (.i 18))))) (.k (.ite (.idx (.v 0) (.i 3)) (.k (.six (.v 0) (.i 2) (.call 46 (.k (.v 3) .e))) .e) (.k (.six (.v 0) (.i 2) (.bin .sub (.v 3) (.bin .pow (.i 10) (.i 18)))) .e)) .e))))))⟩
noncomputable def yR:Fn:=⟨2,4,false,(.k (.asg (.n 2) (.i 0)) (.k (.while (.and (.cmp .lt (.v 2) (.i 64)) (.or (.cmp .eq (.idx (.v 0) (.i 2)) (.i 0)) (.and (.idx (.v 0) (.i 3)) (.cmp .lt (.idx (.v 0) (.i 2)) (.bin .mul (.v 1) (.i 4096)))))) (.k (.expr (.call 47 (.k (.v 0) .e))) (.k (.aug 2 .add (.i 1)) (.k (.ite (.and (.idx (.v 0) (.i 3)) (.cmp .lt (.idx (.v 0) (.i 2)) (.bin .mul (.v 1) (.i 4096)))) (.k (.six (.v 0) (.i 2) (.bin .add (.idx (.v 0) (.i 2)) (.bin .mul (.bin .mul (.v 1) (.i 4096)) (.bin .add (.i 1) (.bin .mod (.idx (.v 0) (.i 2)) (.i 4093)))))) .e) .e) .e)))) (.k (.asg (.n 3) (.bin .mod (.idx (.v 0) (.i 2)) (.v 1))) (.k (.six (.v 0) (.i 2) (.bin .fdiv (.idx (.v 0) (.i 2)) (.v 1))) (.k (.ret (.v 3)) .e)))))⟩
noncomputable def yM:Fn:=⟨3,13,false,(.k (.asg (.n 3) (.call 48 (.k (.v 0) (.k (.i 12) .e)))) (.k (.asg (.n 4) (.i 1)) (.k (.for (.n 5) (.range1 (.bin .mul (.v 1) (.v 2))) (.k (.asg (.n 4) (.bin .mul (.i 2) (.v 4))) .e)) (.k (.asg (.n 6) (.tup (.k (.i 0) (.k (.i 1) (.k (.bin .sub (.v 4) (.i 1)) (.k (.bin .fdiv (.v 4) (.i 2)) (.k (.bin .sub (.bin .fdiv (.v 4) (.i 2)) (.i 1)) (.k (.bin .sub (.v 4) (.i 2)) .e)))))))) (.k (.ite (.cmp .lt (.v 3) (.i 6)) (.k (.ret (.idx (.v 6) (.v 3))) .e) .e) (.k (.asg (.n 7) (.call 48 (.k (.v 0) (.k (.v 4) .e)))) (.k (.ite (.cmp .eq (.v 3) (.i 6)) (.k (.asg (.n 8) (.i 1)) (.k (.for (.n 5) (.range1 (.call 48 (.k (.v 0) (.k (.bin .mul (.v 1) (.v 2)) .e)))) (.k (.asg (.n 8) (.bin .mul (.i 2) (.v 8))) .e)) (.k (.ret (.bin .mul (.bin .fdiv (.v 7) (.v 8)) (.v 8))) .e))) .e) (.k (.ite (.cmp .eq (.v 3) (.i 7)) (.k (.asg (.n 8) (.i 1)) (.k (.for (.n 5) (.range1 (.call 48 (.k (.v 0) (.k (.bin .mul (.v 1) (.v 2)) .e)))) (.k (.asg (.n 8) (.bin .mul (.i 2) (.v 8))) .e)) (.k (.ret (.bin .sub (.v 4) (.v 8))) .e))) .e) (.k (.ite (.cmp .gt (.v 3) (.i 9)) (.k (.ret (.v 7)) .e) .e) (.k (.asg (.n 9) (.i 1)) (.k (.for (.n 5) (.range1 (.v 1)) (.k (.asg (.n 9) (.bin .mul (.i 2) (.v 9))) .e)) (.k (.asg (.n 10) (.i 0)) (.k (.for (.n 5) (.range1 (.v 2)) (.k (.asg (.n 11) (.bin .mod (.bin .fdiv (.v 7) (.bin .add (.v 5) (.i 1))) (.v 9))) (.k (.asg (.n 12) (.tup (.k (.i 0) (.k (.i 1) (.k (.bin .sub (.v 9) (.i 1)) (.k (.bin .fdiv (.v 9) (.i 2)) (.k (.v 11) .e))))))) (.k (.asg (.n 10) (.bin .add (.bin .mul (.v 10) (.v 9)) (.idx (.v 12) (.call 48 (.k (.v 0) (.k (.i 5) .e)))))) .e)))) (.k (.ret (.v 10)) .e))))))))))))))⟩
noncomputable def zaY:Fn:=⟨1,3,true,(.k (.asg (.n 1) (.i 1)) (.k (.for (.n 2) (.range1 (.v 0)) (.k (.asg (.n 1) (.bin .mul (.i 2) (.v 1))) .e)) (.k (.ret (.v 1)) .e)))⟩
noncomputable def zbw:Fn:=⟨3,6,true,(.k (.asg (.n 3) (.call 50 (.k (.v 1) .e))) (.k (.asg (.n 4) (.newl .e)) (.k (.for (.n 5) (.range1 (.v 2)) (.k (.expr (.mth .append (.v 4) (.k (.bin .mod (.v 0) (.v 3)) .e))) (.k (.asg (.n 0) (.bin .fdiv (.v 0) (.v 3))) .e))) (.k (.ret (.blt .tuple (.k (.v 4) .e))) .e))))⟩
noncomputable def zfV:Fn:=⟨1,1,true,(.k (.ret (.and (.isi (.v 0) [.int]) (.not (.isi (.v 0) [.bool])))) .e)⟩
noncomputable def zdt:Fn:=⟨3,3,true,(.k (.ite (.or (.not (.isi (.v 0) [.tuple])) (.cmp .ne (.blt .len (.k (.v 0) .e)) (.v 1))) (.k .nope .e) .e) (.k (.ret (.blt .all (.k (.comp [none,some 2] (.n 0) (.seq (.v 0)) (.cst (.bl true)) (.and (.call 52 (.k (.v 0) .e)) (.chain .le .le (.bin .sub (.i 0) (.v 1)) (.v 0) (.v 1)))) .e))) .e))⟩
noncomputable def zdZ:Fn:=⟨1,1,true,(.k (.ret (.and (.isi (.v 0) [.str]) (.and (.cmp .eq (.blt .len (.k (.v 0) .e)) (.i 1)) (.cmp .isin (.v 0) (.s "abcdefghijklmnopqrstuvwxyz"))))) .e)⟩
noncomputable def zax:Fn:=⟨1,1,true,(.k (.ret (.and (.isi (.v 0) [.tuple]) (.and (.cmp .eq (.blt .len (.k (.v 0) .e)) (.i 2)) (.and (.call 54 (.k (.idx (.v 0) (.i 0)) .e)) (.call 53 (.k (.idx (.v 0) (.i 1)) (.k (.i 4) (.k (.i 200) .e)))))))) .e)⟩
def zap:Fn:=⟨1,2,true,(.k (.ite (.or (.not (.isi (.v 0) [.tuple])) (.or (.cmp .lt (.blt .len (.k (.v 0) .e)) (.i 2)) (.not (.isi (.idx (.v 0) (.i 0)) [.str])))) (.k (.ret (.cst (.bl false))) .e) .e) (.k (.ite (.cmp .eq (.idx (.v 0) (.i 0)) (.s "mark")) (.k (.ret (.and (.cmp .eq (.blt .len (.k (.v 0) .e)) (.i 2)) (.and (.call 52 (.k (.idx (.v 0) (.i 1)) .e)) (.cmp .isin (.idx (.v 0) (.i 1)) (.tup (.k (.i 0) (.k (.i 1) .e))))))) .e) .e) (.k (.ite (.cmp .eq (.idx (.v 0) (.i 0)) (.s "ask")) (.k (.ret (.and (.cmp .eq (.blt .len (.k (.v 0) .e)) (.i 2)) (.call 55 (.k (.idx (.v 0) (.i 1)) .e)))) .e) .e) (.k (.ite (.cmp .eq (.idx (.v 0) (.i 0)) (.s "set")) (.k (.ret (.and (.cmp .eq (.blt .len (.k (.v 0) .e)) (.i 3)) (.and (.call 55 (.k (.idx (.v 0) (.i 1)) .e)) (.and (.call 52 (.k (.idx (.v 0) (.i 2)) .e)) (.cmp .isin (.idx (.v 0) (.i 2)) (.tup (.k (.i 0) (.k (.i 1) .e)))))))) .e) .e) (.k (.asg (.n 1) (.newd [("move",3),("bare",3),("twice",3),("half",3),("sum",4),("less",4),("both",4),("any",4),("odd",4)])) (.k (.dput (.v 1) (.s "times") (.i 5)) (.k (.ite (.or (.cmp .ne (.mth .get (.v 1) (.k (.idx (.v 0) (.i 0)) (.k (.i 0) .e))) (.blt .len (.k (.v 0) .e))) (.not (.blt .all (.k (.comp [none] (.n 0) (.seq (.slc (.v 0) (.i 1) (.cst .non))) (.cst (.bl true)) (.call 55 (.k (.v 0) .e))) .e)))) (.k (.ret (.cst (.bl false))) .e) .e) (.k (.ret (.or (.cmp .ne (.idx (.v 0) (.i 0)) (.s "times")) (.cmp .ne (.idx (.v 0) (.i 1)) (.idx (.v 0) (.i 2))))) .e))))))))⟩
noncomputable def zfI:Fn:=⟨1,1,true,(.k (.ite (.cmp .eq (.v 0) (.tup (.k (.s "mark") .e))) (.k (.ret (.cst (.bl true))) .e) .e) (.k (.ite (.or (.not (.isi (.v 0) [.tuple])) (.or (.cmp .ne (.blt .len (.k (.v 0) .e)) (.i 4)) (.or (.cmp .ne (.idx (.v 0) (.i 0)) (.s "slice")) (.not (.call 54 (.k (.idx (.v 0) (.i 1)) .e)))))) (.k (.ret (.cst (.bl false))) .e) .e) (.k (.ret (.and (.call 53 (.k (.idx (.v 0) (.i 2)) (.k (.i 4) (.k (.i 200) .e)))) (.call 53 (.k (.idx (.v 0) (.i 3)) (.k (.i 4) (.k (.i 200) .e)))))) .e)))⟩
noncomputable def zan:Fn:=⟨1,2,true,(.k (.ite (.or (.not (.isi (.v 0) [.tuple])) (.cmp .gt (.blt .len (.k (.v 0) .e)) (.i 20))) (.k (.ret (.cst (.bl false))) .e) .e) (.k (.for (.n 1) (.seq (.v 0)) (.k (.ite (.or (.not (.isi (.v 1) [.tuple])) (.or (.cmp .ne (.blt .len (.k (.v 1) .e)) (.i 3)) (.not (.call 53 (.k (.idx (.v 1) (.i 1)) (.k (.i 6) (.k (.i 200) .e))))))) (.k (.ret (.cst (.bl false))) .e) .e) (.k (.ite (.or (.not (.call 52 (.k (.idx (.v 1) (.i 0)) .e))) (.or (.cmp .ge (.blt .abs (.k (.idx (.v 1) (.i 0)) .e)) (.bin .pow (.i 10) (.i 40))) (.not (.isi (.idx (.v 1) (.i 2)) [.tuple])))) (.k (.ret (.cst (.bl false))) .e) .e) (.k (.ite (.or (.cmp .gt (.blt .len (.k (.idx (.v 1) (.i 2)) .e)) (.i 2)) (.not (.blt .all (.k (.comp [none] (.n 0) (.seq (.idx (.v 1) (.i 2))) (.cst (.bl true)) (.call 57 (.k (.v 0) .e))) .e)))) (.k (.ret (.cst (.bl false))) .e) .e) .e)))) (.k (.ret (.cst (.bl true))) .e)))⟩
noncomputable def zib:Fn:=⟨2,2,true,(.k (.ite (.or (.not (.isi (.v 0) [.tuple])) (.cmp .lt (.blt .len (.k (.v 0) .e)) (.i 2))) (.k (.ret (.cst (.bl false))) .e) .e) (.k (.ite (.cmp .eq (.idx (.v 0) (.i 0)) (.s "row")) (.k (.ret (.and (.cmp .eq (.blt .len (.k (.v 0) .e)) (.i 2)) (.call 56 (.k (.idx (.v 0) (.i 1)) .e)))) .e) .e) (.k (.ite (.or (.cmp .ne (.idx (.v 0) (.i 0)) (.s "rounds")) (.or (.cmp .ne (.blt .len (.k (.v 0) .e)) (.i 4)) (.or (.cmp .gt (.v 1) (.i 1)) (.not (.call 53 (.k (.idx (.v 0) (.i 1)) (.k (.i 3) (.k (.i 200) .e)))))))) (.k (.ret (.cst (.bl false))) .e) .e) (.k (.ite (.or (.not (.call 58 (.k (.idx (.v 0) (.i 2)) .e))) (.not (.isi (.idx (.v 0) (.i 3)) [.tuple]))) (.k (.ret (.cst (.bl false))) .e) .e) (.k (.ret (.blt .all (.k (.comp [none,some 1] (.n 0) (.seq (.idx (.v 0) (.i 3))) (.cst (.bl true)) (.call 59 (.k (.v 0) (.k (.bin .add (.v 1) (.i 1)) .e)))) .e))) .e)))))⟩
noncomputable def zav:Fn:=⟨1,1,true,(.k (.ret (.and (.isi (.v 0) [.tuple]) (.blt .all (.k (.comp [none] (.n 0) (.seq (.v 0)) (.cst (.bl true)) (.call 59 (.k (.v 0) (.k (.i 0) .e)))) .e)))) .e)⟩
noncomputable def ziO:Fn:=⟨4,4,true,(.k (.ret (.bin .add (.bin .add (.bin .add (.idx (.v 0) (.i 0)) (.bin .mul (.idx (.v 0) (.i 1)) (.v 1))) (.bin .mul (.idx (.v 0) (.i 2)) (.v 2))) (.bin .mul (.idx (.v 0) (.i 3)) (.v 3)))) .e)⟩
noncomputable def yH:Fn:=⟨4,6,true,(.k (.asg (.n 4) (.newl (.k (.idx (.v 0) (.i 0)) .e))) (.k (.for (.n 5) (.seq (.slc (.v 0) (.i 1) (.cst .non))) (.k (.ite (.isi (.v 5) [.tuple]) (.k (.expr (.mth .append (.v 4) (.k (.tup (.k (.idx (.v 5) (.i 0)) (.k (.call 61 (.k (.idx (.v 5) (.i 1)) (.k (.v 1) (.k (.v 2) (.k (.v 3) .e))))) .e))) .e))) .e) (.k (.expr (.mth .append (.v 4) (.k (.v 5) .e))) .e)) .e)) (.k (.ret (.blt .tuple (.k (.v 4) .e))) .e)))⟩
noncomputable def zz:Fn:=⟨4,5,false,(.k (.asg (.n 4) (.mth .get (.v 0) (.k (.idx (.v 2) (.i 2)) (.k (.i 0) .e)))) (.k (.ite (.cmp .eq (.idx (.v 2) (.i 0)) (.s "move")) (.k (.dput (.v 0) (.idx (.v 2) (.i 1)) (.v 4)) .e) .e) (.k (.ite (.cmp .eq (.idx (.v 2) (.i 0)) (.s "bare")) (.k (.dput (.v 0) (.idx (.v 2) (.i 1)) (.bin .sub (.bin .sub (.v 3) (.i 1)) (.v 4))) .e) .e) (.k (.ite (.cmp .eq (.idx (.v 2) (.i 0)) (.s "twice")) (.k (.dput (.v 0) (.idx (.v 2) (.i 1)) (.bin .mod (.bin .add (.bin .mul (.i 2) (.v 4)) (.v 1)) (.v 3))) (.k (.ret (.bin .fdiv (.bin .add (.bin .mul (.i 2) (.v 4)) (.v 1)) (.v 3))) .e)) .e) (.k (.ite (.cmp .eq (.idx (.v 2) (.i 0)) (.s "half")) (.k (.dput (.v 0) (.idx (.v 2) (.i 1)) (.bin .add (.bin .fdiv (.v 4) (.i 2)) (.bin .mul (.v 1) (.bin .fdiv (.v 3) (.i 2))))) (.k (.ret (.bin .mod (.v 4) (.i 2))) .e)) .e) (.k (.ret (.v 1)) .e))))))⟩
def zy:Fn:=⟨4,7,false,(.k (.ite (.cmp .eq (.idx (.v 2) (.i 0)) (.s "mark")) (.k (.ret (.idx (.v 2) (.i 1))) .e) .e) (.k (.ite (.cmp .eq (.idx (.v 2) (.i 0)) (.s "ask")) (.k (.ret (.blt .int (.k (.cmp .ne (.mth .get (.v 0) (.k (.idx (.v 2) (.i 1)) (.k (.i 0) .e))) (.i 0)) .e))) .e) .e) (.k (.ite (.cmp .eq (.idx (.v 2) (.i 0)) (.s "set")) (.k (.dput (.v 0) (.idx (.v 2) (.i 1)) (.idx (.v 2) (.i 2))) (.k (.ret (.v 1)) .e)) .e) (.k (.ite (.cmp .eq (.blt .len (.k (.v 2) .e)) (.i 3)) (.k (.ret (.call 63 (.k (.v 0) (.k (.v 1) (.k (.v 2) (.k (.v 3) .e)))))) .e) .e) (.k (.ite (.cmp .eq (.idx (.v 2) (.i 0)) (.s "times")) (.k (.asg (.n 4) (.bin .mul (.mth .get (.v 0) (.k (.idx (.v 2) (.i 3)) (.k (.i 0) .e))) (.mth .get (.v 0) (.k (.idx (.v 2) (.i 4)) (.k (.i 0) .e))))) (.k (.dput (.v 0) (.idx (.v 2) (.i 1)) (.bin .mod (.v 4) (.v 3))) (.k (.dput (.v 0) (.idx (.v 2) (.i 2)) (.bin .fdiv (.v 4) (.v 3))) (.k (.ret (.v 1)) .e)))) .e) (.k (.asg (.n 5) (.mth .get (.v 0) (.k (.idx (.v 2) (.i 2)) (.k (.i 0) .e)))) (.k (.asg (.n 6) (.mth .get (.v 0) (.k (.idx (.v 2) (.i 3)) (.k (.i 0) .e)))) (.k (.ite (.cmp .eq (.idx (.v 2) (.i 0)) (.s "sum")) (.k (.dput (.v 0) (.idx (.v 2) (.i 1)) (.bin .mod (.bin .add (.bin .add (.v 5) (.v 6)) (.v 1)) (.v 3))) (.k (.ret (.bin .fdiv (.bin .add (.bin .add (.v 5) (.v 6)) (.v 1)) (.v 3))) .e)) .e) (.k (.ite (.cmp .eq (.idx (.v 2) (.i 0)) (.s "less")) (.k (.dput (.v 0) (.idx (.v 2) (.i 1)) (.bin .mod (.bin .sub (.bin .sub (.v 5) (.v 6)) (.v 1)) (.v 3))) (.k (.ret (.blt .int (.k (.cmp .lt (.bin .sub (.bin .sub (.v 5) (.v 6)) (.v 1)) (.i 0)) .e))) .e)) .e) (.k (.ite (.cmp .eq (.idx (.v 2) (.i 0)) (.s "both")) (.k (.dput (.v 0) (.idx (.v 2) (.i 1)) (.bin .band (.v 5) (.v 6))) .e) .e) (.k (.ite (.cmp .eq (.idx (.v 2) (.i 0)) (.s "any")) (.k (.dput (.v 0) (.idx (.v 2) (.i 1)) (.bin .bor (.v 5) (.v 6))) .e) .e) (.k (.ite (.cmp .eq (.idx (.v 2) (.i 0)) (.s "odd")) (.k (.dput (.v 0) (.idx (.v 2) (.i 1)) (.bin .bxor (.v 5) (.v 6))) .e) .e) (.k (.ret (.v 1)) .e)))))))))))))⟩
noncomputable def zbx:Fn:=⟨3,3,true,(.k (.ret (.bin .add (.bin .add (.idx (.v 0) (.i 0)) (.bin .mul (.idx (.v 0) (.i 1)) (.v 2))) (.bin .mul (.bin .mul (.idx (.v 0) (.i 2)) (.v 1)) (.v 2)))) .e)⟩
noncomputable def yD:Fn:=⟨4,11,true,(.k (.asg (.n 4) (.newl .e)) (.k (.asg (.n 5) (.i 0)) (.k (.for (.n 6) (.seq (.v 0)) (.k (.ite (.cmp .eq (.idx (.v 6) (.i 0)) (.s "row")) (.k (.expr (.mth .append (.v 4) (.k (.call 62 (.k (.idx (.v 6) (.i 1)) (.k (.i 0) (.k (.i 0) (.k (.v 2) .e))))) .e))) .e) (.k (.for (.n 7) (.range1 (.blt .min (.k (.call 65 (.k (.idx (.v 6) (.i 1)) (.k (.v 1) (.k (.v 2) .e)))) (.k (.i 4001) .e)))) (.k (.aug 5 .add (.i 1)) (.k (.for (.n 8) (.seq (.idx (.v 6) (.i 3))) (.k (.ite (.cmp .eq (.idx (.v 8) (.i 0)) (.s "row")) (.k (.expr (.mth .append (.v 4) (.k (.call 62 (.k (.idx (.v 8) (.i 1)) (.k (.v 7) (.k (.i 0) (.k (.v 2) .e))))) .e))) .e) (.k (.ite (.and (.cmp .le (.v 5) (.i 4000)) (.cmp .le (.blt .len (.k (.v 4) .e)) (.v 3))) (.k (.asg (.n 9) (.blt .min (.k (.blt .max (.k (.i 0) (.k (.call 65 (.k (.idx (.v 8) (.i 1)) (.k (.v 1) (.k (.v 2) .e)))) .e))) (.k (.i 4001) .e)))) (.k (.aug 5 .add (.v 9)) (.k (.for (.n 10) (.range1 (.v 9)) (.k (.ite (.and (.cmp .le (.v 5) (.i 4000)) (.cmp .le (.blt .len (.k (.v 4) .e)) (.v 3))) (.k (.expr (.mth .extend (.v 4) (.k (.comp [none,some 7,some 10,some 2] (.n 0) (.seq (.idx (.v 8) (.i 3))) (.cst (.bl true)) (.call 62 (.k (.idx (.v 0) (.i 1)) (.k (.v 1) (.k (.v 2) (.k (.v 3) .e)))))) .e))) .e) .e) .e)) .e))) .e) .e)) .e)) (.k (.ite (.or (.cmp .gt (.v 5) (.i 4000)) (.cmp .gt (.blt .len (.k (.v 4) .e)) (.v 3))) (.k (.ret (.cst .non)) .e) .e) .e)))) .e)) .e)) (.k (.ite (.cmp .gt (.blt .len (.k (.v 4) .e)) (.v 3)) (.k (.ret (.cst .non)) .e) .e) (.k (.ret (.frz (.v 4))) .e)))))⟩
def yg:Fn:=⟨1,3,true,(.k (.for (.n 1) (.seq (.v 0)) (.k (.for (.n 2) (.seq (.slc (.v 1) (.i 1) (.cst .non))) (.k (.ite (.and (.isi (.v 2) [.tuple]) (.not (.chain .le .le (.i 0) (.idx (.v 2) (.i 1)) (.i 99)))) (.k (.ret (.cst (.bl false))) .e) .e) .e)) (.k (.ite (.and (.cmp .eq (.idx (.v 1) (.i 0)) (.s "times")) (.or (.cmp .eq (.idx (.v 1) (.i 1)) (.idx (.v 1) (.i 2))) (.cmp .isin (.idx (.idx (.v 1) (.i 2)) (.i 0)) (.s "ab")))) (.k (.ret (.cst (.bl false))) .e) .e) (.k (.ite (.and (.cmp .notin (.idx (.v 1) (.i 0)) (.tup (.k (.s "mark") (.k (.s "ask") .e)))) (.cmp .isin (.idx (.idx (.v 1) (.i 1)) (.i 0)) (.s "ab"))) (.k (.ret (.cst (.bl false))) .e) .e) .e)))) (.k (.ret (.cst (.bl true))) .e))⟩
noncomputable def zbD:Fn:=⟨4,7,false,(.k (.asg (.n 4) (.dict0 true)) (.k (.for (.t [5,6]) (.enum (.call 51 (.k (.v 2) (.k (.v 0) (.k (.v 1) .e))))) (.k (.dput (.v 4) (.tup (.k (.s "a") (.k (.v 5) .e))) (.v 6)) .e)) (.k (.for (.t [5,6]) (.enum (.call 51 (.k (.v 3) (.k (.v 0) (.k (.v 1) .e))))) (.k (.dput (.v 4) (.tup (.k (.s "b") (.k (.v 5) .e))) (.v 6)) .e)) (.k (.ret (.v 4)) .e))))⟩
noncomputable def yaW:Fn:=⟨5,10,false,(.k (.ite (.not (.call 60 (.k (.v 0) .e))) (.k .nope .e) .e) (.k (.asg (.n 5) (.call 66 (.k (.v 0) (.k (.v 1) (.k (.v 2) (.k (.i 4000) .e)))))) (.k (.ite (.or (.cmp .is (.v 5) (.cst .non)) (.not (.call 67 (.k (.v 5) .e)))) (.k .nope .e) .e) (.k (.asg (.n 6) (.call 68 (.k (.v 1) (.k (.v 2) (.k (.v 3) (.k (.v 4) .e)))))) (.k (.asg (.n 7) (.call 50 (.k (.v 1) .e))) (.k (.asg (.n 8) (.i 0)) (.k (.for (.n 9) (.seq (.v 5)) (.k (.asg (.n 8) (.call 64 (.k (.v 6) (.k (.v 8) (.k (.v 9) (.k (.v 7) .e)))))) .e)) (.k (.ret (.v 6)) .e))))))))⟩
noncomputable def zcV:Fn:=⟨4,7,false,(.k (.asg (.n 4) (.call 50 (.k (.v 3) .e))) (.k (.asg (.n 5) (.i 0)) (.k (.for (.n 6) (.rangeD (.bin .sub (.v 2) (.i 1)) (.neg (.i 1))) (.k (.asg (.n 5) (.bin .add (.bin .mul (.v 5) (.v 4)) (.mth .get (.v 0) (.k (.tup (.k (.v 1) (.k (.v 6) .e))) (.k (.i 0) .e))))) .e)) (.k (.ret (.v 5)) .e))))⟩
noncomputable def zbz:Fn:=⟨1,1,false,(.k (.ret (.blt .tuple (.k (.comp [none,some 0] (.n 0) (.range1 (.i 4)) (.cst (.bl true)) (.mth .get (.v 1) (.k (.tup (.k (.s "m") (.k (.v 0) .e))) (.k (.i 0) .e)))) .e))) .e)⟩
noncomputable def zc1:Fn:=⟨2,2,true,(.k (.ret (.tup (.k (.blt .int (.k (.cmp .eq (.v 0) (.i 0)) .e)) (.k (.blt .int (.k (.cmp .ge (.bin .mul (.i 2) (.v 0)) (.call 50 (.k (.v 1) .e))) .e)) .e)))) .e)⟩
noncomputable def zby:Fn:=⟨5,7,true,(.k (.asg (.n 5) (.call 69 (.k (.v 0) (.k (.v 1) (.k (.v 2) (.k (.v 3) (.k (.v 4) .e))))))) (.k (.ite (.or (.cmp .is (.v 5) (.cst .non)) (.cmp .ne (.call 70 (.k (.v 5) (.k (.s "c") (.k (.bin .mul (.i 2) (.v 2)) (.k (.v 1) .e))))) (.bin .mul (.v 3) (.v 4)))) (.k .nope .e) .e) (.k (.asg (.n 6) (.bin .add (.tup (.k (.i 0) (.k (.blt .int (.k (.cmp .ge (.bin .mul (.v 3) (.v 4)) (.call 50 (.k (.bin .mul (.v 1) (.v 2)) .e))) .e)) .e))) (.call 72 (.k (.bin .mul (.v 3) (.v 4)) (.k (.bin .mul (.bin .mul (.i 2) (.v 1)) (.v 2)) .e))))) (.k (.ret (.cmp .eq (.call 71 (.k (.v 5) .e)) (.v 6))) .e))))⟩
noncomputable def yaC:Fn:=⟨1,9,true,(.k (.asg (.n 1) (.call 45 (.k (.v 0) .e))) (.k (.asg (.n 2) (.call 42 (.k (.tup (.k (.s "product") .e)) .e))) (.k (.asg (.n 3) (.comp [none,some 1] (.n 0) (.range1 (.i 3)) (.cst (.bl true)) (.bin .add (.i 4) (.call 48 (.k (.v 1) (.k (.i 13) .e)))))) (.k (.for (.n 4) (.range2 (.i 4) (.i 17)) (.k (.asg (.n 5) (.bin .add (.i 1) (.call 48 (.k (.v 1) (.k (.i 2) .e))))) (.k (.ite (.cmp .isin (.v 4) (.v 3)) (.k (.asg (.n 5) (.bin .add (.i 1) (.call 48 (.k (.v 1) (.k (.i 4) .e))))) .e) .e) (.k (.asg (.n 6) (.bin .sub (.call 50 (.k (.bin .mul (.v 4) (.v 5)) .e)) (.i 1))) (.k (.asg (.n 7) (.bin .sub (.v 6) (.call 48 (.k (.v 1) (.k (.i 2) .e))))) (.k (.asg (.n 8) (.bin .sub (.v 6) (.call 48 (.k (.v 1) (.k (.i 2) .e))))) (.k (.ite (.cmp .eq (.call 48 (.k (.v 1) (.k (.i 3) .e))) (.i 1)) (.k (.asg (.n 7) (.call 49 (.k (.v 1) (.k (.v 4) (.k (.v 5) .e))))) .e) .e) (.k (.ite (.not (.call 73 (.k (.v 2) (.k (.v 4) (.k (.v 5) (.k (.v 7) (.k (.v 8) .e))))))) (.k .nope .e) .e) (.k (.ite (.cmp .ne (.call 36 (.k (.v 2) (.k (.v 4) (.k (.v 5) .e)))) (.blt .tuple (.k (.call 66 (.k (.v 2) (.k (.v 4) (.k (.v 5) (.k (.i 4000) .e))))) .e))) (.k .nope .e) .e) .e))))))))) (.k (.ret (.cst (.bl true))) .e)))))⟩
def Tl:List Fn:=[zkd,zjT,zfq,zfj,zke,zb1,zae,zaL,zao,zZ,zbp,zaA,zcp,zbL,zcG,zfz,zaM,zcx,zcs,zbj,zdC,zas,zaH,zaF,zcF,zd6,zbo,zcB,zQ,zR,zK,zP,zT,zL,zI,zbl,za8,zcq,zb3,zdK,zb8,zfQ,zdT,zdr,zaf,zbA,yao,yab,yR,yM,zaY,zbw,zfV,zdt,zdZ,zax,zap,zfI,zan,zib,zav,ziO,yH,zz,zy,zbx,yD,yg,zbD,yaW,zcV,zbz,zc1,zby,yaC]
def T (i:Nat):Option Fn:=Tl[i]?
noncomputable abbrev za4:Nat:=36
noncomputable abbrev zS:Nat:=42
noncomputable abbrev zdf:Nat:=45
noncomputable abbrev zc8:Nat:=46
noncomputable abbrev zhq:Nat:=47
noncomputable abbrev zV:Nat:=48
noncomputable abbrev zc6:Nat:=49
noncomputable abbrev zaT:Nat:=50
noncomputable abbrev zfK:Nat:=51
noncomputable abbrev zq:Nat:=60
noncomputable abbrev znm:Nat:=61
noncomputable abbrev zaj:Nat:=62
noncomputable abbrev zeZ:Nat:=63
noncomputable abbrev zhg:Nat:=64
noncomputable abbrev zfw:Nat:=65
noncomputable abbrev zaa:Nat:=66
noncomputable abbrev z6:Nat:=67
noncomputable abbrev zfO:Nat:=68
noncomputable abbrev zfS:Nat:=69
noncomputable abbrev zez:Nat:=70
noncomputable abbrev zcO:Nat:=71
noncomputable abbrev zeK:Nat:=72
noncomputable abbrev zfJ:Nat:=73
noncomputable abbrev zjN:Nat:=74
end IC
namespace WK
open PySem L2 IC
noncomputable def top (i:Nat):Stmt:=PySem.Challenge.pw_widewords_k34_one_telling_for_every_widt.main.body.getD i (.Pass ⟨0,0,0,0⟩)
def tbQ:Tb where
 tbl:=[⟨"word","word","word",top 10,["letter","c","i","j","m"],["letter","c","i","j","m"],zkd,.fd [0,0,0,0]⟩,⟨"rows","rows","rows",top 12,["told"],["told"],zjT,.fn⟩,⟨"rounds","rounds","rounds",top 13,["count","sentence","inner"],["count","sentence","inner"],zfq,.fn⟩,⟨"lowest","lowest","lowest",top 14,["letter","c","i","j","m"],["letter","c","i","j","m"],zfj,.fd [0,0,0,0]⟩,⟨"term","term","term",top 15,["f","things","i","p","q","r"],["f","things","i","p","q","r"],zke,.fd [0,0,0,0]⟩,⟨"kept_mark","kept_mark","kept_mark",top 18,["to"],["to"],zb1,.fn⟩,⟨"kept_contrary","kept_contrary","kept_contrary",top 19,["to"],["to"],zae,.fn⟩,⟨"asked_words","asked_words","asked_words",top 22,["letter","m","count","gathered"],["letter","m","count"],zaL,.fn⟩,⟨"answer_marks","answer_marks","answer_marks",top 23,["c","m","sign"],["c","m"],zao,.fn⟩,⟨"product_telling","product_telling","product_telling",top 36,["unfit"],[],zZ,.fn⟩,⟨"multiplied","multiplied","multiplied",top 37,["sentence","begun","ended"],[],zbp,.fn⟩,⟨"by_one_word","by_one_word","by_one_word",top 38,["here","this_word","sentence"],[],zaA,.fn⟩,⟨"is_whole","is_whole","is_whole",top 51,["thing","low","high"],["thing","low","high"],zcp,.fn⟩,⟨"is_letter","is_letter","is_letter",top 52,["thing"],["thing"],zbL,.fn⟩,⟨"are_told","are_told","are_told",top 53,["thing","many"],["thing","many"],zcG,.fn⟩,⟨"is_row","is_row","is_row",top 93,["thing"],["thing"],zfz,.fn⟩,⟨"is_told_row","is_told_row","is_told_row",top 94,["thing"],["thing"],zaM,.fn⟩,⟨"has_form","has_form","has_form",top 95,["thing","told","kind","operand"],["thing","told"],zcx,.fn⟩,⟨"is_named","is_named","is_named",top 96,["thing"],["thing"],zcs,.fn⟩,⟨"is_operand","is_operand","is_operand",top 97,["kind","thing","told"],["kind","thing","told"],zbj,.fn⟩,⟨"is_cell","is_cell","is_cell",top 98,["thing"],["thing"],zdC,.fn⟩,⟨"is_told_cell","is_told_cell","is_told_cell",top 99,["thing"],["thing"],zas,.fn⟩,⟨"is_lettered","is_lettered","is_lettered",top 100,["thing"],["thing"],zaH,.fn⟩,⟨"is_sentence","is_sentence","is_sentence",top 105,["thing"],["thing"],zaF,.fn⟩,⟨"place_of","place_of","place_of",top 106,["told","n","i","j"],["told","n","i","j"],zcF,.fn⟩,⟨"is_term","is_term","is_term",top 107,["thing","f","exponent","things"],["thing"],zd6,.fn⟩,⟨"are_things","are_things","are_things",top 108,["thing"],["thing"],zbo,.fn⟩,⟨"is_thing","is_thing","is_thing",top 109,["thing"],["thing"],zcB,.fn⟩,⟨"","__init__","Unrolling.__init__",inClass (top 114) 0,["self","w","n"],["self","w","n"],zQ,.ini 20⟩,⟨"","go_parts","Unrolling.go_parts",inClass (top 114) 1,["self","parts","gone","part"],["self","parts","gone"],zR,.me 20⟩,⟨"","go_rounds","Unrolling.go_rounds",inClass (top 114) 2,["self","part","gone","count","at"],["self","part","gone"],zK,.me 20⟩,⟨"","count_of","Unrolling.count_of",inClass (top 114) 3,["self","told","c","m","t"],["self","told"],zP,.me 20⟩,⟨"","add_row","Unrolling.add_row",inClass (top 114) 4,["self","told","gone","i","j","row"],["self","told","gone"],zT,.me 20⟩,⟨"","add_round","Unrolling.add_round",inClass (top 114) 5,["self"],["self"],zL,.me 20⟩,⟨"","add_asked","Unrolling.add_asked",inClass (top 114) 6,["self","sentence","gone","i","j"],["self","sentence","gone"],zI,.me 20⟩,⟨"is_telling","is_telling","is_telling",top 115,["thing"],["thing"],zbl,.fn⟩,⟨"unrolled","unrolled","unrolled",top 116,["telling","w","n"],["telling","w","n"],za8,.fn⟩,⟨"steps_of","steps_of","steps_of",top 117,["telling","w","n","unrolling"],["telling","w","n"],zcq,.fn⟩,⟨"are_parts","are_parts","are_parts",top 118,["thing","nests"],["thing","nests"],zb3,.fn⟩,⟨"is_part","is_part","is_part",top 119,["thing","nests"],["thing","nests"],zdK,.fn⟩,⟨"both_gone","both_gone","both_gone",top 120,["gone"],["gone"],zb8,.fn⟩,⟨"placed","placed","placed",top 121,["thing","n","i","j"],["thing","n","i","j"],zfQ,.fn⟩,⟨"telling","telling","telling",top 128,["deed"],["deed"],zdT,.fn⟩,⟨"is_deed","is_deed","is_deed",top 129,["thing"],["thing"],zdr,.fn⟩,⟨"named_telling","named_telling","named_telling",top 131,["name"],["name"],zaf,.fn⟩,⟨"_law_fresh","_law_fresh","_law_fresh",top 133,["_law_script"],["_law_script"],zbA,.fn⟩,⟨"_law_mixed","_law_mixed","_law_mixed",top 134,["_law_seed","_law_primes","_law_number","_law_k","_law_prime","_law_far","_law_square","_law_power"],["_law_seed"],yao,.fn⟩,⟨"_law_fill","_law_fill","_law_fill",top 135,["_law_state","_law_cells","_law_at_here","_law_seed"],["_law_state"],yab,.fn⟩,⟨"_law_take","_law_take","_law_take",top 136,["_law_state","_law_many","_law_turns","_law_digit"],["_law_state","_law_many"],yR,.fn⟩,⟨"_law_worth","_law_worth","_law_worth",top 137,["_law_state","_law_w","_law_n","_law_way","_law_top","_law_k","_law_edges","_law_any_one","_law_low","_law_wide","_law_worth_here","_law_some","_law_words_here"],["_law_state","_law_w","_law_n"],yM,.fn⟩,⟨"_law_two_to","_law_two_to","_law_two_to",top 138,["_law_many","_law_found","_law_k"],["_law_many"],zaY,.fn⟩,⟨"_law_words","_law_words","_law_words",top 139,["_law_worth_here","_law_w","_law_n","_law_wide","_law_words_here","_law_k"],["_law_worth_here","_law_w","_law_n"],zbw,.fn⟩,⟨"_law_whole","_law_whole","_law_whole",top 140,["_law_thing_here"],["_law_thing_here"],zfV,.fn⟩,⟨"_law_wholes","_law_wholes","_law_wholes",top 141,["_law_thing_here","_law_many","_law_most"],["_law_thing_here","_law_many","_law_most"],zdt,.fn⟩,⟨"_law_letter","_law_letter","_law_letter",top 142,["_law_thing_here"],["_law_thing_here"],zdZ,.fn⟩,⟨"_law_index_cell","_law_index_cell","_law_index_cell",top 143,["_law_thing_here"],["_law_thing_here"],zax,.fn⟩,⟨"_law_telling_row","_law_telling_row","_law_telling_row",top 144,["_law_row","_law_lengths"],["_law_row"],zap,.fn⟩,⟨"_law_thing","_law_thing","_law_thing",top 145,["_law_thing_here"],["_law_thing_here"],zfI,.fn⟩,⟨"_law_is_sentence","_law_is_sentence","_law_is_sentence",top 146,["_law_told","_law_term"],["_law_told"],zan,.fn⟩,⟨"_law_part","_law_part","_law_part",top 147,["_law_part_here","_law_deep"],["_law_part_here","_law_deep"],zib,.fn⟩,⟨"_law_is_telling","_law_is_telling","_law_is_telling",top 148,["_law_told"],["_law_told"],zav,.fn⟩,⟨"_law_at","_law_at","_law_at",top 149,["_law_index","_law_i","_law_j","_law_n"],["_law_index","_law_i","_law_j","_law_n"],ziO,.fn⟩,⟨"_law_plain_row","_law_plain_row","_law_plain_row",top 150,["_law_row","_law_i","_law_j","_law_n","_law_told","_law_part_here"],["_law_row","_law_i","_law_j","_law_n"],yH,.fn⟩,⟨"_law_one_done","_law_one_done","_law_one_done",top 151,["_law_cells","_law_mark","_law_row","_law_wide","_law_x"],["_law_cells","_law_mark","_law_row","_law_wide"],zz,.fn⟩,⟨"_law_done","_law_done","_law_done",top 152,["_law_cells","_law_mark","_law_row","_law_wide","_law_both","_law_x","_law_y"],["_law_cells","_law_mark","_law_row","_law_wide"],zy,.fn⟩,⟨"_law_count","_law_count","_law_count",top 153,["_law_count_here","_law_w","_law_n"],["_law_count_here","_law_w","_law_n"],zbx,.fn⟩,⟨"_law_unrolled","_law_unrolled","_law_unrolled",top 154,["_law_told","_law_w","_law_n","_law_most","_law_rows","_law_rounds","_law_part_here","_law_i","_law_inner","_law_many","_law_j"],["_law_told","_law_w","_law_n","_law_most"],yD,.fn⟩,⟨"_law_rows_right","_law_rows_right","_law_rows_right",top 155,["_law_rows","_law_row","_law_part_here"],["_law_rows"],yg,.fn⟩,⟨"_law_begun","_law_begun","_law_begun",top 156,["_law_w","_law_n","_law_x","_law_y","_law_cells","_law_k","_law_word"],["_law_w","_law_n","_law_x","_law_y"],zbD,.fn⟩,⟨"_law_run","_law_run","_law_run",top 157,["_law_told","_law_w","_law_n","_law_x","_law_y","_law_rows","_law_cells","_law_wide","_law_mark","_law_row"],["_law_told","_law_w","_law_n","_law_x","_law_y"],yaW,.fn⟩,⟨"_law_read","_law_read","_law_read",top 158,["_law_cells","_law_letter_here","_law_many","_law_w","_law_wide","_law_worth_here","_law_k"],["_law_cells","_law_letter_here","_law_many","_law_w"],zcV,.fn⟩,⟨"_law_marks","_law_marks","_law_marks",top 159,["_law_cells"],["_law_cells"],zbz,.fn⟩,⟨"_law_ends","_law_ends","_law_ends",top 160,["_law_worth_here","_law_many"],["_law_worth_here","_law_many"],zc1,.fn⟩,⟨"_law_right","_law_right","_law_right",top 161,["_law_told","_law_w","_law_n","_law_x","_law_y","_law_cells","_law_marks_here"],["_law_told","_law_w","_law_n","_law_x","_law_y"],zby,.fn⟩,⟨"law","law","law",top 162,["_law_script","_law_state","_law_told","_law_great","_law_w","_law_n","_law_top","_law_x","_law_y"],["_law_script"],yaC,.fn⟩]
 al:=[eD "word" 0,eF "rows" 1,eF "rounds" 2,eD "lowest" 3,eD "term" 4,eF "kept_mark" 5,eF "kept_contrary" 6,eF "asked_words" 7,eF "answer_marks" 8,eF "product_telling" 9,eF "multiplied" 10,eF "by_one_word" 11,eF "is_whole" 12,eF "is_letter" 13,eF "are_told" 14,eF "is_row" 15,eF "is_told_row" 16,eF "has_form" 17,eF "is_named" 18,eF "is_operand" 19,eF "is_cell" 20,eF "is_told_cell" 21,eF "is_lettered" 22,eF "is_sentence" 23,eF "place_of" 24,eF "is_term" 25,eF "are_things" 26,eF "is_thing" 27,eF "is_telling" 35,eF "unrolled" 36,eF "steps_of" 37,eF "are_parts" 38,eF "is_part" 39,eF "both_gone" 40,eF "placed" 41,eF "telling" 42,eF "is_deed" 43,eF "named_telling" 44,eF "_law_fresh" 45,eF "_law_mixed" 46,eF "_law_fill" 47,eF "_law_take" 48,eF "_law_worth" 49,eF "_law_two_to" 50,eF "_law_words" 51,eF "_law_whole" 52,eF "_law_wholes" 53,eF "_law_letter" 54,eF "_law_index_cell" 55,eF "_law_telling_row" 56,eF "_law_thing" 57,eF "_law_is_sentence" 58,eF "_law_part" 59,eF "_law_is_telling" 60,eF "_law_at" 61,eF "_law_plain_row" 62,eF "_law_one_done" 63,eF "_law_done" 64,eF "_law_count" 65,eF "_law_unrolled" 66,eF "_law_rows_right" 67,eF "_law_begun" 68,eF "_law_run" 69,eF "_law_read" 70,eF "_law_marks" 71,eF "_law_ends" 72,eF "_law_right" 73,eF "law" 74,eC "EACH_WORD" z7,eC "FACTOR_LIMIT" (.int (10000000000000000000000000000000000000000)),eC "HIGH" zdO,eC "LONE" zj0,eC "LOW" zhP,eC "MARKS" zc0,eC "MOST_NESTS" (.int (2)),eC "MOST_ROUNDS" (.int (4000)),eC "MOST_ROWS" (.int (4000)),eC "MOST_TERMS" (.int (20)),eC "MOST_THINGS" (.int (2)),eC "MOST_TOLD" (.int (200)),eC "NIL" zgJ,eC "OVER" zd8,eC "PAIRED" zfx,eC "PAIRWISE" zcl,eC "SEEN" zd4,eC "SHIFTS" zdi,eC "SPARE" zif,eG "ROWS" (.dct zdk),eG "Unrolling" (.cls 20 28)]
 bs:=["abs","all","bool","enumerate","int","isinstance","len","max","min","range","str","tuple","zip"]
 ts:=[.bool,.int,.str,.tuple]
 fl:=[eN 20 "n",eN 20 "rounds",eN 20 "rows",eN 20 "steps",eN 20 "w"]
 me:=[eM 20 "go_parts" 29,eM 20 "go_rounds" 30,eM 20 "count_of" 31,eM 20 "add_row" 32,eM 20 "add_round" 33,eM 20 "add_asked" 34]
 kb:=[eK 0 1 ["i"] [some 0,none,some 0,some 0],eK 0 1 ["i","j"] [some 0,none,none,some 0],eK 0 1 ["i","m"] [some 0,none,some 0,none],eK 0 1 ["j"] [some 0,some 0,none,some 0],eK 0 2 ["m"] [some 0,some 0,none],eK 3 1 ["i"] [some 0,none,some 0,some 0],eK 3 1 ["i","m"] [some 0,none,some 0,none],eK 3 1 ["j"] [some 0,some 0,none,some 0],eK 3 1 ["m"] [some 0,some 0,some 0,none],eK 3 2 [] [some 0,some 0,some 0],eK 4 2 [] [some 0,some 0,some 0,some 0],eK 4 2 ["p"] [some 0,none,some 0,some 0],eK 4 2 ["p","q"] [some 0,none,none,some 0]]
 cn:=[eN 20 "Unrolling"]
 dd:=[eB "ROWS" zdk]
 ml:=[]
theorem ok_all:tbQ.tbl.all (okT tbQ)=true:=by decide +kernel
theorem T_ok:∀i d,tbQ.tbl[i]?=some d->T i=some d.fn:=λi d h=>by
 have e:Tl=tbQ.tbl.map (·.fn):=rfl
 rw[T,e,List.getElem?_map,h];rfl
theorem kb_all:ybF (KbP tbQ) tbQ.kb:=by
 repeat' (first|exact trivial|(refine⟨kbP rfl rfl rfl rfl rfl (by decide) ?_,?_⟩;((repeat intro _);exact⟨_,rfl,rfl⟩)))
theorem cn_20:cnm tbQ 20="Unrolling":=rfl
end WK
namespace IC
open PySem
def yaB (call:Cl)(t:Tg)(b:Css)(xs:List PV)(ρ:Env)(st:Store):Fl:=forL t (λρ2 st2=>exs call ρ2 st2 b) xs ρ st
def yaL (call:Cl)(c:Ce)(b:Css)(n:Nat)(ρ:Env)(st:Store):Fl:=yag (λρ2 st2=>ev call ρ2 st2 c) (λρ2 st2=>exs call ρ2 st2 b) n ρ st
def yb3 (call:Cl)(ρ0:Env)(t:Tg)(c e:Ce)(x:PV)(st2:Store):R (Option PV):=match yJ t x ρ0 with
 |none=>.bad
 |some ρ1=>(ev call ρ1 st2 c).bind λb st3=>onO (yaD st3 b) λk=>cond k ((ev call ρ1 st3 e).bind λy st4=>.ok (some y) st4) (.ok none st3)
def yaz (call:Cl)(ρ0:Env)(t:Tg)(c e:Ce)(xs:List PV)(st:Store):R (List PV):=yaH (yb3 call ρ0 t c e) xs st
noncomputable def yah (f:Fl)(k:Env->Store->Fl):Fl :=
 match f with
 | .nx ρ st=>k ρ st
 |f=>f
noncomputable def nxO (o:Option Env)(st:Store):Fl :=
 match o with
 |some ρ=>.nx ρ st
 |none=>.bad
noncomputable def stO (ρ:Env)(o:Option Store):Fl :=
 match o with
 |some st=>.nx ρ st
 |none=>.bad
section
variable {call:Cl}{ρ:Env}{st:Store}
theorem x_for {t:Tg}{it:Cit}{b:Css}:ex call ρ st (.for t it b)=(evi call ρ st it).fl ρ λxs st1=>yaB call t b xs ρ st1:=rfl
theorem zlj {c:Ce}{b:Css}:ex call ρ st (.while c b)=yaL call c b 100000 ρ st:=rfl
theorem v_comp {sl:List (Option Nat)}{t:Tg}{it:Cit}{c e:Ce}:ev call ρ st (.comp sl t it c e)=(evi call ρ st it).bind λxs st1=>ybO (yaz call (sl.map λo=>o.bind λj=>(ρ[j]?).join) t c e xs st1):=rfl
theorem zt {t:Tg}{b:Css}:yaB call t b [] ρ st=.nx ρ st:=rfl
theorem zm {t:Tg}{b:Css}{x:PV}{xs:List PV}{ρ1:Env}(h:yJ t x ρ=some ρ1):yaB call t b (x::xs) ρ st=yak (exs call ρ1 st b) λρ2 st2=>yaB call t b xs ρ2 st2:=by
 rw[yaB,forL,h];rfl
theorem zaw {t:Tg}{b:Css}(P:Nat->Env->Store->Prop):∀(xs:List PV) (i:Nat) (ρ:Env) (st:Store),P i ρ st ->
  (∀(j:Nat) (x:PV) (ρ:Env) (st:Store),xs[j]?=some x->P (i+j) ρ st->∃ρ1 ρ2 st2,yJ t x ρ=some ρ1/\exs call ρ1 st b=.nx ρ2 st2/\P (i+j+1) ρ2 st2) ->
  ∃ρ' st',yaB call t b xs ρ st=.nx ρ' st'/\P (i+xs.length) ρ' st'
 | [],i,ρ,st,h,_=>⟨ρ,st,zt,h⟩
 |x::xs,i,ρ,st,h,k=>by
  obtain⟨ρ1,ρ2,st2,e1,e2,h2⟩:=k 0 x ρ st rfl h
  obtain⟨ρ',st',e3,h3⟩:=zaw P xs (i+1) ρ2 st2 h2 λj y ρ st hy hp=>by
   have:=k (j+1) y ρ st (by simpa using hy) (by rw[show i+(j+1)=i+1+j by omega];exact hp)
   rw[show i+(j+1)+1=i+1+j+1 by omega]at this
   exact this
  refine⟨ρ',st',?_,by rw[List.length_cons,show i+(xs.length+1)=i+1+xs.length by omega];exact h3⟩
  rw[zm e1,e2]
  exact e3
theorem zhu {c:Ce}{b:Css}{n:Nat}{x:PV}{st1 st2:Store}{ρ2:Env}(h:ev call ρ st c=.ok x st1)(ht:yaD st1 x=some true)(hb:exs call ρ st1 b=.nx ρ2 st2):yaL call c b (n+1) ρ st=yaL call c b n ρ2 st2:=by
 rw[yaL,yag,h]
 simp only[R.fl,ht,onF,cond_true,hb,yak]
 rfl
theorem zev {c:Ce}{b:Css}{n:Nat}{x:PV}{st1:Store}(h:ev call ρ st c=.ok x st1)(ht:yaD st1 x=some false):yaL call c b (n+1) ρ st=.nx ρ st1:=by
 rw[yaL,yag,h]
 simp only[R.fl,ht,onF,cond_false]
theorem zbJ {ρ0:Env}{t:Tg}{c e:Ce}:yaz call ρ0 t c e [] st=.ok [] st:=rfl
theorem za7 {ρ0:Env}{t:Tg}{c e:Ce}{x:PV}{xs:List PV}:yaz call ρ0 t c e (x::xs) st=(yb3 call ρ0 t c e x st).bind λo st1=>(yaz call ρ0 t c e xs st1).bind λys st2=>.ok (ybN o ys) st2:=rfl
theorem zdX {ρ0:Env}{t:Tg}{c e:Ce}{f:PV->PV}:∀(xs:List PV),(∀x∈xs,yb3 call ρ0 t c e x st=.ok (some (f x)) st)->yaz call ρ0 t c e xs st=.ok (xs.map f) st
 | [],_=>zbJ
 |x::xs,h=>by
  rw[za7,h x List.mem_cons_self]
  simp only[R.bind]
  rw[zdX xs λy hy=>h y (List.mem_cons_of_mem _ hy)]
  rfl
theorem xs_nil:exs call ρ st .nil=.nx ρ st:=rfl
theorem xs_cons {s:Cs}{ss:Css}:exs call ρ st (.cons s ss)=yah (ex call ρ st s) λρ1 st1=>exs call ρ1 st1 ss:=rfl
theorem x_asg {t:Tg}{e:Ce}:ex call ρ st (.asg t e)=(ev call ρ st e).fl ρ λv st1=>nxO (yJ t v ρ) st1:=rfl
theorem x_expr {e:Ce}:ex call ρ st (.expr e)=(ev call ρ st e).fl ρ λ_ st1=>.nx ρ st1:=rfl
theorem x_ret {e:Ce}:ex call ρ st (.ret e)=(ev call ρ st e).fl ρ λv st1=>.rt v st1:=rfl
theorem x_ite {c:Ce}{a b:Css}:ex call ρ st (.ite c a b)=(ev call ρ st c).fl ρ λx st1=>onF (yaD st1 x) λk=>cond k (exs call ρ st1 a) (exs call ρ st1 b):=rfl
theorem x_six {o i e:Ce}:ex call ρ st (.six o i e)=(ev call ρ st e).fl ρ λv st1=>(ev call ρ st1 o).fl ρ λx st2=>(ev call ρ st2 i).fl ρ λy st3=>stO ρ (ybg st3 x y v):=rfl
theorem zE {o i e:Ce}:ex call ρ st (.dput o i e)=(ev call ρ st e).fl ρ λv st1=>(ev call ρ st1 o).fl ρ λx st2=>(ev call ρ st2 i).fl ρ λy st3=>stO ρ (ybi st3 x y v):=rfl
theorem zmb {i:Nat}{o:BOp}{e:Ce}{x:PV}(h:ρ[i]?=some (some x)):ex call ρ st (.aug i o e)=(ev call ρ st e).fl ρ λy st1=>nxO ((ybE o x y).map λz=>ρ.set i (some z)) st1:=by
 rw[ex,h]
 show (ev call ρ st e).fl ρ _=_
 refine congrArg _ (funext λy=>funext λst1=>?_)
 cases ybE o x y <;> rfl
end
theorem ve1 (call:Nat->List PV->Store->R PV)(ρ:Env)(st:Store)(v:PV) :
  ev call ρ st (Ce.cst v)=R.ok v st:=rfl
theorem ve2 (call:Nat->List PV->Store->R PV)(ρ:Env)(st:Store)(i:Nat) :
  ev call ρ st (Ce.var i) =
  match ρ[i]? with
  |some (some v)=>R.ok v st
  |x=>R.bad:=rfl
theorem ve3 (call:Nat->List PV->Store->R PV)(ρ:Env)(st:Store)(o:BOp)(a b:Ce) :
  ev call ρ st (Ce.bin o a b)=R.bind (ev call ρ st a) λx st1=>R.bind (ev call ρ st1 b) λy st2=>toR (yC o x y) st2:=rfl
theorem ve4 (call:Nat->List PV->Store->R PV)(ρ:Env)(st:Store)(a:Ce) :
  ev call ρ st (Ce.neg a) =
  R.bind (ev call ρ st a) λx st1 =>
   match x with
   |PV.int i=>R.ok (PV.int (-i)) st1
   |x=>R.bad:=rfl
theorem ve5 (call:Nat->List PV->Store->R PV)(ρ:Env)(st:Store)(a:Ce) :
  ev call ρ st (Ce.not a)=R.bind (ev call ρ st a) λx st1=>onBl x λk=>R.ok (PV.bl !k) st1:=rfl
theorem ve6 (call:Nat->List PV->Store->R PV)(ρ:Env)(st:Store)(a b:Ce) :
  ev call ρ st (Ce.and a b)=R.bind (ev call ρ st a) λx st1=>onBl x λk=>bif k then ev call ρ st1 b else R.ok (PV.bl false) st1:=rfl
theorem ve7 (call:Nat->List PV->Store->R PV)(ρ:Env)(st:Store)(a b:Ce) :
  ev call ρ st (Ce.or a b)=R.bind (ev call ρ st a) λx st1=>onBl x λk=>bif k then R.ok (PV.bl true) st1 else ev call ρ st1 b:=rfl
theorem ve8 (call:Nat->List PV->Store->R PV)(ρ:Env)(st:Store)(o:COp)(a b:Ce) :
  ev call ρ st (Ce.cmp o a b)=R.bind (ev call ρ st a) λx st1=>R.bind (ev call ρ st1 b) λy st2=>toR (ye o x y) st2:=rfl
theorem ve9 (call:Nat->List PV->Store->R PV)(ρ:Env)(st:Store)(o p:COp)(a b c:Ce) :
  ev call ρ st (Ce.chain o p a b c)=R.bind (ev call ρ st a) λx st1=>R.bind (ev call ρ st1 b) λy st2=>onO (blO (ye o x y)) λk=>bif k then R.bind (ev call ρ st2 c) λz st3=>toR (ye p y z) st3 else R.ok (PV.bl false) st2:=rfl
theorem ve10 (call:Nat->List PV->Store->R PV)(ρ:Env)(st:Store)(c a b:Ce) :
  ev call ρ st (Ce.ite c a b)=R.bind (ev call ρ st c) λx st1=>onO (yaD st1 x) λk=>bif k then ev call ρ st1 a else ev call ρ st1 b:=rfl
theorem ve11 (call:Nat->List PV->Store->R PV)(ρ:Env)(st:Store)(es:Ces) :
  ev call ρ st (Ce.tup es)=R.bind (evs call ρ st es) λvs st1=>if List.length vs<=sizeMax then R.ok (PV.tup vs) st1 else R.bad:=rfl
theorem ve12 (call:Nat->List PV->Store->R PV)(ρ:Env)(st:Store)(es:Ces) :
  ev call ρ st (Ce.lst es)=R.bind (evs call ρ st es) λvs st1=>if List.length vs<=sizeMax then R.ok (PV.lst vs) st1 else R.bad:=rfl
theorem ve13 (call:Nat->List PV->Store->R PV)(ρ:Env)(st:Store)(es:Ces) :
  ev call ρ st (Ce.newl es)=R.bind (evs call ρ st es) λvs st1=>if List.length vs<=sizeMax then R.ok (PV.loc (List.length st1)) (st1++[Ob.lst vs])else R.bad:=rfl
theorem ve14 (call:Nat->List PV->Store->R PV)(ρ:Env)(st:Store)(kvs:List (PySem.Str×Int)) :
  ev call ρ st (Ce.newd kvs)=if List.length kvs<=15 then R.ok (PV.loc (List.length st)) (st++[Ob.dct false (List.foldl (λacc kv=>put (PV.str (Prod.fst kv)) (PV.int (Prod.snd kv)) acc) [] kvs)])else R.bad:=rfl
theorem ve15 (call:Nat->List PV->Store->R PV)(ρ:Env)(st:Store)(t:Bool) :
  ev call ρ st (Ce.dict0 t)=R.ok (PV.loc (List.length st)) (st++[Ob.dct t []]):=rfl
theorem ve16 (call:Nat->List PV->Store->R PV)(ρ:Env)(st:Store)(a i:Ce) :
  ev call ρ st (Ce.idx a i)=R.bind (ev call ρ st a) λx st1=>R.bind (ev call ρ st1 i) λy st2=>toR (idxV st2 x y) st2:=rfl
theorem ve17 (call:Nat->List PV->Store->R PV)(ρ:Env)(st:Store)(a l h:Ce) :
  ev call ρ st (Ce.slc a l h)=R.bind (ev call ρ st a) λx st1=>R.bind (ev call ρ st1 l) λy st2=>onP (yaE y) λo=>R.bind (ev call ρ st2 h) λz st3=>toR (yb6 x o z) st3:=rfl
theorem ve18 (call:Nat->List PV->Store->R PV)(ρ:Env)(st:Store)(f:Nat)(es:Ces) :
  ev call ρ st (Ce.call f es)=R.bind (evs call ρ st es) λvs st1=>call f vs st1:=rfl
theorem ve19 (call:Nat->List PV->Store->R PV)(ρ:Env)(st:Store)(b:Blt)(es:Ces) :
  ev call ρ st (Ce.blt b es)=R.bind (evs call ρ st es) λvs st1=>toR (yan b st1 vs) st1:=rfl
theorem ve20 (call:Nat->List PV->Store->R PV)(ρ:Env)(st:Store)(m:Mth)(o:Ce)(es:Ces) :
  ev call ρ st (Ce.mth m o es)=R.bind (ev call ρ st o) λx st1=>onO (yas m st1 x) λx_1=>R.bind (evs call ρ st1 es) λvs st2=>ybq m st2 x vs:=rfl
theorem ve21 (call:Nat->List PV->Store->R PV)(ρ:Env)(st:Store)(a:Ce)(ts:List Ty) :
  ev call ρ st (Ce.isi a ts)=R.bind (ev call ρ st a) λx st1=>toR (ybv x ts) st1:=rfl
theorem ve24 (call:Nat->List PV->Store->R PV)(ρ:Env)(st:Store) :
  ev call ρ st Ce.nope=R.bad:=rfl
theorem ve25 (call:Nat->List PV->Store->R PV)(ρ:Env)(st:Store)(a:Ce) :
  ev call ρ st (Ce.frz a)=R.bind (ev call ρ st a) λx st1=>ydu x st1:=rfl
theorem ve28 (call:Nat->List PV->Store->R PV)(ρ:Env)(st:Store)(D:List (PySem.Str×PV))(a:Ce) :
  ev call ρ st (Ce.dix D a)=R.bind (ev call ρ st a) λx st1=>toR (yeM D x) st1:=rfl
end IC
namespace WK
open IC PySem
mutual
noncomputable def pvq:PV->PV->Bool
 | .non,.non=>true
 | .bl a,.bl b=>a == b
 | .int i,.int j=>decide (i=j)
 | .str x,.str y=>decide (x=y)
 | .tp k xs,.tp l ys=>(k == l) && ycu xs ys
 | .lst xs,.lst ys=>ycu xs ys
 |_,_=>false
noncomputable def ycu:List PV->List PV->Bool
 | [],[]=>true
 |x::xs,y::ys=>pvq x y && ycu xs ys
 |_,_=>false
end
mutual
theorem zkg:∀(a b:PV),pvq a b=true->a=b
 | .non,b,h=>by cases b <;> simp[pvq]at h ⊢
 | .bl a,b,h=>by cases b <;> simp[pvq]at h ⊢;exact h
 | .int a,b,h=>by cases b <;> simp[pvq]at h ⊢;exact h
 | .str a,b,h=>by cases b <;> simp[pvq]at h ⊢;exact h
 | .tp k xs,b,h=>by
  cases b <;> simp[pvq]at h ⊢
  exact⟨h.1,zew _ _ h.2⟩
 | .lst xs,b,h=>by
  cases b <;> simp[pvq]at h ⊢
  exact zew _ _ h
 | .loc _,b,h=>by cases b <;> simp[pvq]at h
 | .exn _,b,h=>by cases b <;> simp[pvq]at h
 | .scr _,b,h=>by cases b <;> simp[pvq]at h
theorem zew:∀(a b:List PV),ycu a b=true->a=b
 | [],b,h=>by cases b <;> simp[ycu]at h ⊢
 |x::xs,b,h=>by
  cases b with
  |nil=>simp[ycu]at h
  |cons y ys =>
   simp[ycu]at h
   rw[zkg x y h.1,zew xs ys h.2]
end
def isOk (r:R PV)(v:PV):Bool:=match r with
 | .ok w []=>pvq w v
 |_=>false
theorem zhJ {r:R PV}{v:PV}(h:isOk r v=true):r=.ok v []:=by
 match r with
 | .ok w []=>rw[zkg w v h]
 | .ok w (_::_)=>simp[isOk]at h
 | .exc _ _=>simp[isOk]at h
 | .bad=>simp[isOk]at h
noncomputable def chS (c:Nat):Str:=⟨#[c]⟩
def yQ (c:Nat)(i:Int):PV:=.tup [.str (chS c),.int i]
theorem zk2 {c d:Nat}(h:chS c=chS d):c=d:=by
 have:=congrArg (λx=>x.cps) h
 simpa [chS] using this
theorem z8 (c d:Nat)(i j:Int):peq (yQ c i) (yQ d j)=decide (c=d/\i=j):=by
 have h:(chS c == chS d)=decide (c=d):=by
  rw[Bool.eq_iff_iff]
  simp
  exact⟨zk2,λe=>by rw[e]⟩
 simp[yQ,peq,ybc,h,Bool.decide_and]
 try rfl
noncomputable abbrev Mem:=Nat->Int->Int
noncomputable def upd (M:Mem)(c:Nat)(i v:Int):Mem:=λd j=>if d=c/\j=i then v else M d j
def ycd (kvs:List (PV×PV)):Prop:=∀p∈kvs,∃c i,p.1=yQ c i
def Rel (kvs:List (PV×PV))(M:Mem):Prop:=∀c i,(look (yQ c i) kvs).getD (.int 0)=.int (M c i)
theorem zfN (c:Nat)(i:Int)(v:PV)(d:Nat)(j:Int):∀kvs,ycd kvs->look (yQ d j) (kvs.map λp=>if peq p.1 (yQ c i)=true then(p.1,v)else p)=if d=c/\j=i then(if (kvs.any λp=>peq p.1 (yQ c i))=true then some v else none)else look (yQ d j) kvs
 | [],_=>by simp[look]
 |p::kvs,h=>by
  obtain⟨e,g,hp⟩:=h p List.mem_cons_self
  obtain⟨p1,p2⟩:=p
  simp only at hp
  subst hp
  have ih:=zfN c i v d j kvs λq hq=>h q (List.mem_cons_of_mem _ hq)
  rw[List.map_cons,List.any_cons]
  simp only[z8]
  by_cases h1:e=c/\g=i
  ·obtain⟨rfl,rfl⟩:=h1
   simp only[and_self,decide_true,if_true,look,z8,Bool.true_or]
   by_cases h2:e=d/\g=j
   ·obtain⟨rfl,rfl⟩:=h2
    simp
   ·have h3:¬(d=e/\j=g):=λz=>h2 ⟨z.1.symm,z.2.symm⟩
    simp only[h2,h3,decide_false,if_false,Bool.false_eq_true]
    rw[ih,if_neg h3]
  ·simp only[h1,decide_false,Bool.false_or,Bool.false_eq_true,if_false]
   rw[look,look]
   simp only[z8]
   by_cases h2:e=d/\g=j
   ·obtain⟨rfl,rfl⟩:=h2
    simp[h1]
   ·simp only[h2,decide_false,Bool.false_eq_true,if_false]
    exact ih
theorem zft (c:Nat)(i:Int)(v:PV)(d:Nat)(j:Int):∀kvs,ycd kvs->(kvs.any λp=>peq p.1 (yQ c i))=false->look (yQ d j) (kvs++[(yQ c i,v)])=if d=c/\j=i then some v else look (yQ d j) kvs
 | [],_,_=>by
  simp only[List.nil_append,look,z8]
  by_cases h2:c=d/\i=j
  ·obtain⟨rfl,rfl⟩:=h2;simp
  ·have h3:¬(d=c/\j=i):=λz=>h2 ⟨z.1.symm,z.2.symm⟩
   simp[h2,h3]
 |p::kvs,h,hn=>by
  obtain⟨e,g,hp⟩:=h p List.mem_cons_self
  obtain⟨p1,p2⟩:=p
  simp only at hp
  subst hp
  rw[List.any_cons,Bool.or_eq_false_iff]at hn
  have ih:=zft c i v d j kvs (λq hq=>h q (List.mem_cons_of_mem _ hq)) hn.2
  have h1:¬(e=c/\g=i):=by simpa [z8] using hn.1
  rw[List.cons_append,look,look]
  simp only[z8]
  by_cases h2:e=d/\g=j
  ·obtain⟨rfl,rfl⟩:=h2
   simp[h1]
  ·simp only[h2,decide_false,Bool.false_eq_true,if_false]
   exact ih
theorem ziW (c:Nat)(i:Int)(v:PV)(d:Nat)(j:Int)(kvs:List (PV×PV))(h:ycd kvs):look (yQ d j) (put (yQ c i) v kvs)=if d=c/\j=i then some v else look (yQ d j) kvs:=by
 unfold put
 split
 ·rename_i z
  rw[zfN _ _ _ _ _ _ h,z,if_pos rfl]
 ·rename_i z
  exact zft _ _ _ _ _ _ h (by simpa using z)
theorem zi0 {c:Nat}{i:Int}{v:PV}{kvs:List (PV×PV)}(h:ycd kvs):ycd (put (yQ c i) v kvs):=by
 unfold put
 split
 ·intro p hp
  obtain⟨q,hq,rfl⟩:=List.mem_map.1 hp
  obtain⟨e,g,he⟩:=h q hq
  refine⟨e,g,?_⟩
  split
  ·exact he
  ·exact he
 ·intro p hp
  rcases List.mem_append.1 hp with hp|hp
  ·exact h p hp
  ·simp at hp
   exact⟨c,i,by rw[hp]⟩
theorem zk3 {c:Nat}{i v:Int}{kvs:List (PV×PV)}{M:Mem}(h:ycd kvs)(r:Rel kvs M):Rel (put (yQ c i) (.int v) kvs) (upd M c i v):=by
 intro d j
 rw[ziW _ _ _ _ _ _ h]
 unfold upd
 split
 ·rfl
 ·exact r d j
theorem zlE {k v:PV}{kvs:List (PV×PV)}:(put k v kvs).length<=kvs.length+1:=by
 unfold put
 split
 ·simp
 ·simp
theorem zfL (c:Nat)(i:Int):isKey true (yQ c i)=true:=rfl
structure Dc (st:Store)(n:Nat)(M:Mem)(L:Nat):Prop where
 ex:∃kvs,st[n]?=some (.dct true kvs)/\ycd kvs/\Rel kvs M/\kvs.length<=L
theorem zl {st:Store}{n L:Nat}{M:Mem}(h:Dc st n M L)(c:Nat)(i:Int):ydc st (.loc n) (yQ c i) (.int 0)=.ok (.int (M c i)) st:=by
 obtain⟨kvs,h1,h2,h3,h4⟩:=h
 simp only[ydc,ya0,h1,zfL,if_true,h3 c i]
theorem zw {st:Store}{n L:Nat}{M:Mem}(h:Dc st n M L)(hL:L<999999)(c:Nat)(i v:Int):∃kvs,ybi st (.loc n) (yQ c i) (.int v)=some (st.set n (.dct true kvs))/\Dc (st.set n (.dct true kvs)) n (upd M c i v) (L+1):=by
 obtain⟨kvs,h1,h2,h3,h4⟩:=h
 have hn:n<st.length:=by
  rcases Nat.lt_or_ge n st.length with z|z
  ·exact z
  ·rw[List.getElem?_eq_none z]at h1;cases h1
 refine⟨put (yQ c i) (.int v) kvs,?_,⟨_,List.getElem?_set_self hn,zi0 h2,zk3 h2 h3,Nat.le_trans zlE (by omega)⟩⟩
 have h5:kvs.length<1000000:=by omega
 simp only[ybi,h1,zfL,h5,and_self,if_true]
noncomputable abbrev Cel:=Nat×Int
def yq (x:Cel):PV:=yQ x.1 x.2
inductive Rw where
 | mark (d:Int)|ask (x:Cel)|set (t:Cel) (d:Int)|move (t x:Cel)|bare (t x:Cel)|twice (t x:Cel)|half (t x:Cel)
 | sum (t x y:Cel)|less (t x y:Cel)|both (t x y:Cel)|any (t x y:Cel)|odd (t x y:Cel)|times (l h x y:Cel)
def yr:Rw->PV
 | .mark d=>.tup [.str "mark",.int d]
 | .ask x=>.tup [.str "ask",yq x]
 | .set t d=>.tup [.str "set",yq t,.int d]
 | .move t x=>.tup [.str "move",yq t,yq x]
 | .bare t x=>.tup [.str "bare",yq t,yq x]
 | .twice t x=>.tup [.str "twice",yq t,yq x]
 | .half t x=>.tup [.str "half",yq t,yq x]
 | .sum t x y=>.tup [.str "sum",yq t,yq x,yq y]
 | .less t x y=>.tup [.str "less",yq t,yq x,yq y]
 | .both t x y=>.tup [.str "both",yq t,yq x,yq y]
 | .any t x y=>.tup [.str "any",yq t,yq x,yq y]
 | .odd t x y=>.tup [.str "odd",yq t,yq x,yq y]
 | .times l h x y=>.tup [.str "times",yq l,yq h,yq x,yq y]
noncomputable def rd (M:Mem)(x:Cel):Int:=M x.1 x.2
def wr (M:Mem)(x:Cel)(v:Int):Mem:=upd M x.1 x.2 v
def stepM (W:Int)(M:Mem)(k:Int):Rw->Mem×Int
 | .mark d=>(M,d)
 | .ask x=>(M,bi (!(rd M x == 0)))
 | .set t d=>(wr M t d,k)
 | .move t x=>(wr M t (rd M x),k)
 | .bare t x=>(wr M t (W - 1 - rd M x),k)
 | .twice t x=>(wr M t ((2*rd M x+k)%W),(2*rd M x+k) / W)
 | .half t x=>(wr M t (rd M x / 2+k*(W / 2)),rd M x%2)
 | .sum t x y=>(wr M t ((rd M x+rd M y+k)%W),(rd M x+rd M y+k) / W)
 | .less t x y=>(wr M t ((rd M x - rd M y - k)%W),bi (decide (rd M x - rd M y - k<0)))
 | .both t x y=>(wr M t (Builtin.bitAnd (rd M x) (rd M y)),k)
 | .any t x y=>(wr M t (Builtin.bitOr (rd M x) (rd M y)),k)
 | .odd t x y=>(wr M t (Builtin.bitXor (rd M x) (rd M y)),k)
 | .times l h x y=>(wr (wr M l (rd M x*rd M y%W)) h (rd M x*rd M y / W),k)
def yP (W:Int):List Rw->Mem->Int->Mem×Int
 | [],M,k=>(M,k)
 |r::rs,M,k=>yP W rs (stepM W M k r).1 (stepM W M k r).2
theorem zH (W:Int):∀(a b:List Rw) (M:Mem) (k:Int),yP W (a++b) M k=yP W b (yP W a M k).1 (yP W a M k).2
 | [],b,M,k=>rfl
 |r::a,b,M,k=>by rw[List.cons_append,yP,zH W a b,yP]
theorem zfo {st:Store}{n:Nat}{o:Ob}(h:st[n]?=some o):st=st.set n o:=by
 refine List.ext_getElem? λi=>?_
 rw[List.getElem?_set]
 split
 ·rename_i e
  subst e
  split
  ·exact h
  ·rename_i z
   rw[List.getElem?_eq_none (by omega)]at h
   cases h
 ·rfl
noncomputable abbrev cZ:Cel:=(122,0)
noncomputable abbrev cS:Cel:=(115,0)
noncomputable abbrev cT:Cel:=(116,0)
noncomputable def yw (f:Int->Rw):Nat->List Rw
 |0=>[]
 |n+1=>yw f n++[f n]
def yO (n:Nat):List Rw:=[.set cS 0]++yw (λi=>Rw.any cS cS (99,i)) n++[.ask cS,.set (109,2) 1,.less (109,2) (109,2) cZ,.twice cT (99,(n:Int) - 1),.sum (109,3) cZ cZ]
noncomputable def yK (W:Int):Nat->Int->List Int
 |0,_=>[]
 |n+1,x=>x%W::yK W n (x / W)
theorem zA (W:Int):∀n x,(yK W n x).length=n
 |0,_=>rfl
 |n+1,x=>by rw[yK,List.length_cons,zA]
def yar (c:Nat):Nat->List Int->Mem->Mem
 |_,[],M=>M
 |i,v::vs,M=>yar c (i+1) vs (upd M c i v)
noncomputable def M0:Mem:=λ_ _=>0
def yaQ (W:Int)(n:Nat)(x y:Int):Mem:=yar 98 0 (yK W n y) (yar 97 0 (yK W n x) M0)
noncomputable def yu (W:Int)(M:Mem)(c:Nat):Nat->Int
 |0=>0
 |n+1=>yu W M c n+M c n*W^n
theorem zmQ:∀(n x y:Nat),x<=n->(x ^^^ y)+(x &&& y)=x ||| y
 |n,x,y,h=>by
  by_cases hx:x=0
  ·subst hx;simp
  ·have ih:=zmQ (n - 1) (x / 2) (y / 2) (by omega)
   rw[<- Nat.xor_div_two,<- Nat.and_div_two,<- Nat.or_div_two]at ih
   have m1:(x ^^^ y)%2=((x%2) ^^^ (y%2)):=by
    have:=Nat.xor_mod_two_pow (a:=x) (b:=y) (n:=1);simpa using this
   have m2:(x &&& y)%2=((x%2) &&& (y%2)):=by
    have:=Nat.and_mod_two_pow (a:=x) (b:=y) (n:=1);simpa using this
   have m3:(x ||| y)%2=((x%2) ||| (y%2)):=by
    have:=Nat.or_mod_two_pow (a:=x) (b:=y) (n:=1);simpa using this
   rcases Nat.mod_two_eq_zero_or_one x with a|a <;> rcases Nat.mod_two_eq_zero_or_one y with b|b <;> rw[a,b]at m1 m2 m3 <;> simp only[Nat.reduceXor,Nat.reduceAnd,Nat.reduceOr]at m1 m2 m3 <;> omega
theorem zjU (x y:Nat):Builtin.bitAnd (x:Int) (y:Int)=((x &&& y:Nat):Int):=by
 simp[Builtin.bitAnd]
theorem zdw (x y:Nat):Builtin.bitOr (x:Int) (y:Int)=((x ||| y:Nat):Int):=by
 have h1:¬(0:Int)<=-(x:Int) - 1:=by omega
 have h2:¬(0:Int)<=-(y:Int) - 1:=by omega
 have h3:(-(-(x:Int) - 1) - 1).toNat=x:=by omega
 have h4:(-(-(y:Int) - 1) - 1).toNat=y:=by omega
 simp only[Builtin.bitOr,Builtin.bitAnd,Builtin.bitNot,h1,h2,decide_false,h3,h4]
 omega
theorem zma (x y:Nat):Builtin.bitXor (x:Int) (y:Int)=((x ^^^ y:Nat):Int):=by
 have:=zmQ x x y (Nat.le_refl x)
 rw[Builtin.bitXor,zdw,zjU]
 omega
theorem pw (w:Nat):((2^w:Nat):Int)=2^w:=by simp
theorem zmB {w:Nat}{a b:Int}(a0:0<=a)(b0:0<=b)(b1:b<2^w):0<=Builtin.bitAnd a b/\Builtin.bitAnd a b<2^w:=by
 obtain⟨x,rfl⟩:∃n:Nat,a=n:=⟨a.toNat,by omega⟩
 obtain⟨y,rfl⟩:∃n:Nat,b=n:=⟨b.toNat,by omega⟩
 rw[zjU]
 rw[<- pw]at b1 ⊢
 exact⟨by omega,by exact_mod_cast Nat.and_lt_two_pow x (by omega:y<2^w)⟩
theorem znU {w:Nat}{a b:Int}(a0:0<=a)(a1:a<2^w)(b0:0<=b)(b1:b<2^w):0<=Builtin.bitXor a b/\Builtin.bitXor a b<2^w:=by
 obtain⟨x,rfl⟩:∃n:Nat,a=n:=⟨a.toNat,by omega⟩
 obtain⟨y,rfl⟩:∃n:Nat,b=n:=⟨b.toNat,by omega⟩
 rw[zma]
 rw[<- pw]at a1 b1 ⊢
 exact⟨by omega,by exact_mod_cast Nat.xor_lt_two_pow (by omega:x<2^w) (by omega:y<2^w)⟩
theorem zoa {w:Nat}{a b:Int}(a0:0<=a)(a1:a<2^w)(b0:0<=b)(b1:b<2^w):0<=Builtin.bitOr a b/\Builtin.bitOr a b<2^w:=by
 obtain⟨x,rfl⟩:∃n:Nat,a=n:=⟨a.toNat,by omega⟩
 obtain⟨y,rfl⟩:∃n:Nat,b=n:=⟨b.toNat,by omega⟩
 rw[zdw]
 rw[<- pw]at a1 b1 ⊢
 exact⟨by omega,by exact_mod_cast Nat.or_lt_two_pow (by omega:x<2^w) (by omega:y<2^w)⟩
theorem zgV {a b:Int}(a0:0<=a)(b0:0<=b):Builtin.bitOr a b=0 ↔ a=0/\b=0:=by
 obtain⟨x,rfl⟩:∃n:Nat,a=n:=⟨a.toNat,by omega⟩
 obtain⟨y,rfl⟩:∃n:Nat,b=n:=⟨b.toNat,by omega⟩
 rw[zdw]
 have:=Nat.or_eq_zero_iff (n:=x) (m:=y)
 omega
noncomputable def tb (w:Nat)(a:Int):Int:=(2*a) / 2^w
theorem zna {w:Nat}(hw:0<w){a:Int}(a0:0<=a)(a1:a<2^w):tb w a=if 2^w<=2*a then 1 else 0:=by
 have h1:(0:Int)<2^w:=Int.pow_pos (by omega)
 unfold tb
 split
 ·rename_i h
  exact Int.le_antisymm (Int.le_of_lt_add_one (Int.ediv_lt_of_lt_mul h1 (by omega))) (Int.le_ediv_of_mul_le h1 (by omega))
 ·exact Int.ediv_eq_zero_of_lt (by omega) (by omega)
def Dg (W:Int)(M:Mem)(c n:Nat):Prop:=∀i:Nat,i<n->0<=M c i/\M c i<W
theorem Dg.mono {W:Int}{M:Mem}{c n:Nat}(h:Dg W M c (n+1)):Dg W M c n:=λi hi=>h i (by omega)
theorem zx {W:Int}{M M':Mem}{c c':Nat}:∀n,(∀i:Nat,i<n->M c i=M' c' i)->yu W M c n=yu W M' c' n
 |0,_=>rfl
 |n+1,h=>by rw[yu,yu,zx n λi hi=>h i (by omega),h n (by omega)]
theorem zaG {W:Int}(hW:0<W){M:Mem}{c:Nat}:∀n,Dg W M c n->0<=yu W M c n/\yu W M c n<W^n
 |0,_=>by simp[yu]
 |n+1,h=>by
  obtain⟨a,b⟩:=zaG hW n h.mono
  obtain⟨c0,c1⟩:=h n (by omega)
  have hp:0<W^n:=Int.pow_pos hW
  have h1:0<=M c n*W^n:=Int.mul_nonneg c0 (by omega)
  have h2:M c n*W^n<=(W - 1)*W^n:=Int.mul_le_mul_of_nonneg_right (by omega) (by omega)
  rw[Int.sub_mul,Int.one_mul]at h2
  rw[yu,Int.pow_succ,Int.mul_comm (W^n) W]
  omega
theorem zaS {W:Int}(hW:0<W){M:Mem}{c:Nat}:∀n,Dg W M c n->(yu W M c n=0 ↔ ∀i:Nat,i<n->M c i=0)
 |0,_=>by simp[yu]
 |n+1,h=>by
  have ih:=zaS hW n h.mono
  obtain⟨a,b⟩:=zaG hW n h.mono
  obtain⟨c0,c1⟩:=h n (by omega)
  have hp:0<W^n:=Int.pow_pos hW
  have h1:0<=M c n*W^n:=Int.mul_nonneg c0 (by omega)
  rw[yu]
  constructor
  ·intro h2 i hi
   have h3:M c n*W^n=0:=by omega
   rcases Nat.lt_or_ge i n with z|z
   ·exact ih.1 (by omega) i z
   ·rw[show i=n by omega]
    rcases Int.mul_eq_zero.1 h3 with e|e
    ·exact e
    ·omega
  ·intro h2
   rw[h2 n (by omega),ih.2 λi hi=>h2 i (by omega)]
   simp
theorem zlD {w:Nat}(hw:0<w){M:Mem}{c n:Nat}(h:Dg (2^w) M c (n+1)):tb w (M c n)=if (2^w:Int)^(n+1)<=2*yu (2^w) M c (n+1)then 1 else 0:=by
 obtain⟨c0,c1⟩:=h n (by omega)
 obtain⟨a,b⟩:=zaG (Int.pow_pos (by omega)) n h.mono
 rw[zna hw c0 c1,yu]
 obtain⟨v,rfl⟩:∃v,w=v+1:=⟨w - 1,by omega⟩
 have hp:0<((2:Int)^(v+1))^n:=Int.pow_pos (Int.pow_pos (by omega))
 rw[Int.pow_succ ((2:Int)^(v+1)) n]
 generalize ((2:Int)^(v+1))^n=P at *
 generalize hV:yu (2^(v+1)) M c n=V at *
 rw[Int.pow_succ]at *
 generalize (2:Int)^v=H at *
 generalize M c (n:Int)=d at *
 by_cases hd:H<=d
 ·have h1:=Int.mul_le_mul_of_nonneg_right hd (show 0<=P by omega)
  have h2:P*(H*2)=2*(H*P):=by rw[Int.mul_comm P,Int.mul_assoc,Int.mul_comm 2 P,<- Int.mul_assoc,Int.mul_comm 2]
  rw[if_pos (by omega),if_pos (by rw[h2];omega)]
 ·have h1:=Int.mul_le_mul_of_nonneg_right (show d<=H - 1 by omega) (show 0<=P by omega)
  rw[Int.sub_mul,Int.one_mul]at h1
  have h2:P*(H*2)=2*(H*P):=by rw[Int.mul_comm P,Int.mul_assoc,Int.mul_comm 2 P,<- Int.mul_assoc,Int.mul_comm 2]
  rw[if_neg (by omega),if_neg (by rw[h2];omega)]
theorem zfi {W:Int}(M:Mem)(k:Int)(hS:0<=M 115 0):∀n,(∀i:Nat,i<n->0<=M 99 i) ->
  (yP W (yw (λi=>Rw.any cS cS (99,i)) n) M k).2=k/\(∀d j,d≠115->(yP W (yw (λi=>Rw.any cS cS (99,i)) n) M k).1 d j=M d j)/\0<=(yP W (yw (λi=>Rw.any cS cS (99,i)) n) M k).1 115 0/\((yP W (yw (λi=>Rw.any cS cS (99,i)) n) M k).1 115 0=0 ↔ M 115 0=0/\∀i:Nat,i<n->M 99 i=0)
 |0,_=>⟨rfl,λ_ _ _=>rfl,hS,by simp[yw,yP]⟩
 |n+1,h=>by
  obtain⟨h1,h2,h3,h4⟩:=zfi (W:=W) M k hS n λi hi=>h i (by omega)
  rw[yw,zH]
  generalize yP W (yw (λi=>Rw.any cS cS (99,i)) n) M k=R at *
  obtain⟨M1,k'⟩:=R
  simp only at *
  have hb:=h n (by omega)
  simp only[yP,stepM,rd,wr,cS,h2 99 n (by decide)]
  have hz:=zgV h3 hb
  refine⟨h1,λd j hd=>?_,?_,?_⟩
  ·unfold upd
   rw[if_neg (by omega),h2 d j hd]
  ·unfold upd
   rw[if_pos ⟨rfl,rfl⟩]
   obtain⟨x,hx⟩:∃x:Nat,M1 115 0=x:=⟨(M1 115 0).toNat,by omega⟩
   obtain⟨y,hy⟩:∃y:Nat,M 99 n=y:=⟨(M 99 n).toNat,by omega⟩
   rw[hx,hy,zdw]
   omega
  ·unfold upd
   rw[if_pos ⟨rfl,rfl⟩,hz,h4]
   constructor
   ·rintro⟨⟨a,b⟩,c⟩
    refine⟨a,λi hi=>?_⟩
    rcases Nat.lt_or_ge i n with z|z
    ·exact b i z
    ·rw[show i=n by omega];exact c
   ·rintro⟨a,b⟩
    exact⟨⟨a,λi hi=>b i (by omega)⟩,b n (by omega)⟩
theorem zhe {W:Int}{r:Rw}{rs:List Rw}{M:Mem}{k:Int}:yP W (r::rs) M k=yP W rs (stepM W M k r).1 (stepM W M k r).2:=rfl
theorem zdD (b:Bool):0<=bi b/\bi b<=1:=by cases b <;> decide
theorem zjy {w:Nat}(hw:1<w){n:Nat}(M:Mem)(k:Int)(hc:Dg (2^w) M 99 (n+1))(hz:M 122 0=0) :
  (∀j,(yP (2^w) (yO (n+1)) M k).1 99 j=M 99 j)/\(yP (2^w) (yO (n+1)) M k).1 109 0=M 109 0/\(yP (2^w) (yO (n+1)) M k).1 109 1=M 109 1 /\
  (yP (2^w) (yO (n+1)) M k).1 109 2=bi (yu (2^w) M 99 (n+1) == 0)/\(yP (2^w) (yO (n+1)) M k).1 109 3=bi (decide ((2^w:Int)^(n+1)<=2*yu (2^w) M 99 (n+1))):=by
 have hW:(0:Int)<2^w:=Int.pow_pos (by omega)
 have hW4:(4:Int)<=2^w:=by
  have h:(2:Nat)^2<=2^w:=Nat.pow_le_pow_right (by omega) (by omega)
  have h2:=pw w
  omega
 obtain⟨h1,h2,h3,h4⟩:=zfi (W:=2^w) (wr M cS 0) k (by simp[wr,upd]) (n+1) (λi hi=>by simp[wr,upd];exact(hc i hi).1)
 have e:yO (n+1)=.set cS 0::(yw (λi=>Rw.any cS cS (99,i)) (n+1)++[.ask cS,.set (109,2) 1,.less (109,2) (109,2) cZ,.twice cT (99,((n+1:Nat):Int) - 1),.sum (109,3) cZ cZ]):=rfl
 have hst:stepM (2^w) M k (.set cS 0)=(wr M cS 0,k):=rfl
 rw[e,zhe,hst,zH]
 generalize yP (2^w) (yw (λi=>Rw.any cS cS (99,i)) (n+1)) (wr M cS 0) k=R at *
 obtain⟨M1,k'⟩:=R
 simp only at *
 subst h1
 have g:∀d j,d≠115->M1 d j=M d j:=λd j hd=>by
  rw[h2 d j hd]
  simp only[wr,upd,cS]
  rw[if_neg (by omega)]
 have hn:((n+1:Nat):Int) - 1=n:=by omega
 have h5:M1 115 0=0 ↔ yu (2^w) M 99 (n+1)=0:=by
  rw[h4,zaS hW (n+1) hc]
  constructor
  ·rintro⟨_,b⟩ i hi
   have:=b i hi
   simpa [wr,upd] using this
  ·intro b
   exact⟨by simp[wr,upd],λi hi=>by simpa [wr,upd] using b i hi⟩
 have ht:=zlD (by omega) hc
 have hb:bi (!(M1 115 0 == 0))=1 - bi (yu (2^w) M 99 (n+1) == 0):=by
  by_cases hv:yu (2^w) M 99 (n+1)=0
  ·rw[h5.2 hv,hv];rfl
  ·have:¬M1 115 0=0:=λz=>hv (h5.1 z)
   rw[beq_eq_false_iff_ne.2 this,beq_eq_false_iff_ne.2 hv];rfl
 have hbr:=zdD (yu (2^w) M 99 (n+1) == 0)
 rw[hn]
 simp only[yP,stepM,rd,wr,upd,cS,cT,cZ]
 rw[hb]
 generalize bi (yu (2^w) M 99 (n+1) == 0)=v at *
 have hm:bi (decide ((1:Int) - 0 - (1 - v)<0))=0:=by
  rw[decide_eq_false (by omega)];rfl
 have hm2:(1 - 0 - (1 - v))%(2:Int)^w=v:=by
  rw[show 1 - 0 - (1 - v)=v by omega]
  exact Int.emod_eq_of_lt (by omega) (by omega)
 have hT:(2*M 99 n+0) / 2^w=bi (decide ((2^w:Int)^(n+1)<=2*yu (2^w) M 99 (n+1))):=by
  rw[Int.add_zero]
  show tb w (M 99 n)=_
  rw[ht]
  by_cases q:(2^w:Int)^(n+1)<=2*yu (2^w) M 99 (n+1)
  ·rw[if_pos q,decide_eq_true q];rfl
  ·rw[if_neg q,decide_eq_false q];rfl
 have hTr:=zdD (decide ((2^w:Int)^(n+1)<=2*yu (2^w) M 99 (n+1)))
 simp only[Nat.reduceEqDiff,false_and,if_false,Int.reduceEq,and_false,and_self,if_true,g _ _ (show (99:Nat)≠115 by decide),g _ _ (show (109:Nat)≠115 by decide),g _ _ (show (122:Nat)≠115 by decide),hz,hm,hm2,hT]
 refine⟨λj=>trivial,trivial,trivial,trivial,?_⟩
 rw[show (0:Int)+0+bi (decide ((2^w:Int)^(n+1)<=2*yu (2^w) M 99 (n+1)))=bi (decide ((2^w:Int)^(n+1)<=2*yu (2^w) M 99 (n+1)))by omega]
 exact Int.emod_eq_of_lt (by omega) (by omega)
theorem zaQ {c d:Nat}(h:d≠c)(j:Int):∀(vs:List Int) (i:Nat) (M:Mem),yar c i vs M d j=M d j
 | [],_,_=>rfl
 |v::vs,i,M=>by
  rw[yar,zaQ h j vs,upd,if_neg (by omega)]
theorem zce {c:Nat}(j:Int):∀(vs:List Int) (i:Nat) (M:Mem),j<i->yar c i vs M c j=M c j
 | [],_,_,_=>rfl
 |v::vs,i,M,h=>by
  rw[yar,zce j vs (i+1) _ (by omega),upd,if_neg (by omega)]
theorem zc4 {c:Nat}:∀(vs:List Int) (i:Nat) (M:Mem) (k:Nat),k<vs.length->yar c i vs M c ((i+k:Nat):Int)=vs.getD k 0
 | [],_,_,_,h=>by simp at h
 |v::vs,i,M,0,h=>by
  rw[yar,zce _ vs (i+1) _ (by omega),upd,if_pos ⟨rfl,by simp⟩]
  rfl
 |v::vs,i,M,k+1,h=>by
  rw[yar,show i+(k+1)=i+1+k by omega,zc4 vs (i+1) _ k (by simpa using h)]
  rfl
theorem zcg {W:Int}(hW:0<W):∀(n:Nat) (x:Int) (k:Nat),k<n->(yK W n x).getD k 0=x / W^k%W
 |0,_,_,h=>by omega
 |n+1,x,0,h=>by simp[yK]
 |n+1,x,k+1,h=>by
  rw[yK]
  show (yK W n (x / W)).getD k 0=_
  rw[zcg hW n (x / W) k (by omega),Int.pow_succ,Int.mul_comm (W^k),Int.ediv_ediv_of_nonneg (by omega)]
theorem zcN {W x:Int}(hW:0<W)(n:Nat):x%W^(n+1)=x%W^n+x / W^n%W*W^n:=by
 have hp:0<W^n:=Int.pow_pos hW
 rw[Int.pow_succ]
 generalize W^n=P at *
 have e1:=Int.emod_add_mul_ediv x P
 have e2:=Int.emod_add_mul_ediv (x / P) W
 have a0:=Int.emod_nonneg x (show P≠0 by omega)
 have a1:=Int.emod_lt_of_pos x hp
 have b0:=Int.emod_nonneg (x / P) (show W≠0 by omega)
 have b1:=Int.emod_lt_of_pos (x / P) hW
 generalize x%P=r at *
 generalize x / P=q at *
 generalize q%W=s at *
 generalize q / W=t at *
 subst e2
 have e3:x=r+s*P+P*W*t:=by
  rw[<- e1,Int.mul_add,Int.mul_comm P s,Int.mul_assoc P W t];omega
 have c1:s*P<=(W - 1)*P:=Int.mul_le_mul_of_nonneg_right (by omega) (by omega)
 have c0:0<=s*P:=Int.mul_nonneg b0 (by omega)
 rw[Int.sub_mul,Int.one_mul]at c1
 rw[e3,Int.add_mul_emod_self_left,Int.emod_eq_of_lt (by omega) (by rw[Int.mul_comm P W];omega)]
theorem zc3 {W:Int}(hW:0<W){M:Mem}{c:Nat}{x:Int}:∀n,(∀i:Nat,i<n->M c i=x / W^i%W)->yu W M c n=x%W^n
 |0,_=>by simp[yu,Int.emod_one]
 |n+1,h=>by rw[yu,zc3 hW n λi hi=>h i (by omega),h n (by omega),zcN hW]
section
variable {W:Int}(n:Nat)(x y:Int)
theorem zkv {d:Nat}(h1:d≠97)(h2:d≠98)(j:Int):yaQ W n x y d j=0:=by
 rw[yaQ,zaQ h2,zaQ h1];rfl
variable (hW:0<W)
include hW
theorem zoS {i:Nat}(h:i<n):yaQ W n x y 97 i=x / W^i%W:=by
 rw[yaQ,zaQ (by decide)]
 have:=zc4 (c:=97) (yK W n x) 0 M0 i (by rw[zA];exact h)
 rw[Nat.zero_add]at this
 rw[this,zcg hW n x i h]
theorem zop {i:Nat}(h:i<n):yaQ W n x y 98 i=y / W^i%W:=by
 rw[yaQ]
 have:=zc4 (c:=98) (yK W n y) 0 (yar 97 0 (yK W n x) M0) i (by rw[zA];exact h)
 rw[Nat.zero_add]at this
 rw[this,zcg hW n y i h]
theorem zmn (h0:0<=x)(h1:x<W^n):yu W (yaQ W n x y) 97 n=x:=by
 rw[zc3 hW n λi hi=>zoS n x y hW hi,Int.emod_eq_of_lt h0 h1]
theorem znS (h0:0<=y)(h1:y<W^n):yu W (yaQ W n x y) 98 n=y:=by
 rw[zc3 hW n λi hi=>zop n x y hW hi,Int.emod_eq_of_lt h0 h1]
end
def Good (w:Nat)(M:Mem)(k:Int):Prop:=(∀c i,0<=M c i/\M c i<2^w)/\0<=k/\k<=1
noncomputable def okD:Rw->Prop
 | .mark d=>0<=d/\d<=1
 | .set _ d=>0<=d/\d<=1
 |_=>True
theorem zB {w:Nat}{M:Mem}(h:∀c i,0<=M c i/\M c i<2^w)(t:Cel){v:Int}(v0:0<=v)(v1:v<2^w):∀c i,0<=wr M t v c i/\wr M t v c i<2^w:=by
 intro c i
 unfold wr upd
 split
 ·exact⟨v0,v1⟩
 ·exact h c i
theorem zej {w:Nat}(hw:1<=w){M:Mem}{k:Int}(h:Good w M k){r:Rw}(hd:okD r):Good w (stepM (2^w) M k r).1 (stepM (2^w) M k r).2:=by
 obtain⟨g,k0,k1⟩:=h
 have hW2:(2:Int)<=2^w:=by
  have h:(2:Nat)^1<=2^w:=Nat.pow_le_pow_right (by omega) hw
  have h2:=pw w
  omega
 have hW0:(2:Int)^w≠0:=by omega
 have hWp:(0:Int)<2^w:=by omega
 have md:∀z:Int,0<=z%2^w/\z%2^w<2^w:=λz=>⟨Int.emod_nonneg _ hW0,Int.emod_lt_of_pos _ hWp⟩
 have dv:∀z:Int,0<=z->z<2*2^w->0<=z / 2^w/\z / 2^w<=1:=λz z0 z1=>⟨Int.ediv_nonneg z0 (by omega),by
  have:=Int.ediv_lt_of_lt_mul hWp (a:=z) (b:=2) (by omega)
  omega⟩
 cases r with
 |mark d=>exact⟨g,hd⟩
 |ask x=>exact⟨g,zdD _⟩
 |set t d=>exact⟨zB g t hd.1 (by have:=hd.2;omega),k0,k1⟩
 |move t x=>exact⟨zB g t (g _ _).1 (g _ _).2,k0,k1⟩
 |bare t x =>
  have:=g x.1 x.2
  exact⟨zB g t (by simp only[rd];omega) (by simp only[rd];omega),k0,k1⟩
 |twice t x =>
  have:=g x.1 x.2
  exact⟨zB g t (md _).1 (md _).2,dv _ (by simp only[rd];omega) (by simp only[rd];omega)⟩
 |half t x =>
  have:=g x.1 x.2
  have hH:(2:Int)^w=2*(2^w / 2):=by
   obtain⟨v,rfl⟩:∃v,w=v+1:=⟨w - 1,by omega⟩
   rw[Int.pow_succ];omega
  have hk:k*(2^w / 2)=0 \/ k*((2:Int)^w / 2)=2^w / 2:=by
   rcases (by omega:k=0 \/ k=1)with rfl|rfl
   ·left;omega
   ·right;omega
  refine⟨zB g t ?_ ?_,?_,?_⟩
  ·simp only[rd];omega
  ·simp only[rd];omega
  ·simp only[stepM,rd];omega
  ·simp only[stepM,rd];omega
 |sum t x y =>
  have:=g x.1 x.2
  have:=g y.1 y.2
  exact⟨zB g t (md _).1 (md _).2,dv _ (by simp only[rd];omega) (by simp only[rd];omega)⟩
 |less t x y=>exact⟨zB g t (md _).1 (md _).2,zdD _⟩
 |both t x y =>
  have h:=zmB (w:=w) (g x.1 x.2).1 (g y.1 y.2).1 (g y.1 y.2).2
  exact⟨zB g t h.1 h.2,k0,k1⟩
 |any t x y =>
  have h:=zoa (w:=w) (g x.1 x.2).1 (g x.1 x.2).2 (g y.1 y.2).1 (g y.1 y.2).2
  exact⟨zB g t h.1 h.2,k0,k1⟩
 |odd t x y =>
  have h:=znU (w:=w) (g x.1 x.2).1 (g x.1 x.2).2 (g y.1 y.2).1 (g y.1 y.2).2
  exact⟨zB g t h.1 h.2,k0,k1⟩
 |times l t x y =>
  have a:=g x.1 x.2
  have b:=g y.1 y.2
  have p0:0<=M x.1 x.2*M y.1 y.2:=Int.mul_nonneg a.1 b.1
  have p1:M x.1 x.2*M y.1 y.2<2^w*2^w:=by
   rcases (by omega:M x.1 x.2=0 \/ 0<M x.1 x.2)with z|z
   ·rw[z,Int.zero_mul];exact Int.mul_pos hWp hWp
   ·exact Int.lt_of_lt_of_le (Int.mul_lt_mul_of_pos_left b.2 z) (Int.mul_le_mul_of_nonneg_right (by omega) (by omega))
  refine⟨zB (zB g l (md _).1 (md _).2) t ?_ ?_,k0,k1⟩
  ·exact Int.ediv_nonneg p0 (by omega)
  ·exact Int.ediv_lt_of_lt_mul hWp p1
theorem zfl {w:Nat}(hw:1<=w):∀(rs:List Rw) {M:Mem} {k:Int},Good w M k->(∀r∈rs,okD r)->Good w (yP (2^w) rs M k).1 (yP (2^w) rs M k).2
 | [],_,_,h,_=>h
 |r::rs,_,_,h,hd=>zfl hw rs (zej hw h (hd r List.mem_cons_self)) λq hq=>hd q (List.mem_cons_of_mem _ hq)
theorem zca {w:Nat}{c:Nat}:∀(vs:List Int) (i:Nat) (M:Mem),(∀c i,0<=M c i/\M c i<2^w)->(∀v∈vs,0<=v/\v<2^w)->∀d j,0<=yar c i vs M d j/\yar c i vs M d j<2^w
 | [],_,_,h,_=>h
 |v::vs,i,M,h,hv=>by
  rw[yar]
  refine zca vs (i+1) _ (λc' j=>?_) λu hu=>hv u (List.mem_cons_of_mem _ hu)
  unfold upd
  split
  ·exact hv v List.mem_cons_self
  ·exact h c' j
theorem za6 {w:Nat}:∀(n:Nat) (x:Int),∀v∈yK (2^w) n x,0<=v/\v<2^w
 |0,_,v,h=>by cases h
 |n+1,x,v,h=>by
  have hWp:(0:Int)<2^w:=Int.pow_pos (by omega)
  rw[yK,List.mem_cons]at h
  rcases h with rfl|h
  ·exact⟨Int.emod_nonneg _ (by omega),Int.emod_lt_of_pos _ hWp⟩
  ·exact za6 n _ v h
theorem zfC {w:Nat}(hw:1<=w)(n:Nat)(x y:Int):Good w (yaQ (2^w) n x y) 0:=by
 have hWp:(0:Int)<2^w:=Int.pow_pos (by omega)
 exact⟨zca _ _ _ (zca _ _ _ (λc i=>⟨Int.le_refl _,hWp⟩) (za6 n x)) (za6 n y),by omega,by omega⟩
structure Cx where
 l:Nat
 c:Int
 i:Int
 j:Int
 m:Int
deriving DecidableEq
inductive Op where
 | fig (d:Int)|cel (x:Cx)
deriving DecidableEq
structure Rs where
 nm:Str
 ops:List Op
deriving DecidableEq
inductive T2 where
 | row (r:Rs)|rounds (c m t:Int) (rs:List Rs)
deriving DecidableEq
inductive T1 where
 | row (r:Rs)|rounds (c m t:Int) (ps:List T2)
deriving DecidableEq
noncomputable def Cx.at (x:Cx)(I J n:Int):Int:=x.c+x.i*I+x.j*J+x.m*n
def Op.pv (I J n:Int):Op->PV
 | .fig d=>.int d
 | .cel x=>yQ x.l (x.at I J n)
def Rs.pv (r:Rs)(I J n:Int):PV:=.tup (.str r.nm::r.ops.map (Op.pv I J n))
noncomputable def cnt (c m t w n:Int):Nat:=(c+m*n+t*w*n).toNat
noncomputable def upTo {α:Type}(f:Nat->List α):Nat->List α
 |0=>[]
 |n+1=>upTo f n++f n
def T2.rows (w n:Int)(I:Nat):T2->List PV
 | .row r=>[r.pv I 0 n]
 | .rounds c m t rs=>upTo (λJ=>rs.map λr=>r.pv I J n) (cnt c m t w n)
def T2.rnd (w n:Int):T2->Nat
 | .row _=>0
 | .rounds c m t _=>cnt c m t w n
def yad (w n:Int)(I:Nat)(ps:List T2):List PV:=ps.flatMap (T2.rows w n I)
def yaM (w n:Int)(ps:List T2):Nat:=(ps.map (T2.rnd w n)).sum
def T1.rows (w n:Int):T1->List PV
 | .row r=>[r.pv 0 0 n]
 | .rounds c m t ps=>upTo (λI=>yad w n I ps) (cnt c m t w n)
def T1.rnd (w n:Int):T1->Nat
 | .row _=>0
 | .rounds c m t ps=>cnt c m t w n*(1+yaM w n ps)
def yW (w n:Int)(ps:List T1):List PV:=ps.flatMap (T1.rows w n)
def yaS (w n:Int)(ps:List T1):Nat:=(ps.map (T1.rnd w n)).sum
noncomputable def sm (i:Int):Bool:=decide (i.natAbs<=200)
def ydw:PV->Option Op
 | .int d=>some (.fig d)
 | .tp _ [.str s,.tp _ [.int c,.int i,.int j,.int m]]=>if s=chS (s.cps.getD 0 0)/\(sm c && sm i && sm j && sm m)=true then some (.cel ⟨s.cps.getD 0 0,c,i,j,m⟩)else none
 |_=>none
def ybj:List PV->Option (List Op)
 | []=>some []
 |v::vs=>match ydw v,ybj vs with
  |some a,some b=>some (a::b)
  |_,_=>none
def rowOf:PV->Option Rs
 | .tp _ (.str nm::vs)=>match ybj vs with
  |some ops=>if vs.length<100 then some ⟨nm,ops⟩else none
  |none=>none
 |_=>none
noncomputable def yde (s:Str):Bool:=decide (s=Str.ofString "row")
def yb7:PV->Option Rs
 | .tp _ [.str s,v]=>if yde s then rowOf v else none
 |_=>none
def deepOf:List PV->Option (List Rs)
 | []=>some []
 |v::vs=>match yb7 v,deepOf vs with
  |some a,some b=>some (a::b)
  |_,_=>none
noncomputable def yb2 (s:Str):Bool:=decide (s=Str.ofString "rounds")
def part2 (v:PV):Option T2 :=
 match v with
 | .tp _ [.str s,.tp _ [.int c,.int m,.int t],_,.tp _ vs]=>if yb2 s && (sm c && sm m && sm t)then(deepOf vs).map (.rounds c m t)else none
 |v=>(yb7 v).map .row
def yaw:List PV->Option (List T2)
 | []=>some []
 |v::vs=>match part2 v,yaw vs with
  |some a,some b=>some (a::b)
  |_,_=>none
def part1 (v:PV):Option T1 :=
 match v with
 | .tp _ [.str s,.tp _ [.int c,.int m,.int t],_,.tp _ vs]=>if yb2 s && (sm c && sm m && sm t)then(yaw vs).map (.rounds c m t)else none
 |v=>(yb7 v).map .row
def yaq:List PV->Option (List T1)
 | []=>some []
 |v::vs=>match part1 v,yaq vs with
  |some a,some b=>some (a::b)
  |_,_=>none
theorem zhU {v:PV}{o:Op}(h:ydw v=some o):(∃d,o=.fig d/\v=.int d) \/ ∃a b x,o=.cel x/\v=.tp a [.str (chS x.l),.tp b [.int x.c,.int x.i,.int x.j,.int x.m]]/\x.i.natAbs<=200/\x.j.natAbs<=200/\x.m.natAbs<=200:=by
 unfold ydw at h
 split at h
 ·left;cases h;exact⟨_,rfl,rfl⟩
 ·right
  rename_i a s b c i j m
  split at h
  ·rename_i q
   cases h
   have q2:=q.2
   simp only[sm,Bool.and_eq_true,decide_eq_true_eq]at q2
   refine⟨a,b,_,rfl,?_,q2.1.1.2,q2.1.2,q2.2⟩
   simp only
   rw[<- q.1]
  ·cases h
 ·cases h
theorem zfD {v:PV}{r:Rs}(h:rowOf v=some r):∃a vs,v=.tp a (.str r.nm::vs)/\ybj vs=some r.ops/\vs.length<100:=by
 unfold rowOf at h
 split at h
 ·rename_i a nm vs
  split at h
  ·rename_i ops q
   split at h
   ·rename_i z
    cases h;exact⟨a,vs,rfl,q,z⟩
   ·cases h
  ·cases h
 ·cases h
theorem ze4 {v:PV}{r:Rs}(h:yb7 v=some r):∃a v1,v=.tp a [.str "row",v1]/\rowOf v1=some r:=by
 unfold yb7 at h
 split at h
 ·rename_i a s v1
  split at h
  ·rename_i q
   have q:s=Str.ofString "row":=by simpa [yde] using q
   exact⟨a,v1,by rw[q],h⟩
  ·cases h
 ·cases h
theorem ziP {v:PV}{p:T2}(h:part2 v=some p):(∃r,p=.row r/\yb7 v=some r) \/ ∃a b sn d vs c m t rs,p=.rounds c m t rs/\v=.tp a [.str "rounds",.tp b [.int c,.int m,.int t],sn,.tp d vs]/\deepOf vs=some rs/\c.natAbs<=200/\m.natAbs<=200/\t.natAbs<=200:=by
 unfold part2 at h
 split at h
 ·right
  rename_i a s b c m t sn d vs
  split at h
  ·rename_i q
   simp only[yb2,sm,Bool.and_eq_true,decide_eq_true_eq]at q
   cases e:deepOf vs with
   |none=>rw[e]at h;cases h
   |some rs =>
    rw[e]at h
    cases h
    exact⟨a,b,sn,d,vs,c,m,t,rs,rfl,by rw[q.1],e,q.2.1.1,q.2.1.2,q.2.2⟩
  ·cases h
 ·left
  cases e:yb7 v with
  |none=>rw[e]at h;cases h
  |some r=>rw[e]at h;cases h;exact⟨r,rfl,rfl⟩
theorem zjE {v:PV}{p:T1}(h:part1 v=some p):(∃r,p=.row r/\yb7 v=some r) \/ ∃a b sn d vs c m t ps,p=.rounds c m t ps/\v=.tp a [.str "rounds",.tp b [.int c,.int m,.int t],sn,.tp d vs]/\yaw vs=some ps/\c.natAbs<=200/\m.natAbs<=200/\t.natAbs<=200:=by
 unfold part1 at h
 split at h
 ·right
  rename_i a s b c m t sn d vs
  split at h
  ·rename_i q
   simp only[yb2,sm,Bool.and_eq_true,decide_eq_true_eq]at q
   cases e:yaw vs with
   |none=>rw[e]at h;cases h
   |some rs =>
    rw[e]at h
    cases h
    exact⟨a,b,sn,d,vs,c,m,t,rs,rfl,by rw[q.1],e,q.2.1.1,q.2.1.2,q.2.2⟩
  ·cases h
 ·left
  cases e:yb7 v with
  |none=>rw[e]at h;cases h
  |some r=>rw[e]at h;cases h;exact⟨r,rfl,rfl⟩
noncomputable abbrev cL:Cel:=(108,0)
noncomputable abbrev cHi:Cel:=(104,0)
noncomputable abbrev cO:Cel:=(111,0)
def inR (I J:Nat):List Rw:=[.times cL cHi (97,J) (98,I),.sum cL cL cO,.sum cHi cHi cZ,.sum (99,(I:Int)+J) (99,(I:Int)+J) cL,.sum cO cHi cZ]
def yal (n I:Nat):List Rw:=.mark 0 :: .set cO 0::(upTo (inR I) n++[.move (99,(I:Int)+n) cO])
def yae (n:Nat):List Rw:=upTo (yal n) n
def yI (n:Nat):List Rw:=.set cS 0::(yw (λi=>.any cS cS (99,(n:Int)+i)) n++[.ask cS,.sum (109,1) cZ cZ])
def yj (n:Nat):List Rw:=yae n++(yI n++yO (2*n))
theorem zkU {w:Nat}(hw:1<=w):(2:Int)<=2^w:=by
 have h:(2:Nat)^1<=2^w:=Nat.pow_le_pow_right (by omega) hw
 have h2:=pw w
 omega
theorem zjh {W A B o c:Int}(hW:2<=W)(a0:0<=A)(a1:A<W)(b0:0<=B)(b1:B<W)(o0:0<=o)(o1:o<W)(c0:0<=c)(c1:c<W) :
  (A*B / W+0+(A*B%W+o+0) / W) / W=0/\((A*B / W+0+(A*B%W+o+0) / W)%W+0+(c+(A*B%W+o+0)%W+0) / W) / W=0 /\
  (c+(A*B%W+o+0)%W+0)%W+W*(((A*B / W+0+(A*B%W+o+0) / W)%W+0+(c+(A*B%W+o+0)%W+0) / W)%W)=A*B+o+c:=by
 have hW0:W≠0:=by omega
 have hWp:0<W:=by omega
 have hP:A*B<=(W - 1)*(W - 1):=Int.mul_le_mul (by omega) (by omega) b0 (by omega)
 have hP0:0<=A*B:=Int.mul_nonneg a0 b0
 have hE:(W - 1)*(W - 1)=W*W - 2*W+1:=by rw[Int.sub_mul,Int.mul_sub];omega
 have hE2:(W - 1)*W=W*W - W:=by rw[Int.sub_mul];omega
 generalize A*B=P at *
 have h1:P / W<W - 1:=Int.ediv_lt_of_lt_mul hWp (by omega)
 have h0:0<=P / W:=Int.ediv_nonneg hP0 (by omega)
 have e1:=Int.emod_add_mul_ediv P W
 have l0:=Int.emod_nonneg P hW0
 have l1:=Int.emod_lt_of_pos P hWp
 generalize P / W=h at *
 generalize P%W=l at *
 simp only[Int.add_zero]
 have e2:=Int.emod_add_mul_ediv (l+o) W
 have k0:0<=(l+o) / W:=Int.ediv_nonneg (by omega) (by omega)
 have k1:(l+o) / W<2:=Int.ediv_lt_of_lt_mul hWp (by omega)
 have m0:=Int.emod_nonneg (l+o) hW0
 have m1:=Int.emod_lt_of_pos (l+o) hWp
 generalize (l+o) / W=k at *
 generalize (l+o)%W=l2 at *
 have q1:(h+k) / W=0:=Int.ediv_eq_zero_of_lt (by omega) (by omega)
 have q2:(h+k)%W=h+k:=Int.emod_eq_of_lt (by omega) (by omega)
 rw[q2]
 have e3:=Int.emod_add_mul_ediv (c+l2) W
 have j0:0<=(c+l2) / W:=Int.ediv_nonneg (by omega) (by omega)
 have n0:=Int.emod_nonneg (c+l2) hW0
 have n1:=Int.emod_lt_of_pos (c+l2) hWp
 generalize (c+l2) / W=k3 at *
 generalize (c+l2)%W=c2 at *
 have hT:c2+W*(h+k+k3)=P+o+c:=by
  rw[Int.mul_add,Int.mul_add];omega
 have hlt:W*(h+k+k3)<W*W:=by omega
 have hlt2:h+k+k3<W:=Int.lt_of_mul_lt_mul_left hlt (by omega)
 refine⟨q1,Int.ediv_eq_zero_of_lt (by omega) hlt2,?_⟩
 rw[Int.emod_eq_of_lt (by omega) hlt2]
 exact hT
theorem zjW {I J:Nat}:∀r∈inR I J,okD r:=by
 intro r hr
 simp only[inR,List.mem_cons,List.not_mem_nil,or_false]at hr
 rcases hr with rfl|rfl|rfl|rfl|rfl <;> trivial
theorem zlN {w:Nat}(hw:1<=w){M:Mem}{I J:Nat}(hg:Good w M 0)(hz:M 122 0=0) :
  ∃M',yP (2^w) (inR I J) M 0=(M',0)/\Good w M' 0/\M' 99 ((I+J:Nat):Int)+2^w*M' 111 0=M 97 J*M 98 I+M 111 0+M 99 ((I+J:Nat):Int)/\∀d j,d≠108->d≠104->d≠111->(d≠99 \/ j≠((I+J:Nat):Int))->M' d j=M d j:=by
 have hgg:=zfl hw (inR I J) hg zjW
 have hc:(I:Int)+(J:Int)=((I+J:Nat):Int):=by omega
 obtain⟨s1,s2,s3⟩:=zjh (zkU hw) (hg.1 97 J).1 (hg.1 97 J).2 (hg.1 98 I).1 (hg.1 98 I).2 (hg.1 111 0).1 (hg.1 111 0).2 (hg.1 99 ((I+J:Nat):Int)).1 (hg.1 99 ((I+J:Nat):Int)).2
 have hr:(yP (2^w) (inR I J) M 0).2=0:=by
  simp only[inR,yP,stepM,rd,wr,upd,cL,cHi,cO,cZ,hc,Nat.reduceEqDiff,false_and,if_false,and_self,if_true,hz,s1,s2]
 refine⟨_,Prod.ext rfl hr,by rw[hr]at hgg;exact hgg,?_,λd j h1 h2 h3 h4=>?_⟩
 ·simp only[inR,yP,stepM,rd,wr,upd,cL,cHi,cO,cZ,hc,Nat.reduceEqDiff,false_and,if_false,and_self,if_true,hz,s1,s2]
  exact s3
 ·simp only[inR,yP,stepM,rd,wr,upd,cL,cHi,cO,cZ,hc,h1,h2,h3,false_and,if_false]
  rw[if_neg (by omega)]
noncomputable def sh (o:Nat)(M:Mem):Mem:=λd i=>M d ((o:Int)+i)
theorem zaP (W:Int)(M:Mem)(c I:Nat):∀n,yu W M c (I+n)=yu W M c I+W^I*yu W (sh I M) c n
 |0=>by simp[yu]
 |n+1=>by
  rw[show I+(n+1)=I+n+1 by omega,yu,zaP W M c I n,yu,Int.mul_add,Int.pow_add]
  have:M c ((I+n:Nat):Int)=sh I M c n:=by unfold sh;congr 1
  rw[this,Int.mul_left_comm (sh I M c n)]
  rw[Int.add_assoc]
theorem zef {M:Mem}{o c:Nat}(n:Nat):sh o M c n=M c ((o+n:Nat):Int):=by unfold sh;congr 1
theorem zhd {w:Nat}(hw:1<=w){M:Mem}{I:Nat}(hg:Good w M 0)(hz:M 122 0=0):∀j:Nat,∃M',yP (2^w) (upTo (inR I) j) M 0=(M',0)/\Good w M' 0/\(∀d (i:Int),d≠108->d≠104->d≠111->(d≠99 \/ i<I \/ (I:Int)+j<=i)->M' d i=M d i) /\
  yu (2^w) (sh I M') 99 j+M' 111 0*(2^w)^j=yu (2^w) (sh I M) 99 j+yu (2^w) M 97 j*M 98 I+M 111 0
 |0=>⟨M,rfl,hg,λ_ _ _ _ _ _=>rfl,by simp[yu]⟩
 |j+1=>by
  obtain⟨M1,e1,g1,o1,v1⟩:=zhd hw hg hz j
  obtain⟨M2,e2,g2,s2,o2⟩:=zlN hw (I:=I) (J:=j) g1 (by rw[o1 122 0 (by decide) (by decide) (by decide) (.inl (by decide))];exact hz)
  refine⟨M2,?_,g2,λd i h1 h2 h3 h4=>?_,?_⟩
  ·rw[upTo,zH,e1];exact e2
  ·rw[o2 d i h1 h2 h3 (by omega),o1 d i h1 h2 h3 (by omega)]
  ·rw[o1 97 j (by decide) (by decide) (by decide) (.inl (by decide)),o1 98 I (by decide) (by decide) (by decide) (.inl (by decide)),o1 99 ((I+j:Nat):Int) (by decide) (by decide) (by decide) (.inr (.inr (by omega)))]at s2
   have hv:yu (2^w) (sh I M2) 99 j=yu (2^w) (sh I M1) 99 j:=zx j λt ht=>by
    rw[zef,zef,o2 99 _ (by decide) (by decide) (by decide) (.inr (by omega))]
   rw[yu,yu,yu,zef,zef,hv,Int.pow_succ]
   generalize ((2:Int)^w)^j=P at *
   generalize (2:Int)^w=W at *
   have e3:M2 99 ((I+j:Nat):Int)*P+M2 111 0*(P*W)=(M 97 j*M 98 I+M1 111 0+M 99 ((I+j:Nat):Int))*P:=by
    rw[<- s2,Int.add_mul,Int.mul_comm P W,<- Int.mul_assoc,Int.mul_comm (M2 111 0) W]
   rw[Int.add_mul,Int.add_mul]at e3
   have e4:(yu W M 97 j+M 97 j*P)*M 98 I=yu W M 97 j*M 98 I+M 97 j*M 98 I*P:=by rw[Int.add_mul,Int.mul_right_comm]
   rw[e4]
   generalize M2 99 ((I+j:Nat):Int)*P=x1 at *
   generalize M2 111 0*(P*W)=x2 at *
   generalize M 97 j*M 98 I*P=x3 at *
   generalize M1 111 0*P=x4 at *
   generalize M 99 ((I+j:Nat):Int)*P=x5 at *
   generalize yu W M 97 j*M 98 I=x6 at *
   omega
theorem zmP {w:Nat}(hw:1<=w){M:Mem}{k:Int}{n I:Nat}(hg:Good w M k)(hz:M 122 0=0):∃M',yP (2^w) (yal n I) M k=(M',0)/\Good w M' 0/\(∀d (i:Int),d≠108->d≠104->d≠111->d≠99->M' d i=M d i) /\
  yu (2^w) M' 99 (n+I+1)=yu (2^w) M 99 (n+I)+yu (2^w) M 97 n*(M 98 I*(2^w)^I):=by
 have hW0:=zkU hw
 have g1:Good w (wr M cO 0) 0:=⟨zB hg.1 cO (by omega) (by omega),by omega,by omega⟩
 have q1:∀d j,d≠111->wr M cO 0 d j=M d j:=λd j h=>by simp only[wr,upd,cO,h,false_and,if_false]
 have q2:wr M cO 0 111 0=0:=by simp[wr,upd]
 have hst:yP (2^w) (yal n I) M k=yP (2^w) (upTo (inR I) n++[.move (99,(I:Int)+n) cO]) (wr M cO 0) 0:=rfl
 generalize wr M cO 0=M1 at *
 obtain⟨M2,e2,g2,o2,v2⟩:=zhd hw (I:=I) g1 (by rw[q1 122 0 (by decide)];exact hz) n
 have hmv:yP (2^w) [.move (99,(I:Int)+n) cO] M2 0=(wr M2 (99,(I:Int)+n) (M2 111 0),0):=rfl
 rw[hst,zH,e2]
 refine⟨_,hmv,⟨zB g2.1 _ (g2.1 _ _).1 (g2.1 _ _).2,by omega,by omega⟩,λd i h1 h2 h3 h4=>?_,?_⟩
 ·simp only[wr,upd,h4,false_and,if_false]
  rw[o2 d i h1 h2 h3 (.inl h4),q1 d i h3]
 ·have hlow:∀i:Nat,i<n+I->wr M2 (99,(I:Int)+n) (M2 111 0) 99 i=M2 99 i:=λi hi=>by
   simp only[wr,upd];rw[if_neg (by omega)]
  have htop:wr M2 (99,(I:Int)+n) (M2 111 0) 99 ((n+I:Nat):Int)=M2 111 0:=by
   simp only[wr,upd];rw[if_pos ⟨trivial,by omega⟩]
  rw[yu,zx (M':=M2) (c':=99) _ hlow,htop,Nat.add_comm n I,zaP,zaP (2^w) M,Int.pow_add]
  have hv1:yu (2^w) M2 99 I=yu (2^w) M 99 I:=zx I λi hi=>by
   rw[o2 99 i (by decide) (by decide) (by decide) (.inr (.inl (by omega))),q1 99 i (by decide)]
  have hv2:yu (2^w) (sh I M1) 99 n=yu (2^w) (sh I M) 99 n:=zx n λi hi=>by
   rw[zef,zef,q1 99 _ (by decide)]
  have hv3:yu (2^w) M1 97 n=yu (2^w) M 97 n:=zx n λi hi=>q1 97 i (by decide)
  rw[hv2,hv3,q1 98 I (by decide),q2,Int.add_zero]at v2
  rw[hv1]
  generalize ((2:Int)^w)^I=P at *
  generalize ((2:Int)^w)^n=N at *
  generalize yu (2^w) (sh I M2) 99 n=x1 at *
  generalize yu (2^w) (sh I M) 99 n=x2 at *
  generalize yu (2^w) M 97 n=A at *
  have e:P*x1+M2 111 0*(P*N)=P*(x2+A*M 98 I):=by
   rw[<- v2,Int.mul_add,Int.mul_left_comm (M2 111 0) P N]
  rw[Int.mul_add,Int.mul_left_comm P A,Int.mul_comm P (M 98 I)]at e
  omega
theorem zhF {w:Nat}(hw:1<=w){M:Mem}{n:Nat}(hg:Good w M 0)(hz:M 122 0=0)(hc:yu (2^w) M 99 n=0):∀I:Nat,∃M',yP (2^w) (upTo (yal n) I) M 0=(M',0)/\Good w M' 0/\(∀d (i:Int),d≠108->d≠104->d≠111->d≠99->M' d i=M d i) /\
  yu (2^w) M' 99 (n+I)=yu (2^w) M 97 n*yu (2^w) M 98 I
 |0=>⟨M,rfl,hg,λ_ _ _ _ _ _=>rfl,by simp[yu,hc]⟩
 |I+1=>by
  obtain⟨M1,e1,g1,o1,v1⟩:=zhF hw hg hz hc I
  obtain⟨M2,e2,g2,o2,v2⟩:=zmP hw (n:=n) (I:=I) g1 (by rw[o1 122 0 (by decide) (by decide) (by decide) (by decide)];exact hz)
  refine⟨M2,?_,g2,λd i h1 h2 h3 h4=>by rw[o2 d i h1 h2 h3 h4,o1 d i h1 h2 h3 h4],?_⟩
  ·rw[upTo,zH,e1];exact e2
  ·rw[show n+(I+1)=n+I+1 by omega,v2,v1,zx (M:=M1) (M':=M) (c:=97) (c':=97) n λi hi=>o1 97 i (by decide) (by decide) (by decide) (by decide),o1 98 I (by decide) (by decide) (by decide) (by decide),yu,Int.mul_add]
theorem zgQ {W:Int}(M:Mem)(k:Int)(o:Nat)(hS:0<=M 115 0):∀n:Nat,(∀i:Nat,i<n->0<=M 99 ((o+i:Nat):Int)) ->
  (yP W (yw (λi=>Rw.any cS cS (99,(o:Int)+i)) n) M k).2=k/\(∀d j,d≠115->(yP W (yw (λi=>Rw.any cS cS (99,(o:Int)+i)) n) M k).1 d j=M d j)/\0<=(yP W (yw (λi=>Rw.any cS cS (99,(o:Int)+i)) n) M k).1 115 0/\((yP W (yw (λi=>Rw.any cS cS (99,(o:Int)+i)) n) M k).1 115 0=0 ↔ M 115 0=0/\∀i:Nat,i<n->M 99 ((o+i:Nat):Int)=0)
 |0,_=>⟨rfl,λ_ _ _=>rfl,hS,by simp[yw,yP]⟩
 |n+1,h=>by
  obtain⟨h1,h2,h3,h4⟩:=zgQ (W:=W) M k o hS n λi hi=>h i (by omega)
  rw[yw,zH]
  generalize yP W (yw (λi=>Rw.any cS cS (99,(o:Int)+i)) n) M k=R at *
  obtain⟨M1,k'⟩:=R
  simp only at *
  have hb:=h n (by omega)
  have hcc:(o:Int)+(n:Int)=((o+n:Nat):Int):=by omega
  simp only[yP,stepM,rd,wr,cS,hcc,h2 99 _ (by decide)]
  have hz:=zgV h3 hb
  refine⟨h1,λd j hd=>?_,?_,?_⟩
  ·unfold upd
   rw[if_neg (by omega),h2 d j hd]
  ·unfold upd
   rw[if_pos ⟨rfl,rfl⟩]
   obtain⟨x,hx⟩:∃x:Nat,M1 115 0=x:=⟨(M1 115 0).toNat,by omega⟩
   obtain⟨y,hy⟩:∃y:Nat,M 99 ((o+n:Nat):Int)=y:=⟨(M 99 ((o+n:Nat):Int)).toNat,by omega⟩
   rw[hx,hy,zdw]
   omega
  ·unfold upd
   rw[if_pos ⟨rfl,rfl⟩,hz,h4]
   constructor
   ·rintro⟨⟨a,b⟩,c⟩
    refine⟨a,λi hi=>?_⟩
    rcases Nat.lt_or_ge i n with z|z
    ·exact b i z
    ·rw[show i=n by omega];exact c
   ·rintro⟨a,b⟩
    exact⟨⟨a,λi hi=>b i (by omega)⟩,b n (by omega)⟩
theorem zjH {w:Nat}(hw:1<w){M:Mem}{k:Int}{n:Nat}(hg:∀c i,0<=M c i/\M c i<2^w)(hz:M 122 0=0):∃M',yP (2^w) (yI n) M k=(M',0)/\(∀d j,d≠115->(d≠109 \/ j≠1)->M' d j=M d j)/\M' 109 1=bi (decide ((2^w:Int)^n<=yu (2^w) M 99 (n+n))):=by
 have hW:(0:Int)<2^w:=Int.pow_pos (by omega)
 have hW2:=zkU (w:=w) (by omega)
 obtain⟨h1,h2,h3,h4⟩:=zgQ (W:=2^w) (wr M cS 0) k n (by simp[wr,upd]) n (λi hi=>by simp[wr,upd];exact(hg 99 _).1)
 have hst:yP (2^w) (yI n) M k=yP (2^w) (yw (λi=>.any cS cS (99,(n:Int)+i)) n++[.ask cS,.sum (109,1) cZ cZ]) (wr M cS 0) k:=rfl
 rw[hst,zH]
 generalize yP (2^w) (yw (λi=>Rw.any cS cS (99,(n:Int)+i)) n) (wr M cS 0) k=R at *
 obtain⟨M1,k'⟩:=R
 simp only at *
 subst h1
 have g:∀d j,d≠115->M1 d j=M d j:=λd j hd=>by
  rw[h2 d j hd];simp only[wr,upd,cS,hd,false_and,if_false]
 have hs:=zaP (2^w) M 99 n n
 have dS:Dg (2^w) (sh n M) 99 n:=λi hi=>hg _ _
 have hrS:=zaG hW n dS
 have hrL:=zaG hW n (λi hi=>hg 99 i:Dg (2^w) M 99 n)
 have h5:M1 115 0=0 ↔ ¬(2^w:Int)^n<=yu (2^w) M 99 (n+n):=by
  have hzz:=zaS hW n dS
  have:M1 115 0=0 ↔ yu (2^w) (sh n M) 99 n=0:=by
   rw[h4,hzz]
   constructor
   ·rintro⟨_,b⟩ i hi
    have:=b i hi
    rw[zef];simpa [wr,upd] using this
   ·intro b
    exact⟨by simp[wr,upd],λi hi=>by have:=b i hi;rw[zef]at this;simpa [wr,upd] using this⟩
  rw[this,hs]
  have hp:0<(2^w:Int)^n:=Int.pow_pos hW
  constructor
  ·intro z;rw[z,Int.mul_zero];omega
  ·intro z
   rcases (by omega:yu (2^w) (sh n M) 99 n=0 \/ 1<=yu (2^w) (sh n M) 99 n)with e|e
   ·exact e
   ·have:=Int.mul_le_mul_of_nonneg_left e (show 0<=(2^w:Int)^n by omega)
    omega
 have hb:bi (!(M1 115 0 == 0))=bi (decide ((2^w:Int)^n<=yu (2^w) M 99 (n+n))):=by
  by_cases q:(2^w:Int)^n<=yu (2^w) M 99 (n+n)
  ·have:¬M1 115 0=0:=λz=>h5.1 z q
   rw[beq_eq_false_iff_ne.2 this,decide_eq_true q];rfl
  ·rw[h5.2 q,decide_eq_false q];rfl
 have hr:=zdD (decide ((2^w:Int)^n<=yu (2^w) M 99 (n+n)))
 generalize bi (decide ((2^w:Int)^n<=yu (2^w) M 99 (n+n)))=v at *
 have z1:M1 122 0=0:=by rw[g 122 0 (by decide)];exact hz
 have hs2:yP (2^w) [.ask cS,.sum (109,1) cZ cZ] M1 k'=(wr M1 (109,1) v,0):=by
  simp only[yP,stepM,rd,cS,cZ,z1,hb]
  rw[show (0:Int)+0+v=v by omega,Int.emod_eq_of_lt hr.1 (by omega),Int.ediv_eq_zero_of_lt hr.1 (by omega)]
 refine⟨_,hs2,λd j hd hj=>?_,by simp[wr,upd]⟩
 simp only[wr,upd];rw[if_neg (by omega),g d j hd]
theorem zdI {w:Nat}(hw:1<w){n:Nat}{x y:Int}(x0:0<=x)(x1:x<(2^w:Int)^(n+1))(y0:0<=y)(y1:y<(2^w:Int)^(n+1)) :
  yu (2^w) (yP (2^w) (yj (n+1)) (yaQ (2^w) (n+1) x y) 0).1 99 (2*(n+1))=x*y /\
  (yP (2^w) (yj (n+1)) (yaQ (2^w) (n+1) x y) 0).1 109 0=0 /\
  (yP (2^w) (yj (n+1)) (yaQ (2^w) (n+1) x y) 0).1 109 1=bi (decide ((2^w:Int)^(n+1)<=x*y)) /\
  (yP (2^w) (yj (n+1)) (yaQ (2^w) (n+1) x y) 0).1 109 2=bi (x*y == 0) /\
  (yP (2^w) (yj (n+1)) (yaQ (2^w) (n+1) x y) 0).1 109 3=bi (decide ((2^w:Int)^(2*(n+1))<=2*(x*y))):=by
 have hW:(0:Int)<2^w:=Int.pow_pos (by omega)
 have hg:=zfC (w:=w) (by omega) (n+1) x y
 have hZ0:yaQ (2^w) (n+1) x y 122 0=0:=zkv _ _ _ (by decide) (by decide) _
 have hM0:∀i,yaQ (2^w) (n+1) x y 109 i=0:=λi=>zkv _ _ _ (by decide) (by decide) _
 have hc0:yu (2^w) (yaQ (2^w) (n+1) x y) 99 (n+1)=0:=(zaS hW (n+1) λi hi=>hg.1 99 i).2 λi hi=>zkv _ _ _ (by decide) (by decide) _
 have hva:=zmn (n+1) x y hW x0 x1
 have hvb:=znS (n+1) x y hW y0 y1
 generalize yaQ (2^w) (n+1) x y=A at *
 obtain⟨M1,e1,g1,o1,v1⟩:=zhF (w:=w) (by omega) hg hZ0 hc0 (n+1)
 rw[hva,hvb]at v1
 obtain⟨M2,e2,o2,v2⟩:=zjH hw (k:=0) (n:=n+1) g1.1 (by rw[o1 122 0 (by decide) (by decide) (by decide) (by decide)];exact hZ0)
 rw[v1]at v2
 rw[yj,yae,zH,e1,zH,e2]
 have hN:2*(n+1)=(2*n+1)+1:=by omega
 have hv:yu (2^w) M2 99 (2*(n+1))=x*y:=by
  rw[<- v1,show 2*(n+1)=n+1+(n+1)by omega]
  exact zx _ λi hi=>o2 99 i (by decide) (.inl (by decide))
 have d2:Dg (2^w) M2 99 (2*(n+1)):=λi hi=>by rw[o2 99 i (by decide) (.inl (by decide))];exact g1.1 99 i
 rw[hN]at d2 hv ⊢
 obtain⟨q1,q2,q3,q4,q5⟩:=zjy hw M2 0 d2 (by rw[o2 122 0 (by decide) (.inl (by decide)),o1 122 0 (by decide) (by decide) (by decide) (by decide)];exact hZ0)
 rw[zx (M':=M2) (c':=99) _ λi hi=>q1 i,q2,q3,q4,q5,hv,v2,o2 109 0 (by decide) (.inr (by decide)),o1 109 0 (by decide) (by decide) (by decide) (by decide),hM0]
 exact⟨rfl,rfl,rfl,rfl,rfl⟩
structure Shf (W:Int)(n:Nat)(M0 M:Mem)(v:Int):Prop where
 dg:Dg W M 99 n
 val:yu W M 99 n=v
 keep:∀d j,d≠99->d≠116->M d j=M0 d j
noncomputable def cx (l:Nat)(c i j m:Int):Op:=.cel ⟨l,c,i,j,m⟩
noncomputable def rS (nm:String)(ops:List Op):Rs:=⟨Str.ofString nm,ops⟩
def oZ:Op:=cx 122 0 0 0 0
def oS:Op:=cx 115 0 0 0 0
def oT:Op:=cx 116 0 0 0 0
def oM (i:Int):Op:=cx 109 i 0 0 0
def ycv (c m:Int):List T1:=[.row (rS "set" [oS,.fig 0]),.rounds c m 0 [.row (rS "any" [oS,oS,cx 99 0 1 0 0])],.row (rS "ask" [oS]),.row (rS "set" [oM 2,.fig 1]),.row (rS "less" [oM 2,oM 2,oZ]),.row (rS "twice" [oT,cx 99 (c - 1) 0 0 m]),.row (rS "sum" [oM 3,oZ,oZ])]
theorem zdd {g:Nat->List PV}{f:Int->Rw}(h:∀I:Nat,g I=[yr (f I)]):∀n,upTo g n=(yw f n).map yr
 |0=>rfl
 |n+1=>by rw[upTo,yw,zdd h n,h n,List.map_append];rfl
theorem zg6 (w:Int)(n:Nat):cnt 0 1 0 w n=n:=by simp[cnt]
theorem zmh (I:Nat)(n:Int):(rS "any" [oS,oS,cx 99 0 1 0 0]).pv I 0 n=yr (.any cS cS (99,I)):=by simp[Rs.pv,rS,Op.pv,oS,cx,Cx.at,yr,yq]
theorem zid (w n:Int)(a b:List T1):yW w n (a++b)=yW w n a++yW w n b:=by simp[yW]
theorem zjL (w n:Int)(a b:List T1):yaS w n (a++b)=yaS w n a+yaS w n b:=by simp[yaS]
theorem zeV (f:Int->Rw)(m:Nat):(yw f m).length=m:=by
 induction m with
 |zero=>rfl
 |succ m ih=>simp[yw,ih]
def oL:Op:=cx 108 0 0 0 0
def oHi:Op:=cx 104 0 0 0 0
def oO:Op:=cx 111 0 0 0 0
def inT:List Rs:=[rS "times" [oL,oHi,cx 97 0 0 1 0,cx 98 0 1 0 0],rS "sum" [oL,oL,oO],rS "sum" [oHi,oHi,oZ],rS "sum" [cx 99 0 1 1 0,cx 99 0 1 1 0,oL],rS "sum" [oO,oHi,oZ]]
def ybh:T1:=.rounds 0 1 0 [.row (rS "mark" [.fig 0]),.row (rS "set" [oO,.fig 0]),.rounds 0 1 0 inT,.row (rS "move" [cx 99 0 1 0 1,oO])]
def yaN:List T1:=[.row (rS "set" [oS,.fig 0]),.rounds 0 1 0 [.row (rS "any" [oS,oS,cx 99 0 1 0 1])],.row (rS "ask" [oS]),.row (rS "sum" [oM 1,oZ,oZ])]
def yap:List T1:=ybh::(yaN++ycv 0 2)
theorem zcY {g:Nat->List PV}{f:Nat->List Rw}(h:∀I:Nat,g I=(f I).map yr):∀n,upTo g n=(upTo f n).map yr
 |0=>rfl
 |n+1=>by rw[upTo,upTo,zcY h n,h n,List.map_append]
theorem zj4 (w:Int)(n:Nat):cnt 0 2 0 w n=2*n:=by simp[cnt];omega
theorem zkn (w:Int)(n:Nat):yW w n (ycv 0 2)=(yO (2*n)).map yr:=by
 have hh:=zdd (g:=λI=>yad w n I [.row (rS "any" [oS,oS,cx 99 0 1 0 0])]) (f:=λi=>.any cS cS (99,i)) (λI=>by simp[yad,T2.rows,zmh]) (2*n)
 have hl:(0:Int) - 1+2*(n:Int)=((2*n:Nat):Int) - 1:=by omega
 simp only[yW,ycv,List.flatMap_cons,List.flatMap_nil,T1.rows,zj4,hh,yO,List.map_append,List.map_cons,List.map_nil,List.append_nil]
 simp only[Rs.pv,rS,Op.pv,oS,oT,oZ,oM,cx,Cx.at,yr,yq,hl,List.map_cons,List.map_nil,List.cons_append,List.nil_append,Int.zero_mul,Int.add_zero]
theorem zoq (n:Int)(I J:Nat):(inT.map λr=>r.pv I J n)=(inR I J).map yr:=by
 simp[inT,inR,Rs.pv,rS,Op.pv,oL,oHi,oO,oZ,cx,Cx.at,yr,yq]
theorem zlu (w:Int)(n:Nat):T1.rows w n ybh=(yae n).map yr:=by
 unfold ybh yae
 rw[T1.rows,zg6]
 refine zcY (λI=>?_) n
 have h:=zcY (g:=λJ=>inT.map λr=>r.pv I J n) (f:=inR I) (zoq n I) n
 have hm:(0:Int)+1*(I:Int)+1*(n:Int)=(I:Int)+n:=by omega
 simp only[yad,List.flatMap_cons,List.flatMap_nil,List.append_nil,T2.rows,zg6,h,yal,List.map_cons,List.map_append,List.map_nil,List.cons_append,List.nil_append]
 simp only[Rs.pv,rS,Op.pv,oO,cx,Cx.at,yr,yq,List.map_cons,List.map_nil,Int.zero_mul,Int.add_zero,hm]
theorem zi4 (w:Int)(n:Nat):yW w n yaN=(yI n).map yr:=by
 have hh:=zdd (g:=λI=>yad w n I [.row (rS "any" [oS,oS,cx 99 0 1 0 1])]) (f:=λi=>.any cS cS (99,(n:Int)+i)) (λI=>by
  have hm:(0:Int)+1*(I:Int)+1*(n:Int)=(n:Int)+I:=by omega
  simp only[yad,List.flatMap_cons,List.flatMap_nil,List.append_nil,T2.rows,Rs.pv,rS,oS,Op.pv,cx,Cx.at,yr,yq,List.map_cons,List.map_nil,Int.zero_mul,Int.add_zero,hm]) n
 simp only[yW,yaN,List.flatMap_cons,List.flatMap_nil,T1.rows,zg6,hh,yI,List.map_append,List.map_cons,List.map_nil,List.append_nil]
 simp only[Rs.pv,rS,Op.pv,oS,oZ,oM,cx,Cx.at,yr,yq,List.map_cons,List.map_nil,List.cons_append,List.nil_append,Int.zero_mul,Int.add_zero]
theorem za3 (w:Int)(n:Nat):yW w n yap=(yj n).map yr:=by
 have:yW w n yap=T1.rows w n ybh++yW w n (yaN++ycv 0 2):=by simp[yW,yap]
 rw[this,zid,zlu,zi4,zkn,yj,List.map_append,List.map_append]
theorem ziN (w:Int)(n:Nat):T1.rnd w n ybh=n*(1+n):=by simp[ybh,T1.rnd,yaM,T2.rnd,zg6]
theorem zh9 (w:Int)(n:Nat):yaS w n yaN=n:=by simp[yaN,yaS,T1.rnd,yaM,T2.rnd,zg6]
theorem zja (w:Int)(n:Nat):yaS w n (ycv 0 2)=2*n:=by simp[yaS,ycv,T1.rnd,zj4,yaM,T2.rnd]
theorem zfM (w:Int)(n:Nat):yaS w n yap=n*(1+n)+(n+2*n):=by
 have:yaS w n yap=T1.rnd w n ybh+yaS w n (yaN++ycv 0 2):=by simp[yaS,yap]
 rw[this,zjL,ziN,zh9,zja]
theorem zcX {f:Nat->List Rw}{c:Nat}(h:∀i,(f i).length=c):∀k,(upTo f k).length=k*c
 |0=>by simp[upTo]
 |k+1=>by rw[upTo,List.length_append,zcX h k,h,Nat.succ_mul]
theorem zem (n:Nat):(yae n).length=n*(n*5+3):=zcX (λI=>by simp[yal,zcX (f:=inR I) (c:=5) (λ_=>rfl)]) n
theorem zbW {n:Nat}(hn:n<=4):(yj n).length<=4000:=by
 have:n*(n*5+3)<=4*23:=Nat.mul_le_mul hn (by omega)
 simp[yj,zem,yI,yO,zeV]
 omega
theorem zhm {a b:List Rw}(ha:∀r∈a,okD r)(hb:∀r∈b,okD r):∀r∈a++b,okD r:=λr hr=>by
 rcases List.mem_append.1 hr with h|h
 ·exact ha r h
 ·exact hb r h
theorem z4 {f:Int->Rw}{r:Rw}:∀{n:Nat},r∈yw f n->∃i:Nat,i<n/\r=f i
 |0,h=>by simp[yw]at h
 |n+1,h=>by
  rw[yw,List.mem_append]at h
  rcases h with h|h
  ·obtain⟨i,hi,e⟩:=z4 h
   exact⟨i,by omega,e⟩
  ·simp at h
   exact⟨n,by omega,h⟩
theorem zaX {f:Nat->List Rw}{r:Rw}:∀{n:Nat},r∈upTo f n->∃i:Nat,i<n/\r∈f i
 |0,h=>by simp[upTo]at h
 |n+1,h=>by
  rw[upTo,List.mem_append]at h
  rcases h with h|h
  ·obtain⟨i,hi,e⟩:=zaX h
   exact⟨i,by omega,e⟩
  ·exact⟨n,by omega,h⟩
theorem zl2 (n:Nat):∀r∈yO n,okD r:=by
 intro r hr
 simp only[yO,List.mem_append,List.mem_cons,List.not_mem_nil,or_false]at hr
 rcases hr with (rfl|hr)|rfl|rfl|rfl|rfl|rfl
 ·exact⟨by omega,by omega⟩
 ·obtain⟨i,hi,rfl⟩:=z4 hr;trivial
 ·trivial
 ·exact⟨by omega,by omega⟩
 all_goals trivial
theorem zi3 (n:Nat):∀r∈yae n,okD r:=by
 intro r hr
 obtain⟨I,hI,hr⟩:=zaX hr
 simp only[yal,List.mem_cons,List.mem_append,List.not_mem_nil,or_false]at hr
 rcases hr with rfl|rfl|hr|rfl
 ·exact⟨by omega,by omega⟩
 ·exact⟨by omega,by omega⟩
 ·obtain⟨J,hJ,hr⟩:=zaX hr
  exact zjW r hr
 ·trivial
theorem zio (n:Nat):∀r∈yI n,okD r:=by
 intro r hr
 simp only[yI,List.mem_cons,List.mem_append,List.not_mem_nil,or_false]at hr
 rcases hr with rfl|hr|rfl|rfl
 ·exact⟨by omega,by omega⟩
 ·obtain⟨i,hi,rfl⟩:=z4 hr;trivial
 all_goals trivial
theorem zeq (n:Nat):∀r∈yj n,okD r:=zhm (zi3 n) (zhm (zio n) (zl2 _))
theorem zbT (i:Int):shp (.int i)=true:=rfl
section
variable {st:Store}{k:Bool}{a b c d e:PV}{r:List PV}{i j:Int}
theorem ix0:idxV st (.tp k (a::r)) (.int 0)=some a:=by simp[idxV,yaU,at?,ixI]
theorem ix1:idxV st (.tp k (a::b::r)) (.int 1)=some b:=by
 have:(1:Int)<(r.length:Int)+1+1:=by omega
 simp[idxV,yaU,at?,ixI,this]
theorem ix2:idxV st (.tp k (a::b::c::r)) (.int 2)=some c:=by
 have:(2:Int)<(r.length:Int)+1+1+1:=by omega
 simp[idxV,yaU,at?,ixI,this]
theorem ix3:idxV st (.tp k (a::b::c::d::r)) (.int 3)=some d:=by
 have:(3:Int)<(r.length:Int)+1+1+1+1:=by omega
 simp[idxV,yaU,at?,ixI,this]
theorem ix4:idxV st (.tp k (a::b::c::d::e::r)) (.int 4)=some e:=by
 have:(4:Int)<(r.length:Int)+1+1+1+1+1:=by omega
 simp[idxV,yaU,at?,ixI,this]
theorem b_add:yC .add (.int i) (.int j)=some (.int (i+j)):=rfl
theorem b_sub:yC .sub (.int i) (.int j)=some (.int (i - j)):=rfl
theorem zlS (h:i.natAbs<18446744073709551616 \/ j.natAbs<18446744073709551616):yC .mul (.int i) (.int j)=some (.int (i*j)):=by
 have:yau i j=true:=by simpa [yau] using h
 simp[yC,binI,this]
theorem zU (h:i.natAbs<18446744073709551616):yC .mul (.int i) (.int j)=some (.int (i*j)):=zlS (.inl h)
theorem zu (h:j.natAbs<18446744073709551616):yC .mul (.int i) (.int j)=some (.int (i*j)):=zlS (.inr h)
theorem b_mul2:yC .mul (.int 2) (.int j)=some (.int (2*j)):=zlS (.inl (by decide))
theorem zW (h:0<j)(h2:j<18446744073709551616*18446744073709551616):yC .fdiv (.int i) (.int j)=some (.int (i / j)):=by
 have h3:j<10000000000000000000000000000000000000000000000000000000000000000000000:=by omega
 simp[yC,binI,h,h3]
theorem b_div2:yC .fdiv (.int i) (.int 2)=some (.int (i / 2)):=rfl
theorem zX (h:0<j):yC .mod (.int i) (.int j)=some (.int (i%j)):=by simp[yC,binI,h]
theorem zJ:yC .mod (.int i) (.int 2)=some (.int (i%2)):=rfl
theorem zag:yC .band (.int i) (.int j)=some (.int (Builtin.bitAnd i j)):=rfl
theorem ya5:yC .bor (.int i) (.int j)=some (.int (Builtin.bitOr i j)):=rfl
theorem zac:yC .bxor (.int i) (.int j)=some (.int (Builtin.bitXor i j)):=rfl
theorem toR_some {v:PV}:toR (some v) st=.ok v st:=rfl
theorem c_ne:ye .ne (.int i) (.int j)=some (.bl (!(i == j))):=by simp[ye,zbT,peq]
theorem c_eq:ye .eq (.int i) (.int j)=some (.bl (i == j)):=by simp[ye,zbT,peq]
theorem c_lt:ye .lt (.int i) (.int j)=some (.bl (decide (i<j))):=rfl
theorem c_le:ye .le (.int i) (.int j)=some (.bl (decide (i<=j))):=rfl
theorem c_gt:ye .gt (.int i) (.int j)=some (.bl (decide (j<i))):=rfl
theorem c_ge:ye .ge (.int i) (.int j)=some (.bl (decide (j<=i))):=rfl
theorem t_bl {b:Bool}:yaD st (.bl b)=some b:=rfl
theorem on_t {f:Bool->Fl}{b:Bool}:onF (some b) f=f b:=rfl
theorem ono {α:Type}{f:Bool->R α}{b:Bool}:onO (some b) f=f b:=rfl
theorem zk {ρ:IC.Env}:stO ρ (some st)=.nx ρ st:=rfl
theorem nxO_some {ρ:IC.Env}:nxO (some ρ) st=.nx ρ st:=rfl
theorem fl_ok {α:Type}{a:α}{ρ:IC.Env}{k:α->Store->Fl}:(R.ok a st).fl ρ k=k a st:=rfl
theorem bd_ok {α β:Type}{a:α}{k:α->Store->R β}:(R.ok a st).bind k=k a st:=rfl
theorem th_nx {ρ:IC.Env}{k:IC.Env->Store->Fl}:yah (.nx ρ st) k=k ρ st:=rfl
theorem th_rt {v:PV}{k:IC.Env->Store->Fl}:yah (.rt v st) k=.rt v st:=rfl
theorem fl_exc {α:Type}{c:Nat}{ρ:IC.Env}{k:α->Store->Fl}:(R.exc c st:R α).fl ρ k=.exc c ρ st:=rfl
theorem bd_exc {α β:Type}{c:Nat}{k:α->Store->R β}:(R.exc c st:R α).bind k=.exc c st:=rfl
theorem th_exc {c:Nat}{ρ:IC.Env}{k:IC.Env->Store->Fl}:yah (.exc c ρ st) k=.exc c ρ st:=rfl
theorem noLocs_ints:∀(l:List Int),noLocs (l.map PV.int)=true
 | []=>rfl
 |_::l=>by simp[noLocs,noLoc,noLocs_ints l]
theorem zp {x:PV}:yan .int st [x]=yd9 x:=rfl
theorem zC {b:Bool}:yd9 (.bl b)=some (.int (bi b)):=rfl
theorem bT_n {i:Nat}{v:PV}{ρ:IC.Env}:yJ (.n i) v ρ=some (ρ.set i (some v)):=rfl
theorem mget {o k d:PV}:ybq .get st o [k,d]=ydc st o k d:=rfl
end
noncomputable def yam:PV:=.tup [.int 2147483647,.int 2147483629,.int 2147483587,.int 2147483579,.int 2147483563]
noncomputable def yc2:Css:=match yao.body with
 | .cons _ (.cons _ (.cons (.for _ _ b) _))=>b
 |_=>.nil
theorem zbY {c:Cl}{s num g p:Int}{i:Nat}{u5 u6 u7:Option PV}(hg:∀st,idxV st (.tup [.int 11,.int 101,.int 1009,.int 10007,.int 100003]) (.int i)=some (.int g))(hi:i<5)(hp:0<p)(hp2:p<18446744073709551616) :
  ∃num' v5 v6 v7,exs c [some (.int s),some yam,some (.int num),some (.int i),some (.int p),u5,u6,u7] [] yc2=.nx [some (.int s),some yam,some (.int num'),some (.int i),some (.int p),v5,v6,v7] []:=by
 have h1:∀z:Int,yC .mul (.int z) (.int (48271+2*(i:Int)))=some (.int (z*(48271+2*(i:Int)))):=λz=>zu (by omega)
 have h2:∀z y:Int,yC .mul (.int z) (.int (y%p))=some (.int (z*(y%p))):=λz y=>zu (by
  have a:=Int.emod_nonneg y (show p≠0 by omega)
  have b:=Int.emod_lt_of_pos y hp
  omega)
 have h3:∀z:Int,yC .mul (.int z) (.int p)=some (.int (z*p)):=λz=>zu (by omega)
 simp only[yc2,yao,List.length_cons,List.length_nil,Nat.zero_add,Nat.reduceAdd,if_true,xs_cons,xs_nil,x_asg,IC.ve1,IC.ve2,IC.ve3,IC.ve11,IC.ve16,evs,List.getElem?_cons_zero,List.getElem?_cons_succ,bd_ok,fl_ok,toR_some,bT_n,nxO_some,th_nx,List.set_cons_zero,List.set_cons_succ,sizeMax,Nat.reduceLeDiff,b_add,b_mul2,hg,h1,h2,h3,zX hp]
 exact⟨_,_,_,_,rfl⟩
theorem zi2 {c:Cl}{s num:Int}{u5 u6 u7:Option PV}(i:Nat)(p:Int)(h:(i,p)∈[(0,(2147483647:Int)),(1,2147483629),(2,2147483587),(3,2147483579),(4,2147483563)]) :
  ∃num' v5 v6 v7,exs c [some (.int s),some yam,some (.int num),some (.int i),some (.int p),u5,u6,u7] [] yc2=.nx [some (.int s),some yam,some (.int num'),some (.int i),some (.int p),v5,v6,v7] []:=by
 simp only[List.mem_cons,Prod.mk.injEq,List.not_mem_nil,or_false]at h
 rcases h with⟨rfl,rfl⟩|⟨rfl,rfl⟩|⟨rfl,rfl⟩|⟨rfl,rfl⟩|⟨rfl,rfl⟩
 ·exact zbY (λ_=>rfl) (by decide) (by decide) (by decide)
 ·exact zbY (λ_=>rfl) (by decide) (by decide) (by decide)
 ·exact zbY (λ_=>rfl) (by decide) (by decide) (by decide)
 ·exact zbY (λ_=>rfl) (by decide) (by decide) (by decide)
 ·exact zbY (λ_=>rfl) (by decide) (by decide) (by decide)
noncomputable def ydt:List PV:=[.tup [.int 0,.int 2147483647],.tup [.int 1,.int 2147483629],.tup [.int 2,.int 2147483587],.tup [.int 3,.int 2147483579],.tup [.int 4,.int 2147483563]]
theorem mixed (k:Nat)(s:Int)(st:Store):∃num,yc T (k+1) zc8 [.int s] st=.ok (.int num) st:=by
 obtain⟨ρ',st',h,num,a,b,c,d,e,e1,e2⟩:=zaw (call:=yc T k) (t:=.t [3,4]) (b:=yc2) (λ_ ρ st=>∃num a b c d e,ρ=[some (.int s),some yam,some (.int num),a,b,c,d,e]/\st=[]) ydt 0 [some (.int s),some yam,some (.int 0),none,none,none,none,none] [] ⟨_,_,_,_,_,_,rfl,rfl⟩ (by
  rintro j x ρ st hx ⟨num,a,b,c,d,e,rfl,rfl⟩
  have hx:=List.mem_of_getElem? hx
  have hx:∃i p,x=.tup [.int ((i:Nat):Int),.int p]/\(i,p)∈[(0,(2147483647:Int)),(1,2147483629),(2,2147483587),(3,2147483579),(4,2147483563)]:=by
   simp only[ydt,List.mem_cons,List.not_mem_nil,or_false]at hx
   rcases hx with rfl|rfl|rfl|rfl|rfl
   ·exact⟨0,_,rfl,by simp⟩
   ·exact⟨1,_,rfl,by simp⟩
   ·exact⟨2,_,rfl,by simp⟩
   ·exact⟨3,_,rfl,by simp⟩
   ·exact⟨4,_,rfl,by simp⟩
  obtain⟨i,p,rfl,hm⟩:=hx
  obtain⟨num',v5,v6,v7,hh⟩:=zi2 (c:=yc T k) (s:=s) (num:=num) (u5:=c) (u6:=d) (u7:=e) i p hm
  exact⟨_,_,_,rfl,hh,_,_,_,_,_,_,rfl,rfl⟩)
 subst e1 e2
 refine⟨num,?_⟩
 rw[yc]
 have hb:yao.body=.cons (.asg (.n 1) (.tup (.cons (.cst (.int 2147483647)) (.cons (.cst (.int 2147483629)) (.cons (.cst (.int 2147483587)) (.cons (.cst (.int 2147483579)) (.cons (.cst (.int 2147483563)) .nil))))))) (.cons (.asg (.n 2) (.cst (.int 0))) (.cons (.for (.t [3,4]) (.enum (.var 1)) yc2) (.cons (.ret (.var 2)) .nil))):=rfl
 have hT:T zc8=some ⟨1,8,true,yao.body⟩:=rfl
 have hp:PV.tup [.int 2147483647,.int 2147483629,.int 2147483587,.int 2147483579,.int 2147483563]=yam:=rfl
 rw[hT,hb]
 have h5:ev (yc T k) [some (.int s),none,none,none,none,none,none,none] [] (.tup (.cons (.cst (.int 2147483647)) (.cons (.cst (.int 2147483629)) (.cons (.cst (.int 2147483587)) (.cons (.cst (.int 2147483579)) (.cons (.cst (.int 2147483563)) .nil))))))=.ok yam []:=by
  simp[IC.ve1,IC.ve11,evs,R.bind,sizeMax,yam]
 have he:evi (yc T k) [some (.int s),some yam,some (.int 0),none,none,none,none,none] [] (.enum (.var 1))=.ok ydt []:=by
  simp[evi,IC.ve2,R.bind,yam,yU,ydt]
 simp only[List.length_cons,List.length_nil,if_true,noLocs,noLoc,Bool.and_self,List.map_cons,List.map_nil,Nat.reduceSub,List.replicate,List.cons_append,List.nil_append,xs_cons,xs_nil,x_asg,x_for,x_ret,h5,R.fl,yJ,nxO,yah,List.set_cons_zero,List.set_cons_succ,IC.ve1,he,h,IC.ve2,List.getElem?_cons_zero,List.getElem?_cons_succ]
theorem zlU (ys:List PV)(h:ys.length<=1000000)(st:Store):ybO (.ok ys st)=.ok (.lst ys) st:=by simp[ybO,h]
theorem zbF (n:Nat)(h:n<1000):ya8 (.int (n:Int))=some (yo n 0 1):=by
 simp[ya8];omega
def yeN (st:Store)(f:Fl):R PV :=
 match f with
 | .rt v _=>if noLoc v then .ok v st else .bad
 | .nx _ _=>.ok .non st
 | .exc c _ _=>.exc c st
 |_=>.bad
theorem zdN {T:Nat->Option IC.Fn}{k f:Nat}{fn:IC.Fn}{args:List PV}{st:Store}(hT:T f=some fn)(hp:fn.pure=true)(hl:args.length=fn.np)(hn:noLocs args=true) :
  yc T (k+1) f args st=yeN st (exs (yc T k) (args.map some++List.replicate (fn.ns - fn.np) none) [] fn.body):=by
 rw[yc,hT]
 dsimp only
 rw[if_pos hl,if_pos hp,if_pos hn]
 rfl
def outI (f:Fl):R PV :=
 match f with
 | .rt v st1=>.ok v st1
 | .nx _ st1=>.ok .non st1
 | .exc c _ st1=>.exc c st1
 |_=>.bad
theorem zfA {T:Nat->Option IC.Fn}{k f:Nat}{fn:IC.Fn}{args:List PV}{st:Store}(hT:T f=some fn)(hp:fn.pure=false)(hl:args.length=fn.np) :
  yc T (k+1) f args st=outI (exs (yc T k) (args.map some++List.replicate (fn.ns - fn.np) none) st fn.body):=by
 rw[yc,hT]
 dsimp only
 rw[if_pos hl,hp,if_neg (by simp)]
 rfl
theorem zmq {st s:Store}{b:Bool}:yeN st (.rt (.bl b) s)=.ok (.bl b) st:=rfl
local macro_rules | `(tactic| simp! [$xs,*])=>`(tactic| simp only[IC.xs_cons,IC.xs_nil,IC.x_asg,IC.x_ite,IC.x_ret,IC.x_expr,IC.x_for,IC.x_six,IC.evs,IC.evi,IC.ve1,IC.ve2,IC.ve3,IC.ve4,IC.ve5,IC.ve6,IC.ve7,IC.ve8,IC.ve9,IC.ve10,IC.ve11,IC.ve12,IC.ve13,IC.ve14,IC.ve15,IC.ve16,IC.ve17,IC.ve18,IC.ve19,IC.ve20,IC.ve21,IC.ve24,IC.ve25,IC.ve28, IC.v_comp,List.getElem?_cons_zero,List.getElem?_cons_succ,WK.bd_ok,WK.fl_ok,WK.bd_exc,WK.fl_exc,WK.toR_some,IC.toL,WK.bT_n,WK.nxO_some,WK.th_nx,WK.th_rt,WK.th_exc,List.set_cons_zero,List.set_cons_succ,WK.on_t,WK.t_bl,WK.ono,IC.onBl,cond_true,cond_false,List.length_cons,List.length_nil,Nat.zero_add,Nat.reduceAdd,Nat.reduceSub,Nat.reduceLeDiff,if_true,IC.noLoc,IC.noLocs,WK.noLocs_ints,Bool.and_self,Bool.not_true,Bool.not_false,List.map_cons,List.map_nil,List.replicate,List.cons_append,List.nil_append,List.append_nil,Option.bind_none,Option.bind_some,Option.join_some,WK.b_add,WK.b_sub,WK.b_mul2,WK.b_div2,WK.c_lt,WK.c_le,WK.c_gt,WK.c_ge,WK.c_eq,WK.c_ne,IC.PV.tup,IC.sizeMax,$xs,*])
theorem rdS {st:Store}{n:Nat}{o x:Ob}(h:st[n]?=some o):(st.set n x)[n]?=some x:=by
 have:n<st.length:=by
  rcases Nat.lt_or_ge n st.length with h1|h1
  ·exact h1
  ·rw[List.getElem?_eq_none h1]at h;cases h
 rw[List.getElem?_set_self this]
theorem znB (ns:List Int)(a:Int)(h:ns≠[]):∃v,yaU (ns.map PV.int) (.int (a%(ns.length:Int)))=some (.int v):=by
 have h0:0<ns.length:=List.length_pos_iff.2 h
 have h1:=Int.emod_nonneg a (show (ns.length:Int)≠0 by omega)
 have h2:=Int.emod_lt_of_pos a (show (0:Int)<ns.length by omega)
 have h3:(a%(ns.length:Int)).toNat<ns.length:=by omega
 refine⟨ns[(a%(ns.length:Int)).toNat],?_⟩
 simp[yaU,at?,ixI,h1,h2,h3]
noncomputable def flT:Css:=match yab.body with
 | .cons _ (.cons _ (.cons _ t))=>t
 |x=>x
noncomputable abbrev flS (l:PV)(a p:Int)(f:Bool):Ob:=.lst [l,.int a,.int p,.bl f]
theorem zoG {st:Store}{n:Nat}{l:PV}{a p v:Int}{f:Bool}(h:st[n]?=some (flS l a p f)):ybg st (.loc n) (.int 1) (.int v)=some (st.set n (flS l v p f)):=by simp only[ybg,h];rfl
theorem zoQ {st:Store}{n:Nat}{l:PV}{a p v:Int}{f:Bool}(h:st[n]?=some (flS l a p f)):ybg st (.loc n) (.int 2) (.int v)=some (st.set n (flS l a v f)):=by simp only[ybg,h];rfl
theorem zoH {st:Store}{n:Nat}{l:PV}{a p:Int}{f g:Bool}(h:st[n]?=some (flS l a p f)):ybg st (.loc n) (.int 3) (.bl g)=some (st.set n (flS l a p g)):=by simp only[ybg,h];rfl
theorem ygm {st:Store}{n:Nat}{l:PV}{a p:Int}{f:Bool}(h:st[n]?=some (flS l a p f)):idxV st (.loc n) (.int 0)=some l:=by simp only[idxV,h];rfl
theorem yfe {st:Store}{n:Nat}{l:PV}{a p:Int}{f:Bool}(h:st[n]?=some (flS l a p f)):idxV st (.loc n) (.int 1)=some (.int a):=by simp only[idxV,h];rfl
theorem yfZ {st:Store}{n:Nat}{l:PV}{a p:Int}{f:Bool}(h:st[n]?=some (flS l a p f)):idxV st (.loc n) (.int 3)=some (.bl f):=by simp only[idxV,h];rfl
theorem p18:yC .pow (.int 10) (.int 18)=some (.int 1000000000000000000):=by ac_rfl
theorem zfk (k n:Nat){l:PV}{m a v p q:Int}{f g:Bool}{st:Store}(h:st[n]?=some (flS l a p f))(hl:∀st,yan .len st [l]=some (.int m))(hg:(decide (a ≥ m) || decide (v<1000000000000000000))=g)
  (h1:g=true->yc T (k+1) zc8 [.int v] (st.set n (flS l (a+1) p true))=.ok (.int q) (st.set n (flS l (a+1) p true))) (h2:g=false->q=v - 1000000000000000000) :
  exs (yc T (k+1)) [some (.loc n),some l,some (.int a),some (.int v)] st flT=.nx [some (.loc n),some l,some (.int a),some (.int v)] (st.set n (flS l (a+1) q g)):=by
 have s1:=zoG h (v:=a+1)
 have r1:=rdS h (x:=flS l (a+1) p f)
 have s2:=zoH r1 (g:=g)
 have r2:=rdS r1 (x:=flS l (a+1) p g)
 have s3:=zoQ r2 (v:=q)
 have i3:=yfZ r2
 rw[List.set_set]at s2 s3 i3 r2
 rw[List.set_set]at s3
 have hb:flT=(match flT with
  | .cons a (.cons (.six x y _) r)=>.cons a (.cons (.six x y (.or (.cmp .ge (.var 2) (.blt .len (.cons (.var 1) .nil))) (.cmp .lt (.var 3) (.bin .pow (.cst (.int 10)) (.cst (.int 18)))))) r)
  |x=>x):=rfl
 have hor:∀st,ev (yc T (k+1)) [some (.loc n),some l,some (.int a),some (.int v)] st (.or (.cmp .ge (.var 2) (.blt .len (.cons (.var 1) .nil))) (.cmp .lt (.var 3) (.bin .pow (.cst (.int 10)) (.cst (.int 18)))))=.ok (.bl g) st:=λst=>by
  cases c:decide (a ≥ m)
  ·rw[c,Bool.false_or]at hg
   simp! [hl,c,p18,hg]
  ·rw[c,Bool.true_or]at hg
   subst hg
   simp! [hl,c]
 generalize hE:(Ce.or (.cmp .ge (.var 2) (.blt .len (.cons (.var 1) .nil))) (.cmp .lt (.var 3) (.bin .pow (.cst (.int 10)) (.cst (.int 18)))))=E at *
 cases g with
 |true =>
  have h1:=h1 rfl
  rw[hb]
  simp! [flT,yab,stO,s1,hor,s2,i3,h1,s3]
 |false =>
  have h2:=h2 rfl
  subst h2
  rw[hb]
  simp! [flT,yab,stO,s1,hor,s2,i3,p18,s3]
theorem fill (k n:Nat)(ns:List Int)(hns:ns.length<=1000)(a p:Int)(ha:0<=a)(f:Bool)(st:Store)(h:st[n]?=some (.lst [.lst (ns.map .int),.int a,.int p,.bl f])) :
  ∃p' f',yc T (k+2) zhq [.loc n] st=.ok .non (st.set n (.lst [.lst (ns.map .int),.int (a+1),.int p',.bl f'])):=by
 have hT:T zhq=some ⟨1,4,false,yab.body⟩:=rfl
 have hl:∀st,yan .len st [.lst (ns.map .int)]=some (.int (ns.length:Int)):=λst=>by
  show some (PV.int (((ns.map PV.int).length:Nat):Int))=_
  simp
 have i0:=ygm h
 have i1:=yfe h
 have bt:∀(a b:PV) (ρ:IC.Env),yJ (.t [1,2]) (.tp false [a,b]) ρ=some ((ρ.set 1 (some a)).set 2 (some b)):=λ_ _ _=>rfl
 have hb:yab.body=(match yab.body with
  | .cons a (.cons b (.cons c _))=>.cons a (.cons b (.cons c flT))
  |x=>x):=rfl
 have m31:yC .mul (.int 31) (.int a)=some (.int (31*a)):=zU (by decide)
 obtain⟨v,hv⟩:∃v,exs (yc T (k+1)) [some (.loc n),none,none,none] st yab.body=exs (yc T (k+1)) [some (.loc n),some (.lst (ns.map .int)),some (.int a),some (.int v)] st flT:=by
  by_cases hn:ns=[]
  ·have c0:decide ((ns.length:Int) > 0)=false:=by subst hn;rfl
   refine⟨31*a+7,?_⟩
   rw[hb]
   generalize flT=F at *
   generalize ns.map PV.int=L at *
   simp! [yab,i0,i1,bt,m31,hl,c0]
  ·have h0:0<ns.length:=List.length_pos_iff.2 hn
   obtain⟨v,hv⟩:=znB ns a hn
   have c0:decide ((ns.length:Int) > 0)=true:=decide_eq_true (by omega)
   have d1:=zW (i:=a) (j:=(ns.length:Int)) (by omega) (by omega)
   have d2:=zX (i:=a) (j:=(ns.length:Int)) (by omega)
   have m1:yC .mul (.int 104729) (.int (a / (ns.length:Int)))=some (.int (104729*(a / (ns.length:Int)))):=zU (by decide)
   have ix:∀st,idxV st (.lst (ns.map .int)) (.int (a%(ns.length:Int)))=some (.int v):=λ_=>hv
   refine⟨104729*(a / (ns.length:Int))+v,?_⟩
   rw[hb]
   generalize flT=F at *
   generalize ns.map PV.int=L at *
   simp! [yab,i0,i1,bt,m31,hl,c0,d1,d2,m1,ix]
 cases c:(decide (a ≥ (ns.length:Int)) || decide (v<1000000000000000000))with
 |true =>
  obtain⟨q,hq⟩:=mixed k v (st.set n (flS (.lst (ns.map .int)) (a+1) p true))
  refine⟨q,true,?_⟩
  rw[zfA hT rfl rfl]
  have e:=zfk k n h hl c (λ_=>hq) (λh=>nomatch h)
  rw[<- hv]at e
  exact(congrArg _ e).trans rfl
 |false =>
  refine⟨v - 1000000000000000000,false,?_⟩
  rw[zfA hT rfl rfl]
  have e:=zfk k n h hl c (λh=>nomatch h) (λ_=>rfl)
  rw[<- hv]at e
  exact(congrArg _ e).trans rfl
noncomputable def ybk:Ce:=match yR.body with
 | .cons _ (.cons (.while c _) _)=>c
 |_=>.nope
noncomputable def ybx:Css:=match yR.body with
 | .cons _ (.cons (.while _ b) _)=>b
 |_=>.nil
theorem zhx {c:Cl}{n:Nat}{ns:List Int}{a p m t:Int}{f:Bool}{u:Option PV}{st:Store}(h:st[n]?=some (.lst [.lst (ns.map .int),.int a,.int p,.bl f])) :
  ∃B,ev c [some (.loc n),some (.int m),some (.int t),u] st ybk=.ok (.bl B) st/\(B=true->t<64):=by
 by_cases h1:t<64
 ·by_cases h2:p=0
  ·refine⟨true,?_,λ_=>h1⟩
   simp only[ybk,yR,IC.ve1,IC.ve2,IC.ve3,IC.ve6,IC.ve7,IC.ve8,IC.ve16,R.bind,List.getElem?_cons_zero,List.getElem?_cons_succ,h,idxV,yaU,at?,ixI,yC,binI,yau,toR,ye,ybA,onBl]
   simp[h1,h2,zbT,peq]
  ·have h2:(p == 0)=false:=by simp[h2]
   cases f
   ·refine⟨false,?_,λ_=>h1⟩
    simp only[ybk,yR,IC.ve1,IC.ve2,IC.ve3,IC.ve6,IC.ve7,IC.ve8,IC.ve16,R.bind,List.getElem?_cons_zero,List.getElem?_cons_succ,h,idxV,yaU,at?,ixI,yC,binI,yau,toR,ye,ybA,onBl]
    simp[h,h1,h2,zbT,peq]
   ·refine⟨decide (p<m*4096),?_,λ_=>h1⟩
    simp only[ybk,yR,IC.ve1,IC.ve2,IC.ve3,IC.ve6,IC.ve7,IC.ve8,IC.ve16,R.bind,List.getElem?_cons_zero,List.getElem?_cons_succ,h,idxV,yaU,at?,ixI,yC,binI,yau,toR,ye,ybA,onBl]
    simp[h,h1,h2,zbT,peq]
 ·refine⟨false,?_,λz=>by cases z⟩
  simp only[ybk,yR,IC.ve1,IC.ve2,IC.ve3,IC.ve6,IC.ve7,IC.ve8,IC.ve16,R.bind,List.getElem?_cons_zero,List.getElem?_cons_succ,h,idxV,yaU,at?,ixI,yC,binI,yau,toR,ye,ybA,onBl]
  simp[h1]
theorem zhr (k:Nat){n:Nat}{ns:List Int}(hns:ns.length<=1000){a p m t:Int}(ha:0<=a){f:Bool}{u:Option PV}{st:Store}(h:st[n]?=some (.lst [.lst (ns.map .int),.int a,.int p,.bl f])) :
  ∃p' f',exs (yc T (k+2)) [some (.loc n),some (.int m),some (.int t),u] st ybx=.nx [some (.loc n),some (.int m),some (.int (t+1)),u] (st.set n (.lst [.lst (ns.map .int),.int (a+1),.int p',.bl f'])):=by
 obtain⟨q,g,hq⟩:=fill k n ns hns a p ha f st h
 have hm:(1+q%4093).natAbs<18446744073709551616:=by omega
 have hau:∀st,ex (yc T (k+2)) [some (.loc n),some (.int m),some (.int t),u] st (.aug 2 .add (.cst (.int 1)))=.nx [some (.loc n),some (.int m),some (.int (t+1)),u] st:=λst=>by
  rw[zmb (x:=.int t) rfl]
  simp[IC.ve1,R.fl,ybE,yC,binI,nxO]
 cases g
 ·refine⟨q,false,?_⟩
  simp only[ybx,yR,xs_cons,xs_nil,x_expr,x_ite,x_six,hau,yah,nxO,IC.ve1,IC.ve2,IC.ve3,IC.ve6,IC.ve8,IC.ve16,IC.ve18,evs,R.fl,R.bind,hq,ybE,yC,binI,Option.map_some,List.set_cons_zero,List.set_cons_succ,List.getElem?_cons_zero,List.getElem?_cons_succ,rdS h,idxV,yaU,at?,ixI,yau,toR,ye,ybA,onBl,onF,yaD]
  simp[rdS h]
 ·by_cases hl:q<m*4096
  ·refine⟨q+m*4096*(1+q%4093),true,?_⟩
   simp only[ybx,yR,xs_cons,xs_nil,x_expr,x_ite,x_six,hau,yah,nxO,IC.ve1,IC.ve2,IC.ve3,IC.ve6,IC.ve8,IC.ve16,IC.ve18,evs,R.fl,R.bind,hq,ybE,yC,binI,Option.map_some,List.set_cons_zero,List.set_cons_succ,List.getElem?_cons_zero,List.getElem?_cons_succ,rdS h,idxV,yaU,at?,ixI,yau,toR,ye,ybA,onBl,onF,yaD,stO,ybg]
   simp[rdS h,hl,hm]
  ·refine⟨q,true,?_⟩
   simp only[ybx,yR,xs_cons,xs_nil,x_expr,x_ite,x_six,hau,yah,nxO,IC.ve1,IC.ve2,IC.ve3,IC.ve6,IC.ve8,IC.ve16,IC.ve18,evs,R.fl,R.bind,hq,ybE,yC,binI,Option.map_some,List.set_cons_zero,List.set_cons_succ,List.getElem?_cons_zero,List.getElem?_cons_succ,rdS h,idxV,yaU,at?,ixI,yau,toR,ye,ybA,onBl,onF,yaD]
   simp[rdS h,hl]
theorem zek (k:Nat){n:Nat}{ns:List Int}(hns:ns.length<=1000){m:Int}{u:Option PV}:∀(r N:Nat) (t a p:Int) (f:Bool) (st:Store),r<=N->64 - t<=r->0<=a->st[n]?=some (.lst [.lst (ns.map .int),.int a,.int p,.bl f]) ->
  ∃t' a' p' f',0<=a'/\yaL (yc T (k+2)) ybk ybx (N+1) [some (.loc n),some (.int m),some (.int t),u] st=.nx [some (.loc n),some (.int m),some (.int t'),u] (st.set n (.lst [.lst (ns.map .int),.int a',.int p',.bl f']))
 |r,N,t,a,p,f,st,hN,ht,ha,h=>by
  obtain⟨B,hB,hb⟩:=zhx (c:=yc T (k+2)) (m:=m) (t:=t) (u:=u) h
  have hs:st.set n (.lst [.lst (ns.map .int),.int a,.int p,.bl f])=st:=by
   refine List.ext_getElem? λi=>?_
   rw[List.getElem?_set]
   split
   ·rename_i e
    subst e
    split
    ·exact h.symm
    ·rename_i z
     rw[List.getElem?_eq_none (by omega)]at h
     cases h
   ·rfl
  cases B with
  |false=>exact⟨t,a,p,f,ha,by rw[zev hB rfl,hs]⟩
  |true =>
   have h64:=hb rfl
   match r,N with
   |0,_=>exact absurd ht (by omega)
   |r+1,N+1 =>
    obtain⟨p1,f1,hx⟩:=zhr k hns (m:=m) (t:=t) ha (u:=u) h
    obtain⟨t',a',p',f',h0,h2⟩:=zek k hns (m:=m) (u:=u) r N (t+1) (a+1) p1 f1 _ (by omega) (by omega) (by omega) (rdS h)
    refine⟨t',a',p',f',h0,?_⟩
    rw[zhu hB rfl hx,h2,List.set_set]
theorem take (k n:Nat)(ns:List Int)(hns:ns.length<=1000)(a p m:Int)(ha:0<=a)(hm:0<m)(hm2:m<10000000000000000000000000000000000000000000000000000000000000000000000)(f:Bool)(st:Store)(h:st[n]?=some (.lst [.lst (ns.map .int),.int a,.int p,.bl f])) :
  ∃d a' p' f',0<=d/\d<m/\0<=a'/\yc T (k+3) zV [.loc n,.int m] st=.ok (.int d) (st.set n (.lst [.lst (ns.map .int),.int a',.int p',.bl f'])):=by
 obtain⟨t',a',p',f',h0,h2⟩:=zek k hns (m:=m) (u:=none) 64 99999 0 a p f st (by omega) (by omega) ha h
 refine⟨p'%m,a',p' / m,f',Int.emod_nonneg _ (by omega),Int.emod_lt_of_pos _ hm,h0,?_⟩
 have hb:yR.body=.cons (.asg (.n 2) (.cst (.int 0))) (.cons (.while ybk ybx) (.cons (.asg (.n 3) (.bin .mod (.idx (.var 0) (.cst (.int 2))) (.var 1))) (.cons (.six (.var 0) (.cst (.int 2)) (.bin .fdiv (.idx (.var 0) (.cst (.int 2))) (.var 1))) (.cons (.ret (.var 3)) .nil)))):=rfl
 have hT:T zV=some ⟨2,4,false,yR.body⟩:=rfl
 rw[yc,hT,hb]
 simp only[List.length_cons,List.length_nil,if_true,List.map_cons,List.map_nil,Nat.reduceSub,List.replicate,List.cons_append,List.nil_append,xs_cons,xs_nil,x_asg,zlj,x_six,x_ret,yah,nxO,stO,IC.ve1,IC.ve2,IC.ve3,IC.ve16,R.fl,R.bind,yJ,List.set_cons_zero,List.set_cons_succ,List.getElem?_cons_zero,List.getElem?_cons_succ,h2,rdS h,idxV,yaU,at?,ixI,yC,binI,hm,hm2,and_self,toR,ybg]
 simp[rdS h,hm,hm2]
theorem zd7:ye .eq (.str "mark") (.str "mark")=some (.bl true):=by ac_rfl
theorem zeH:ye .eq (.str "mark") (.str "ask")=some (.bl false):=by ac_rfl
theorem zfc:ye .eq (.str "mark") (.str "set")=some (.bl false):=by ac_rfl
theorem zcW:ye .eq (.str "mark") (.str "times")=some (.bl false):=by ac_rfl
theorem zey:ye .eq (.str "mark") (.str "sum")=some (.bl false):=by ac_rfl
theorem zeg:ye .eq (.str "mark") (.str "less")=some (.bl false):=by ac_rfl
theorem zdS:ye .eq (.str "mark") (.str "both")=some (.bl false):=by ac_rfl
theorem zeT:ye .eq (.str "mark") (.str "any")=some (.bl false):=by ac_rfl
theorem zeQ:ye .eq (.str "mark") (.str "odd")=some (.bl false):=by ac_rfl
theorem ze0:ye .eq (.str "ask") (.str "mark")=some (.bl false):=by ac_rfl
theorem zf4:ye .eq (.str "ask") (.str "ask")=some (.bl true):=by ac_rfl
theorem zf5:ye .eq (.str "ask") (.str "set")=some (.bl false):=by ac_rfl
theorem zdq:ye .eq (.str "ask") (.str "times")=some (.bl false):=by ac_rfl
theorem zgc:ye .eq (.str "ask") (.str "sum")=some (.bl false):=by ac_rfl
theorem zeP:ye .eq (.str "ask") (.str "less")=some (.bl false):=by ac_rfl
theorem zeM:ye .eq (.str "ask") (.str "both")=some (.bl false):=by ac_rfl
theorem zgd:ye .eq (.str "ask") (.str "any")=some (.bl false):=by ac_rfl
theorem zf8:ye .eq (.str "ask") (.str "odd")=some (.bl false):=by ac_rfl
theorem ze9:ye .eq (.str "set") (.str "mark")=some (.bl false):=by ac_rfl
theorem zgl:ye .eq (.str "set") (.str "ask")=some (.bl false):=by ac_rfl
theorem zgs:ye .eq (.str "set") (.str "set")=some (.bl true):=by ac_rfl
theorem zdP:ye .eq (.str "set") (.str "times")=some (.bl false):=by ac_rfl
theorem zf2:ye .eq (.str "set") (.str "sum")=some (.bl false):=by ac_rfl
theorem zer:ye .eq (.str "set") (.str "less")=some (.bl false):=by ac_rfl
theorem zeJ:ye .eq (.str "set") (.str "both")=some (.bl false):=by ac_rfl
theorem zf7:ye .eq (.str "set") (.str "any")=some (.bl false):=by ac_rfl
theorem zgo:ye .eq (.str "set") (.str "odd")=some (.bl false):=by ac_rfl
theorem zbd:ye .eq (.str "move") (.str "mark")=some (.bl false):=by ac_rfl
theorem zb5:ye .eq (.str "move") (.str "ask")=some (.bl false):=by ac_rfl
theorem zbI:ye .eq (.str "move") (.str "set")=some (.bl false):=by ac_rfl
theorem zbh:ye .eq (.str "move") (.str "move")=some (.bl true):=by ac_rfl
theorem zbs:ye .eq (.str "move") (.str "bare")=some (.bl false):=by ac_rfl
theorem zay:ye .eq (.str "move") (.str "twice")=some (.bl false):=by ac_rfl
theorem za9:ye .eq (.str "move") (.str "half")=some (.bl false):=by ac_rfl
theorem zbb:ye .eq (.str "bare") (.str "mark")=some (.bl false):=by ac_rfl
theorem zbU:ye .eq (.str "bare") (.str "ask")=some (.bl false):=by ac_rfl
theorem zci:ye .eq (.str "bare") (.str "set")=some (.bl false):=by ac_rfl
theorem zbi:ye .eq (.str "bare") (.str "move")=some (.bl false):=by ac_rfl
theorem zbt:ye .eq (.str "bare") (.str "bare")=some (.bl true):=by ac_rfl
theorem zaZ:ye .eq (.str "bare") (.str "twice")=some (.bl false):=by ac_rfl
theorem zba:ye .eq (.str "bare") (.str "half")=some (.bl false):=by ac_rfl
theorem zaR:ye .eq (.str "twice") (.str "mark")=some (.bl false):=by ac_rfl
theorem zbr:ye .eq (.str "twice") (.str "ask")=some (.bl false):=by ac_rfl
theorem zbq:ye .eq (.str "twice") (.str "set")=some (.bl false):=by ac_rfl
theorem zaW:ye .eq (.str "twice") (.str "move")=some (.bl false):=by ac_rfl
theorem za0:ye .eq (.str "twice") (.str "bare")=some (.bl false):=by ac_rfl
theorem zar:ye .eq (.str "twice") (.str "twice")=some (.bl true):=by ac_rfl
theorem zaN:ye .eq (.str "twice") (.str "half")=some (.bl false):=by ac_rfl
theorem zbm:ye .eq (.str "half") (.str "mark")=some (.bl false):=by ac_rfl
theorem zb6:ye .eq (.str "half") (.str "ask")=some (.bl false):=by ac_rfl
theorem zbR:ye .eq (.str "half") (.str "set")=some (.bl false):=by ac_rfl
theorem zbe:ye .eq (.str "half") (.str "move")=some (.bl false):=by ac_rfl
theorem zbn:ye .eq (.str "half") (.str "bare")=some (.bl false):=by ac_rfl
theorem zaI:ye .eq (.str "half") (.str "twice")=some (.bl false):=by ac_rfl
theorem zbg:ye .eq (.str "half") (.str "half")=some (.bl true):=by ac_rfl
theorem zeC:ye .eq (.str "sum") (.str "mark")=some (.bl false):=by ac_rfl
theorem zgp:ye .eq (.str "sum") (.str "ask")=some (.bl false):=by ac_rfl
theorem zf3:ye .eq (.str "sum") (.str "set")=some (.bl false):=by ac_rfl
theorem zd9:ye .eq (.str "sum") (.str "times")=some (.bl false):=by ac_rfl
theorem zgC:ye .eq (.str "sum") (.str "sum")=some (.bl true):=by ac_rfl
theorem zeO:ye .eq (.str "sum") (.str "less")=some (.bl false):=by ac_rfl
theorem zeU:ye .eq (.str "sum") (.str "both")=some (.bl false):=by ac_rfl
theorem zf0:ye .eq (.str "sum") (.str "any")=some (.bl false):=by ac_rfl
theorem zgH:ye .eq (.str "sum") (.str "odd")=some (.bl false):=by ac_rfl
theorem zdx:ye .eq (.str "less") (.str "mark")=some (.bl false):=by ac_rfl
theorem zeW:ye .eq (.str "less") (.str "ask")=some (.bl false):=by ac_rfl
theorem zes:ye .eq (.str "less") (.str "set")=some (.bl false):=by ac_rfl
theorem zdh:ye .eq (.str "less") (.str "times")=some (.bl false):=by ac_rfl
theorem zeD:ye .eq (.str "less") (.str "sum")=some (.bl false):=by ac_rfl
theorem zdW:ye .eq (.str "less") (.str "less")=some (.bl true):=by ac_rfl
theorem zdz:ye .eq (.str "less") (.str "both")=some (.bl false):=by ac_rfl
theorem zet:ye .eq (.str "less") (.str "any")=some (.bl false):=by ac_rfl
theorem zeN:ye .eq (.str "less") (.str "odd")=some (.bl false):=by ac_rfl
theorem zd0:ye .eq (.str "both") (.str "mark")=some (.bl false):=by ac_rfl
theorem zex:ye .eq (.str "both") (.str "ask")=some (.bl false):=by ac_rfl
theorem zeB:ye .eq (.str "both") (.str "set")=some (.bl false):=by ac_rfl
theorem zcQ:ye .eq (.str "both") (.str "times")=some (.bl false):=by ac_rfl
theorem ze2:ye .eq (.str "both") (.str "sum")=some (.bl false):=by ac_rfl
theorem zdn:ye .eq (.str "both") (.str "less")=some (.bl false):=by ac_rfl
theorem zdR:ye .eq (.str "both") (.str "both")=some (.bl true):=by ac_rfl
theorem zeu:ye .eq (.str "both") (.str "any")=some (.bl false):=by ac_rfl
theorem zeS:ye .eq (.str "both") (.str "odd")=some (.bl false):=by ac_rfl
theorem zeR:ye .eq (.str "any") (.str "mark")=some (.bl false):=by ac_rfl
theorem zgr:ye .eq (.str "any") (.str "ask")=some (.bl false):=by ac_rfl
theorem zf9:ye .eq (.str "any") (.str "set")=some (.bl false):=by ac_rfl
theorem zee:ye .eq (.str "any") (.str "times")=some (.bl false):=by ac_rfl
theorem zgK:ye .eq (.str "any") (.str "sum")=some (.bl false):=by ac_rfl
theorem zeA:ye .eq (.str "any") (.str "less")=some (.bl false):=by ac_rfl
theorem zfe:ye .eq (.str "any") (.str "both")=some (.bl false):=by ac_rfl
theorem zgF:ye .eq (.str "any") (.str "any")=some (.bl true):=by ac_rfl
theorem zgw:ye .eq (.str "any") (.str "odd")=some (.bl false):=by ac_rfl
theorem zeI:ye .eq (.str "odd") (.str "mark")=some (.bl false):=by ac_rfl
theorem zgL:ye .eq (.str "odd") (.str "ask")=some (.bl false):=by ac_rfl
theorem zgv:ye .eq (.str "odd") (.str "set")=some (.bl false):=by ac_rfl
theorem zdv:ye .eq (.str "odd") (.str "times")=some (.bl false):=by ac_rfl
theorem zgE:ye .eq (.str "odd") (.str "sum")=some (.bl false):=by ac_rfl
theorem zep:ye .eq (.str "odd") (.str "less")=some (.bl false):=by ac_rfl
theorem zeG:ye .eq (.str "odd") (.str "both")=some (.bl false):=by ac_rfl
theorem zgu:ye .eq (.str "odd") (.str "any")=some (.bl false):=by ac_rfl
theorem zgm:ye .eq (.str "odd") (.str "odd")=some (.bl true):=by ac_rfl
theorem zcZ:ye .eq (.str "times") (.str "mark")=some (.bl false):=by ac_rfl
theorem zdA:ye .eq (.str "times") (.str "ask")=some (.bl false):=by ac_rfl
theorem zdj:ye .eq (.str "times") (.str "set")=some (.bl false):=by ac_rfl
theorem zcj:ye .eq (.str "times") (.str "times")=some (.bl true):=by ac_rfl
theorem mok {st:Store}{n L:Nat}{M:Mem}(h:Dc st n M L):yas .get st (.loc n)=some true:=by
 obtain⟨kvs,h1,h2,h3,h4⟩:=h
 simp[yas,ya0,h1]
theorem zF:T zhg=some zy:=rfl
theorem zff:T zeZ=some zz:=rfl
theorem ybb {a b c:PV}{st:Store}{k:Bool}:yan .len st [.tp k [a,b,c]]=some (.int 3):=rfl
theorem yba {a b c d:PV}{st:Store}{k:Bool}:yan .len st [.tp k [a,b,c,d]]=some (.int 4):=rfl
theorem c33:ye .eq (.int 3) (.int 3)=some (.bl true):=rfl
theorem c43:ye .eq (.int 4) (.int 3)=some (.bl false):=rfl
def Done (k n:Nat)(st:Store)(M:Mem)(L:Nat)(W m:Int)(r:Rw):Prop:=∃st',yc T (k+2) zhg [.loc n,.int m,yr r,.int W] st=.ok (.int (stepM W M m r).2) st'/\(∃o,st'=st.set n o)/\Dc st' n (stepM W M m r).1 (L+2)
theorem zcM {st:Store}{n L:Nat}{M:Mem}(h:Dc st n M L):∃o,st=st.set n o:=by
 obtain⟨kvs,h1,_⟩:=h
 exact⟨_,zfo h1⟩
theorem zD {st:Store}{n L:Nat}{M:Mem}(h:Dc st n M L):Dc st n M (L+1):=by
 obtain⟨kvs,h1,h2,h3,h4⟩:=h
 exact⟨kvs,h1,h2,h3,by omega⟩
theorem zh0 (k:Nat){n:Nat}{st:Store}{M:Mem}{L:Nat}{W m:Int}(h:Dc st n M L)(hL:L<999999)(hW:0<W)(hW2:W<18446744073709551616)(d:Int):Done k n st M L W m (.mark d):=by
 have hW3:W<18446744073709551616*18446744073709551616:=by omega
 have hW4:(W / 2).natAbs<18446744073709551616:=by omega
 refine⟨st,?_,zcM h,zD (zD h)⟩
 rw[yc,zF]
 simp only[zy,yr,yq,List.length_cons,List.length_nil,Nat.zero_add,Nat.reduceAdd,if_true,List.map_cons,List.map_nil,Nat.reduceSub,List.replicate,List.cons_append,List.nil_append,xs_cons,xs_nil,x_asg,x_ite,x_ret,zE,th_nx,th_rt,nxO_some,zk,IC.ve1,IC.ve2,IC.ve3,IC.ve8,IC.ve16,IC.ve18,IC.ve19,IC.ve20,evs,fl_ok,bd_ok,bT_n,List.set_cons_zero,List.set_cons_succ,List.getElem?_cons_zero,List.getElem?_cons_succ,ix0,ix1,ix2,ix3,toR_some,on_t,ono,t_bl,mget,b_add,b_sub,b_mul2,b_div2,zJ,zag,ya5,zac,c_ne,c_lt,zp,zC,cond_true,cond_false,Bool.false_eq_true,if_false,zd7,zeH,zfc,zcW,zey,zeg,zdS,zeT,zeQ,mok h,zX hW,zW hW hW3,zu hW4,c33,c43,ybb,yba]
 first|rfl|(simp only[stepM,rd];done)
theorem zju (k:Nat){n:Nat}{st:Store}{M:Mem}{L:Nat}{W m:Int}(h:Dc st n M L)(hL:L<999999)(hW:0<W)(hW2:W<18446744073709551616)(x:Cel):Done k n st M L W m (.ask x):=by
 have hW3:W<18446744073709551616*18446744073709551616:=by omega
 have hW4:(W / 2).natAbs<18446744073709551616:=by omega
 refine⟨st,?_,zcM h,zD (zD h)⟩
 have gx:=zl h x.1 x.2
 rw[yc,zF]
 simp only[zy,yr,yq,List.length_cons,List.length_nil,Nat.zero_add,Nat.reduceAdd,if_true,List.map_cons,List.map_nil,Nat.reduceSub,List.replicate,List.cons_append,List.nil_append,xs_cons,xs_nil,x_asg,x_ite,x_ret,zE,th_nx,th_rt,nxO_some,zk,IC.ve1,IC.ve2,IC.ve3,IC.ve8,IC.ve16,IC.ve18,IC.ve19,IC.ve20,evs,fl_ok,bd_ok,bT_n,List.set_cons_zero,List.set_cons_succ,List.getElem?_cons_zero,List.getElem?_cons_succ,ix0,ix1,ix2,ix3,toR_some,on_t,ono,t_bl,mget,b_add,b_sub,b_mul2,b_div2,zJ,zag,ya5,zac,c_ne,c_lt,zp,zC,cond_true,cond_false,Bool.false_eq_true,if_false,ze0,zf4,zf5,zdq,zgc,zeP,zeM,zgd,zf8,gx,mok h,zX hW,zW hW hW3,zu hW4,c33,c43,ybb,yba]
 first|rfl|(simp only[stepM,rd];done)
theorem ziL (k:Nat){n:Nat}{st:Store}{M:Mem}{L:Nat}{W m:Int}(h:Dc st n M L)(hL:L<999999)(hW:0<W)(hW2:W<18446744073709551616)(t:Cel)(d:Int):Done k n st M L W m (.set t d):=by
 have hW3:W<18446744073709551616*18446744073709551616:=by omega
 have hW4:(W / 2).natAbs<18446744073709551616:=by omega
 obtain⟨kvs,hp,hd⟩:=zw h hL t.1 t.2 (d)
 refine⟨_,?_,⟨_,rfl⟩,zD hd⟩
 rw[yc,zF]
 simp only[zy,yr,yq,List.length_cons,List.length_nil,Nat.zero_add,Nat.reduceAdd,if_true,List.map_cons,List.map_nil,Nat.reduceSub,List.replicate,List.cons_append,List.nil_append,xs_cons,xs_nil,x_asg,x_ite,x_ret,zE,th_nx,th_rt,nxO_some,zk,IC.ve1,IC.ve2,IC.ve3,IC.ve8,IC.ve16,IC.ve18,IC.ve19,IC.ve20,evs,fl_ok,bd_ok,bT_n,List.set_cons_zero,List.set_cons_succ,List.getElem?_cons_zero,List.getElem?_cons_succ,ix0,ix1,ix2,ix3,toR_some,on_t,ono,t_bl,mget,b_add,b_sub,b_mul2,b_div2,zJ,zag,ya5,zac,c_ne,c_lt,zp,zC,cond_true,cond_false,Bool.false_eq_true,if_false,ze9,zgl,zgs,zdP,zf2,zer,zeJ,zf7,zgo,hp,mok h,zX hW,zW hW hW3,zu hW4,c33,c43,ybb,yba]
 first|rfl|(simp only[stepM,rd];done)
theorem zim (k:Nat){n:Nat}{st:Store}{M:Mem}{L:Nat}{W m:Int}(h:Dc st n M L)(hL:L<999999)(hW:0<W)(hW2:W<18446744073709551616)(t x:Cel):Done k n st M L W m (.move t x):=by
 have hW3:W<18446744073709551616*18446744073709551616:=by omega
 have hW4:(W / 2).natAbs<18446744073709551616:=by omega
 obtain⟨kvs,hp,hd⟩:=zw h hL t.1 t.2 (M x.1 x.2)
 refine⟨_,?_,⟨_,rfl⟩,zD hd⟩
 have gx:=zl h x.1 x.2
 rw[yc,zF]
 simp only[zy,yr,yq,List.length_cons,List.length_nil,Nat.zero_add,Nat.reduceAdd,if_true,List.map_cons,List.map_nil,Nat.reduceSub,List.replicate,List.cons_append,List.nil_append,xs_cons,xs_nil,x_asg,x_ite,x_ret,zE,th_nx,th_rt,nxO_some,zk,IC.ve1,IC.ve2,IC.ve3,IC.ve8,IC.ve16,IC.ve18,IC.ve19,IC.ve20,evs,fl_ok,bd_ok,bT_n,List.set_cons_zero,List.set_cons_succ,List.getElem?_cons_zero,List.getElem?_cons_succ,ix0,ix1,ix2,ix3,toR_some,on_t,ono,t_bl,mget,b_add,b_sub,b_mul2,b_div2,zJ,zag,ya5,zac,c_ne,c_lt,zp,zC,cond_true,cond_false,Bool.false_eq_true,if_false,zbd,zb5,zbI,zbh,zbs,zay,za9,gx,hp,mok h,zX hW,zW hW hW3,zu hW4,c33,c43,ybb,yba]
 rw[yc,zff]
 simp only[zz,List.length_cons,List.length_nil,Nat.zero_add,Nat.reduceAdd,if_true,List.map_cons,List.map_nil,Nat.reduceSub,List.replicate,List.cons_append,List.nil_append,xs_cons,xs_nil,x_asg,x_ite,x_ret,zE,th_nx,th_rt,nxO_some,zk,IC.ve1,IC.ve2,IC.ve3,IC.ve8,IC.ve16,IC.ve18,IC.ve19,IC.ve20,evs,fl_ok,bd_ok,bT_n,List.set_cons_zero,List.set_cons_succ,List.getElem?_cons_zero,List.getElem?_cons_succ,ix0,ix1,ix2,ix3,toR_some,on_t,ono,t_bl,mget,b_add,b_sub,b_mul2,b_div2,zJ,zag,ya5,zac,c_ne,c_lt,zp,zC,cond_true,cond_false,Bool.false_eq_true,if_false,zbd,zb5,zbI,zbh,zbs,zay,za9,gx,hp,mok h,zX hW,zW hW hW3,zu hW4,c33,c43,ybb,yba]
 first|rfl|(simp only[stepM,rd];done)
theorem zgY (k:Nat){n:Nat}{st:Store}{M:Mem}{L:Nat}{W m:Int}(h:Dc st n M L)(hL:L<999999)(hW:0<W)(hW2:W<18446744073709551616)(t x:Cel):Done k n st M L W m (.bare t x):=by
 have hW3:W<18446744073709551616*18446744073709551616:=by omega
 have hW4:(W / 2).natAbs<18446744073709551616:=by omega
 obtain⟨kvs,hp,hd⟩:=zw h hL t.1 t.2 (W - 1 - M x.1 x.2)
 refine⟨_,?_,⟨_,rfl⟩,zD hd⟩
 have gx:=zl h x.1 x.2
 rw[yc,zF]
 simp only[zy,yr,yq,List.length_cons,List.length_nil,Nat.zero_add,Nat.reduceAdd,if_true,List.map_cons,List.map_nil,Nat.reduceSub,List.replicate,List.cons_append,List.nil_append,xs_cons,xs_nil,x_asg,x_ite,x_ret,zE,th_nx,th_rt,nxO_some,zk,IC.ve1,IC.ve2,IC.ve3,IC.ve8,IC.ve16,IC.ve18,IC.ve19,IC.ve20,evs,fl_ok,bd_ok,bT_n,List.set_cons_zero,List.set_cons_succ,List.getElem?_cons_zero,List.getElem?_cons_succ,ix0,ix1,ix2,ix3,toR_some,on_t,ono,t_bl,mget,b_add,b_sub,b_mul2,b_div2,zJ,zag,ya5,zac,c_ne,c_lt,zp,zC,cond_true,cond_false,Bool.false_eq_true,if_false,zbb,zbU,zci,zbi,zbt,zaZ,zba,gx,hp,mok h,zX hW,zW hW hW3,zu hW4,c33,c43,ybb,yba]
 rw[yc,zff]
 simp only[zz,List.length_cons,List.length_nil,Nat.zero_add,Nat.reduceAdd,if_true,List.map_cons,List.map_nil,Nat.reduceSub,List.replicate,List.cons_append,List.nil_append,xs_cons,xs_nil,x_asg,x_ite,x_ret,zE,th_nx,th_rt,nxO_some,zk,IC.ve1,IC.ve2,IC.ve3,IC.ve8,IC.ve16,IC.ve18,IC.ve19,IC.ve20,evs,fl_ok,bd_ok,bT_n,List.set_cons_zero,List.set_cons_succ,List.getElem?_cons_zero,List.getElem?_cons_succ,ix0,ix1,ix2,ix3,toR_some,on_t,ono,t_bl,mget,b_add,b_sub,b_mul2,b_div2,zJ,zag,ya5,zac,c_ne,c_lt,zp,zC,cond_true,cond_false,Bool.false_eq_true,if_false,zbb,zbU,zci,zbi,zbt,zaZ,zba,gx,hp,mok h,zX hW,zW hW hW3,zu hW4,c33,c43,ybb,yba]
 first|rfl|(simp only[stepM,rd];done)
theorem zgq (k:Nat){n:Nat}{st:Store}{M:Mem}{L:Nat}{W m:Int}(h:Dc st n M L)(hL:L<999999)(hW:0<W)(hW2:W<18446744073709551616)(t x:Cel):Done k n st M L W m (.twice t x):=by
 have hW3:W<18446744073709551616*18446744073709551616:=by omega
 have hW4:(W / 2).natAbs<18446744073709551616:=by omega
 obtain⟨kvs,hp,hd⟩:=zw h hL t.1 t.2 ((2*M x.1 x.2+m)%W)
 refine⟨_,?_,⟨_,rfl⟩,zD hd⟩
 have gx:=zl h x.1 x.2
 rw[yc,zF]
 simp only[zy,yr,yq,List.length_cons,List.length_nil,Nat.zero_add,Nat.reduceAdd,if_true,List.map_cons,List.map_nil,Nat.reduceSub,List.replicate,List.cons_append,List.nil_append,xs_cons,xs_nil,x_asg,x_ite,x_ret,zE,th_nx,th_rt,nxO_some,zk,IC.ve1,IC.ve2,IC.ve3,IC.ve8,IC.ve16,IC.ve18,IC.ve19,IC.ve20,evs,fl_ok,bd_ok,bT_n,List.set_cons_zero,List.set_cons_succ,List.getElem?_cons_zero,List.getElem?_cons_succ,ix0,ix1,ix2,ix3,toR_some,on_t,ono,t_bl,mget,b_add,b_sub,b_mul2,b_div2,zJ,zag,ya5,zac,c_ne,c_lt,zp,zC,cond_true,cond_false,Bool.false_eq_true,if_false,zaR,zbr,zbq,zaW,za0,zar,zaN,gx,hp,mok h,zX hW,zW hW hW3,zu hW4,c33,c43,ybb,yba]
 rw[yc,zff]
 simp only[zz,List.length_cons,List.length_nil,Nat.zero_add,Nat.reduceAdd,if_true,List.map_cons,List.map_nil,Nat.reduceSub,List.replicate,List.cons_append,List.nil_append,xs_cons,xs_nil,x_asg,x_ite,x_ret,zE,th_nx,th_rt,nxO_some,zk,IC.ve1,IC.ve2,IC.ve3,IC.ve8,IC.ve16,IC.ve18,IC.ve19,IC.ve20,evs,fl_ok,bd_ok,bT_n,List.set_cons_zero,List.set_cons_succ,List.getElem?_cons_zero,List.getElem?_cons_succ,ix0,ix1,ix2,ix3,toR_some,on_t,ono,t_bl,mget,b_add,b_sub,b_mul2,b_div2,zJ,zag,ya5,zac,c_ne,c_lt,zp,zC,cond_true,cond_false,Bool.false_eq_true,if_false,zaR,zbr,zbq,zaW,za0,zar,zaN,gx,hp,mok h,zX hW,zW hW hW3,zu hW4,c33,c43,ybb,yba]
 first|rfl|(simp only[stepM,rd];done)
theorem zia (k:Nat){n:Nat}{st:Store}{M:Mem}{L:Nat}{W m:Int}(h:Dc st n M L)(hL:L<999999)(hW:0<W)(hW2:W<18446744073709551616)(t x:Cel):Done k n st M L W m (.half t x):=by
 have hW3:W<18446744073709551616*18446744073709551616:=by omega
 have hW4:(W / 2).natAbs<18446744073709551616:=by omega
 obtain⟨kvs,hp,hd⟩:=zw h hL t.1 t.2 (M x.1 x.2 / 2+m*(W / 2))
 refine⟨_,?_,⟨_,rfl⟩,zD hd⟩
 have gx:=zl h x.1 x.2
 rw[yc,zF]
 simp only[zy,yr,yq,List.length_cons,List.length_nil,Nat.zero_add,Nat.reduceAdd,if_true,List.map_cons,List.map_nil,Nat.reduceSub,List.replicate,List.cons_append,List.nil_append,xs_cons,xs_nil,x_asg,x_ite,x_ret,zE,th_nx,th_rt,nxO_some,zk,IC.ve1,IC.ve2,IC.ve3,IC.ve8,IC.ve16,IC.ve18,IC.ve19,IC.ve20,evs,fl_ok,bd_ok,bT_n,List.set_cons_zero,List.set_cons_succ,List.getElem?_cons_zero,List.getElem?_cons_succ,ix0,ix1,ix2,ix3,toR_some,on_t,ono,t_bl,mget,b_add,b_sub,b_mul2,b_div2,zJ,zag,ya5,zac,c_ne,c_lt,zp,zC,cond_true,cond_false,Bool.false_eq_true,if_false,zbm,zb6,zbR,zbe,zbn,zaI,zbg,gx,hp,mok h,zX hW,zW hW hW3,zu hW4,c33,c43,ybb,yba]
 rw[yc,zff]
 simp only[zz,List.length_cons,List.length_nil,Nat.zero_add,Nat.reduceAdd,if_true,List.map_cons,List.map_nil,Nat.reduceSub,List.replicate,List.cons_append,List.nil_append,xs_cons,xs_nil,x_asg,x_ite,x_ret,zE,th_nx,th_rt,nxO_some,zk,IC.ve1,IC.ve2,IC.ve3,IC.ve8,IC.ve16,IC.ve18,IC.ve19,IC.ve20,evs,fl_ok,bd_ok,bT_n,List.set_cons_zero,List.set_cons_succ,List.getElem?_cons_zero,List.getElem?_cons_succ,ix0,ix1,ix2,ix3,toR_some,on_t,ono,t_bl,mget,b_add,b_sub,b_mul2,b_div2,zJ,zag,ya5,zac,c_ne,c_lt,zp,zC,cond_true,cond_false,Bool.false_eq_true,if_false,zbm,zb6,zbR,zbe,zbn,zaI,zbg,gx,hp,mok h,zX hW,zW hW hW3,zu hW4,c33,c43,ybb,yba]
 first|rfl|(simp only[stepM,rd];done)
theorem zi9 (k:Nat){n:Nat}{st:Store}{M:Mem}{L:Nat}{W m:Int}(h:Dc st n M L)(hL:L<999999)(hW:0<W)(hW2:W<18446744073709551616)(t x y:Cel):Done k n st M L W m (.sum t x y):=by
 have hW3:W<18446744073709551616*18446744073709551616:=by omega
 have hW4:(W / 2).natAbs<18446744073709551616:=by omega
 obtain⟨kvs,hp,hd⟩:=zw h hL t.1 t.2 ((M x.1 x.2+M y.1 y.2+m)%W)
 refine⟨_,?_,⟨_,rfl⟩,zD hd⟩
 have gx:=zl h x.1 x.2
 have gy:=zl h y.1 y.2
 rw[yc,zF]
 simp only[zy,yr,yq,List.length_cons,List.length_nil,Nat.zero_add,Nat.reduceAdd,if_true,List.map_cons,List.map_nil,Nat.reduceSub,List.replicate,List.cons_append,List.nil_append,xs_cons,xs_nil,x_asg,x_ite,x_ret,zE,th_nx,th_rt,nxO_some,zk,IC.ve1,IC.ve2,IC.ve3,IC.ve8,IC.ve16,IC.ve18,IC.ve19,IC.ve20,evs,fl_ok,bd_ok,bT_n,List.set_cons_zero,List.set_cons_succ,List.getElem?_cons_zero,List.getElem?_cons_succ,ix0,ix1,ix2,ix3,toR_some,on_t,ono,t_bl,mget,b_add,b_sub,b_mul2,b_div2,zJ,zag,ya5,zac,c_ne,c_lt,zp,zC,cond_true,cond_false,Bool.false_eq_true,if_false,zeC,zgp,zf3,zd9,zgC,zeO,zeU,zf0,zgH,gx,gy,hp,mok h,zX hW,zW hW hW3,zu hW4,c33,c43,ybb,yba]
 first|rfl|(simp only[stepM,rd];done)
theorem zg8 (k:Nat){n:Nat}{st:Store}{M:Mem}{L:Nat}{W m:Int}(h:Dc st n M L)(hL:L<999999)(hW:0<W)(hW2:W<18446744073709551616)(t x y:Cel):Done k n st M L W m (.less t x y):=by
 have hW3:W<18446744073709551616*18446744073709551616:=by omega
 have hW4:(W / 2).natAbs<18446744073709551616:=by omega
 obtain⟨kvs,hp,hd⟩:=zw h hL t.1 t.2 ((M x.1 x.2 - M y.1 y.2 - m)%W)
 refine⟨_,?_,⟨_,rfl⟩,zD hd⟩
 have gx:=zl h x.1 x.2
 have gy:=zl h y.1 y.2
 rw[yc,zF]
 simp only[zy,yr,yq,List.length_cons,List.length_nil,Nat.zero_add,Nat.reduceAdd,if_true,List.map_cons,List.map_nil,Nat.reduceSub,List.replicate,List.cons_append,List.nil_append,xs_cons,xs_nil,x_asg,x_ite,x_ret,zE,th_nx,th_rt,nxO_some,zk,IC.ve1,IC.ve2,IC.ve3,IC.ve8,IC.ve16,IC.ve18,IC.ve19,IC.ve20,evs,fl_ok,bd_ok,bT_n,List.set_cons_zero,List.set_cons_succ,List.getElem?_cons_zero,List.getElem?_cons_succ,ix0,ix1,ix2,ix3,toR_some,on_t,ono,t_bl,mget,b_add,b_sub,b_mul2,b_div2,zJ,zag,ya5,zac,c_ne,c_lt,zp,zC,cond_true,cond_false,Bool.false_eq_true,if_false,zdx,zeW,zes,zdh,zeD,zdW,zdz,zet,zeN,gx,gy,hp,mok h,zX hW,zW hW hW3,zu hW4,c33,c43,ybb,yba]
 first|rfl|(simp only[stepM,rd];done)
theorem zh8 (k:Nat){n:Nat}{st:Store}{M:Mem}{L:Nat}{W m:Int}(h:Dc st n M L)(hL:L<999999)(hW:0<W)(hW2:W<18446744073709551616)(t x y:Cel):Done k n st M L W m (.both t x y):=by
 have hW3:W<18446744073709551616*18446744073709551616:=by omega
 have hW4:(W / 2).natAbs<18446744073709551616:=by omega
 obtain⟨kvs,hp,hd⟩:=zw h hL t.1 t.2 (Builtin.bitAnd (M x.1 x.2) (M y.1 y.2))
 refine⟨_,?_,⟨_,rfl⟩,zD hd⟩
 have gx:=zl h x.1 x.2
 have gy:=zl h y.1 y.2
 rw[yc,zF]
 simp only[zy,yr,yq,List.length_cons,List.length_nil,Nat.zero_add,Nat.reduceAdd,if_true,List.map_cons,List.map_nil,Nat.reduceSub,List.replicate,List.cons_append,List.nil_append,xs_cons,xs_nil,x_asg,x_ite,x_ret,zE,th_nx,th_rt,nxO_some,zk,IC.ve1,IC.ve2,IC.ve3,IC.ve8,IC.ve16,IC.ve18,IC.ve19,IC.ve20,evs,fl_ok,bd_ok,bT_n,List.set_cons_zero,List.set_cons_succ,List.getElem?_cons_zero,List.getElem?_cons_succ,ix0,ix1,ix2,ix3,toR_some,on_t,ono,t_bl,mget,b_add,b_sub,b_mul2,b_div2,zJ,zag,ya5,zac,c_ne,c_lt,zp,zC,cond_true,cond_false,Bool.false_eq_true,if_false,zd0,zex,zeB,zcQ,ze2,zdn,zdR,zeu,zeS,gx,gy,hp,mok h,zX hW,zW hW hW3,zu hW4,c33,c43,ybb,yba]
 first|rfl|(simp only[stepM,rd];done)
theorem zjq (k:Nat){n:Nat}{st:Store}{M:Mem}{L:Nat}{W m:Int}(h:Dc st n M L)(hL:L<999999)(hW:0<W)(hW2:W<18446744073709551616)(t x y:Cel):Done k n st M L W m (.any t x y):=by
 have hW3:W<18446744073709551616*18446744073709551616:=by omega
 have hW4:(W / 2).natAbs<18446744073709551616:=by omega
 obtain⟨kvs,hp,hd⟩:=zw h hL t.1 t.2 (Builtin.bitOr (M x.1 x.2) (M y.1 y.2))
 refine⟨_,?_,⟨_,rfl⟩,zD hd⟩
 have gx:=zl h x.1 x.2
 have gy:=zl h y.1 y.2
 rw[yc,zF]
 simp only[zy,yr,yq,List.length_cons,List.length_nil,Nat.zero_add,Nat.reduceAdd,if_true,List.map_cons,List.map_nil,Nat.reduceSub,List.replicate,List.cons_append,List.nil_append,xs_cons,xs_nil,x_asg,x_ite,x_ret,zE,th_nx,th_rt,nxO_some,zk,IC.ve1,IC.ve2,IC.ve3,IC.ve8,IC.ve16,IC.ve18,IC.ve19,IC.ve20,evs,fl_ok,bd_ok,bT_n,List.set_cons_zero,List.set_cons_succ,List.getElem?_cons_zero,List.getElem?_cons_succ,ix0,ix1,ix2,ix3,toR_some,on_t,ono,t_bl,mget,b_add,b_sub,b_mul2,b_div2,zJ,zag,ya5,zac,c_ne,c_lt,zp,zC,cond_true,cond_false,Bool.false_eq_true,if_false,zeR,zgr,zf9,zee,zgK,zeA,zfe,zgF,zgw,gx,gy,hp,mok h,zX hW,zW hW hW3,zu hW4,c33,c43,ybb,yba]
 first|rfl|(simp only[stepM,rd];done)
theorem zjC (k:Nat){n:Nat}{st:Store}{M:Mem}{L:Nat}{W m:Int}(h:Dc st n M L)(hL:L<999999)(hW:0<W)(hW2:W<18446744073709551616)(t x y:Cel):Done k n st M L W m (.odd t x y):=by
 have hW3:W<18446744073709551616*18446744073709551616:=by omega
 have hW4:(W / 2).natAbs<18446744073709551616:=by omega
 obtain⟨kvs,hp,hd⟩:=zw h hL t.1 t.2 (Builtin.bitXor (M x.1 x.2) (M y.1 y.2))
 refine⟨_,?_,⟨_,rfl⟩,zD hd⟩
 have gx:=zl h x.1 x.2
 have gy:=zl h y.1 y.2
 rw[yc,zF]
 simp only[zy,yr,yq,List.length_cons,List.length_nil,Nat.zero_add,Nat.reduceAdd,if_true,List.map_cons,List.map_nil,Nat.reduceSub,List.replicate,List.cons_append,List.nil_append,xs_cons,xs_nil,x_asg,x_ite,x_ret,zE,th_nx,th_rt,nxO_some,zk,IC.ve1,IC.ve2,IC.ve3,IC.ve8,IC.ve16,IC.ve18,IC.ve19,IC.ve20,evs,fl_ok,bd_ok,bT_n,List.set_cons_zero,List.set_cons_succ,List.getElem?_cons_zero,List.getElem?_cons_succ,ix0,ix1,ix2,ix3,toR_some,on_t,ono,t_bl,mget,b_add,b_sub,b_mul2,b_div2,zJ,zag,ya5,zac,c_ne,c_lt,zp,zC,cond_true,cond_false,Bool.false_eq_true,if_false,zeI,zgL,zgv,zdv,zgE,zep,zeG,zgu,zgm,gx,gy,hp,mok h,zX hW,zW hW hW3,zu hW4,c33,c43,ybb,yba]
 first|rfl|(simp only[stepM,rd];done)
theorem yf6 {a b c d e:PV}{st:Store}{k:Bool}:yan .len st [.tp k [a,b,c,d,e]]=some (.int 5):=rfl
theorem c53:ye .eq (.int 5) (.int 3)=some (.bl false):=rfl
theorem zgn (k:Nat){n:Nat}{st:Store}{M:Mem}{L:Nat}{W m:Int}(h:Dc st n M L)(hL:L+1<999999)(hW:0<W)(hW2:W<18446744073709551616)(l t x y:Cel)(hx:0<=rd M x)(hx2:rd M x<W):Done k n st M L W m (.times l t x y):=by
 have hW3:W<18446744073709551616*18446744073709551616:=by omega
 obtain⟨kvs,hp,hd⟩:=zw h (by omega) l.1 l.2 (M x.1 x.2*M y.1 y.2%W)
 obtain⟨kvs2,hp2,hd2⟩:=zw hd (by omega) t.1 t.2 (M x.1 x.2*M y.1 y.2 / W)
 have hxa:(M x.1 x.2).natAbs<18446744073709551616:=by
  have h1:0<=M x.1 x.2:=hx
  have h2:M x.1 x.2<W:=hx2
  omega
 refine⟨_,?_,⟨_,by rw[List.set_set]⟩,hd2⟩
 have gx:=zl h x.1 x.2
 have gy:=zl h y.1 y.2
 rw[yc,zF]
 simp only[zy,yr,yq,List.length_cons,List.length_nil,Nat.zero_add,Nat.reduceAdd,if_true,List.map_cons,List.map_nil,Nat.reduceSub,List.replicate,List.cons_append,List.nil_append,xs_cons,xs_nil,x_asg,x_ite,x_ret,zE,th_nx,th_rt,nxO_some,zk,IC.ve1,IC.ve2,IC.ve3,IC.ve8,IC.ve16,IC.ve18,IC.ve19,IC.ve20,evs,fl_ok,bd_ok,bT_n,List.set_cons_zero,List.set_cons_succ,List.getElem?_cons_zero,List.getElem?_cons_succ,ix0,ix1,ix2,ix3,toR_some,on_t,ono,t_bl,mget,b_add,b_sub,b_mul2,b_div2,zJ,zag,ya5,zac,c_ne,c_lt,zp,zC,cond_true,cond_false,Bool.false_eq_true,if_false,zcZ,zdA,zdj,zcj,gx,gy,hp,hp2,mok h, zX hW,zW hW hW3,zU hxa,c53,yf6,ix4]
 first|rfl|(simp only[stepM,rd];done)
theorem zlH (k:Nat){n:Nat}{st:Store}{M:Mem}{L:Nat}{W m:Int}(h:Dc st n M L)(hL:L+1<999999)(hW:0<W)(hW2:W<18446744073709551616)(hg:∀c i,0<=M c i/\M c i<W)(r:Rw):Done k n st M L W m r:=by
 cases r
 ·exact zh0 k h (by omega) hW hW2 _
 ·exact zju k h (by omega) hW hW2 _
 ·exact ziL k h (by omega) hW hW2 _ _
 ·exact zim k h (by omega) hW hW2 _ _
 ·exact zgY k h (by omega) hW hW2 _ _
 ·exact zgq k h (by omega) hW hW2 _ _
 ·exact zia k h (by omega) hW hW2 _ _
 ·exact zi9 k h (by omega) hW hW2 _ _ _
 ·exact zg8 k h (by omega) hW hW2 _ _ _
 ·exact zh8 k h (by omega) hW hW2 _ _ _
 ·exact zjq k h (by omega) hW hW2 _ _ _
 ·exact zjC k h (by omega) hW hW2 _ _ _
 ·exact zgn k h (by omega) hW hW2 _ _ _ _ (hg _ _).1 (hg _ _).2
theorem zjd {c:Cl}{N acc lo:Int}{st:Store}:exs c [some (.int N),some (.int acc),some (.int lo)] st (.cons (.asg (.n 1) (.bin .mul (.cst (.int 2)) (.var 1))) .nil)=.nx [some (.int N),some (.int (2*acc)),some (.int lo)] st:=by
 simp only[xs_nil,xs_cons,x_asg,yah,nxO,IC.ve1,IC.ve2,IC.ve3,R.bind,R.fl,yJ,yC,binI,yau,toR,List.set_cons_zero,List.set_cons_succ,List.getElem?_cons_zero,List.getElem?_cons_succ]
 simp
theorem zcK (k n:Nat)(hn:n<1000)(st:Store):yc T (k+1) zaT [.int n] st=.ok (.int (2^n)) st:=by
 obtain⟨ρ',st',h,u,e1,e2⟩:=zaw (call:=yc T k) (t:=.n 2) (b:=.cons (.asg (.n 1) (.bin .mul (.cst (.int 2)) (.var 1))) .nil) (λi ρ st=>∃u,ρ=[some (.int n),some (.int (2^i)),u]/\st=[]) (yo n 0 1) 0 [some (.int n),some (.int 1),none] [] ⟨_,rfl,rfl⟩ (by
  rintro j x ρ st hx ⟨u,rfl,rfl⟩
  have hx:∃i,x=.int i:=by
   have:∀(n:Nat) (a d:Int) (j:Nat) x,(yo n a d)[j]?=some x->∃i,x=.int i:=by
    intro n
    induction n with
    |zero=>intro a d j x h;simp[yo]at h
    |succ n ih =>
     intro a d j x h
     cases j with
     |zero=>simp[yo]at h;exact⟨a,h.symm⟩
     |succ j=>simp[yo]at h;exact ih _ _ _ _ h
   exact this _ _ _ _ _ hx
  obtain⟨i,rfl⟩:=hx
  exact⟨_,_,_,rfl,zjd,_,by rw[Int.pow_succ,Int.mul_comm],rfl⟩)
 have hl:(yo n 0 1).length=n:=by
  have:∀(n:Nat) (a d:Int),(yo n a d).length=n:=by
   intro n
   induction n with
   |zero=>intro a d;rfl
   |succ n ih=>intro a d;simp[yo,ih]
  exact this _ _ _
 rw[hl,Nat.zero_add]at e1
 subst e1 e2
 rw[yc,show T zaT=some zaY from rfl]
 simp only[zaY,List.length_cons,List.length_nil,if_true,noLocs,noLoc,Bool.and_self,List.map_cons,List.map_nil,Nat.reduceSub,List.replicate,List.cons_append,List.nil_append,xs_cons,xs_nil,x_asg,x_for,x_ret,yah,nxO,IC.ve1,IC.ve2,R.fl,yJ,List.set_cons_zero,List.set_cons_succ,evi,R.bind,List.getElem?_cons_zero,ya8,toL]
 simp only[show (n:Int).natAbs<1000000000 by omega,if_true,Int.toNat_natCast,h]
 simp[noLoc]
noncomputable def ydn:Css:=match yaW.body with
 | .cons _ (.cons _ (.cons _ (.cons _ (.cons _ (.cons _ (.cons (.for _ _ b) _))))))=>b
 |_=>.nil
theorem zfH (k:Nat){n w:Nat}(hw1:1<=w)(hW2:(2:Int)^w<18446744073709551616){p0 p1 p2 p3 p4 p5:Option PV}:∀(rs:List Rw) (M:Mem) (m:Int) (st:Store) (u:Option PV) (L:Nat),Dc st n M L->L+2*rs.length<999999->Good w M m->(∀r∈rs,okD r) ->
  ∃st' u',yaB (yc T (k+2)) (.n 9) ydn (rs.map yr) [p0,p1,p2,p3,p4,p5,some (.loc n),some (.int (2^w)),some (.int m),u] st=.nx [p0,p1,p2,p3,p4,p5,some (.loc n),some (.int (2^w)),some (.int (yP (2^w) rs M m).2),u'] st'/\(∃o,st'=st.set n o)/\Dc st' n (yP (2^w) rs M m).1 (L+2*rs.length)
 | [],M,m,st,u,L,h,_,_,_=>⟨st,u,by rw[List.map_nil,zt];rfl,zcM h,h⟩
 |r::rs,M,m,st,u,L,h,hl,hg,hd=>by
  rw[List.length_cons]at hl
  have hW:(0:Int)<2^w:=Int.pow_pos (by omega)
  obtain⟨s1,h1,⟨o1,h2⟩,h3⟩:=zlH k (m:=m) h (by omega) hW hW2 hg.1 r
  have hg2:=zej hw1 hg (hd r List.mem_cons_self)
  obtain⟨s2,u2,e1,⟨o2,e2⟩,e3⟩:=zfH k hw1 hW2 (p0:=p0) (p1:=p1) (p2:=p2) (p3:=p3) (p4:=p4) (p5:=p5) rs _ (stepM (2^w) M m r).2 s1 (some (yr r)) (L+2) h3 (by omega) hg2 λq hq=>hd q (List.mem_cons_of_mem _ hq)
  refine⟨s2,u2,?_,⟨o2,by rw[e2,h2,List.set_set]⟩,by rw[List.length_cons,show L+2*(rs.length+1)=L+2+2*rs.length by omega];exact e3⟩
  rw[List.map_cons,zm (ρ1:=[p0,p1,p2,p3,p4,p5,some (.loc n),some (.int (2^w)),some (.int m),some (yr r)]) rfl]
  have hb:exs (yc T (k+2)) [p0,p1,p2,p3,p4,p5,some (.loc n),some (.int (2^w)),some (.int m),some (yr r)] st ydn=.nx [p0,p1,p2,p3,p4,p5,some (.loc n),some (.int (2^w)),some (.int (stepM (2^w) M m r).2),some (yr r)] s1:=by
   simp only[ydn,yaW,xs_cons,xs_nil,x_asg,IC.ve18,IC.ve2,evs,List.getElem?_cons_zero,List.getElem?_cons_succ,bd_ok,fl_ok,h1,bT_n,nxO_some,th_nx,List.set_cons_zero,List.set_cons_succ]
  rw[hb]
  exact e1
theorem zcv {call:Cl}{W:Int}(hW:0<W)(hW2:W<18446744073709551616){p1 p2:Option PV}:∀(n:Nat) (a x:Int) (acc:List PV) (u:Option PV),acc.length+n<1000000 ->
  ∃x' u',yaB call (.n 5) (.cons (.expr (.mth .append (.var 4) (.cons (.bin .mod (.var 0) (.var 3)) .nil))) (.cons (.asg (.n 0) (.bin .fdiv (.var 0) (.var 3))) .nil)) (yo n a 1) [some (.int x),p1,p2,some (.int W),some (.loc 0),u] [.lst acc]=.nx [some (.int x'),p1,p2,some (.int W),some (.loc 0),u'] [.lst (acc++(yK W n x).map .int)]
 |0,a,x,acc,u,_=>⟨x,u,by rw[yo,zt];simp[yK]⟩
 |n+1,a,x,acc,u,h=>by
  obtain⟨x',u',e⟩:=zcv (call:=call) hW hW2 (p1:=p1) (p2:=p2) n (a+1) (x / W) (acc++[.int (x%W)]) (some (.int a)) (by simp;omega)
  refine⟨x',u',?_⟩
  have hW3:W<18446744073709551616*18446744073709551616:=by omega
  have hl:acc.length<1000000:=by omega
  rw[yo,zm (ρ1:=[some (.int x),p1,p2,some (.int W),some (.loc 0),some (.int a)]) rfl]
  have hm:yas .append [Ob.lst acc] (.loc 0)=some true:=rfl
  have hap:ybq .append [Ob.lst acc] (.loc 0) [.int (x%W)]=.ok .non [.lst (acc++[.int (x%W)])]:=by
   simp[ybq,yc1,hl]
  simp only[xs_cons,xs_nil,x_asg,x_expr,IC.ve20,IC.ve2,IC.ve3,evs,List.getElem?_cons_zero,List.getElem?_cons_succ,bd_ok,fl_ok,hm,ono,zX hW,zW hW hW3,toR_some,hap,bT_n,nxO_some,th_nx,List.set_cons_zero,List.set_cons_succ,yak]
  rw[e]
  simp[yK]
theorem words (k:Nat)(x:Int)(w n:Nat)(hw:w<=16)(hn:n<1000)(st:Store):yc T (k+2) zfK [.int x,.int w,.int n] st=.ok (.tup ((yK (2^w) n x).map .int)) st:=by
 have hW:(0:Int)<2^w:=Int.pow_pos (by omega)
 have hW2:(2:Int)^w<18446744073709551616:=by
  have h:(2:Nat)^w<=2^16:=Nat.pow_le_pow_right (by omega) hw
  have h2:((2^w:Nat):Int)=2^w:=by simp
  omega
 obtain⟨x',u',e⟩:=zcv (call:=yc T (k+1)) hW hW2 (p1:=some (.int w)) (p2:=some (.int n)) n 0 x [] none (by simp;omega)
 have ht:=zcK k w (by omega) []
 have hT:T zfK=some zbw:=rfl
 rw[yc,hT]
 simp only[zbw,List.length_cons,List.length_nil,Nat.zero_add,Nat.reduceAdd,if_true,noLocs,noLoc,Bool.and_self,List.map_cons,List.map_nil,Nat.reduceSub,List.replicate,List.cons_append,List.nil_append,xs_cons,xs_nil,x_asg,x_for,x_ret,IC.ve18,IC.ve2,IC.ve13,IC.ve19,evs,evi,List.getElem?_cons_zero,List.getElem?_cons_succ,bd_ok,fl_ok,ht,bT_n,nxO_some,th_nx,List.set_cons_zero,List.set_cons_succ,zbF n hn,toL,Nat.zero_le,sizeMax,e]
 simp[yan,ycK,yV,toR,fl_ok,noLoc,noLocs_ints,R.fl,yah]
theorem zmK (k:Nat){b:Bool}{c i j m I J n:Int}(hi:i.natAbs<=200)(hj:j.natAbs<=200)(hm:m.natAbs<=200)(st:Store):yc T (k+1) znm [.tp b [.int c,.int i,.int j,.int m],.int I,.int J,.int n] st=.ok (.int (c+i*I+j*J+m*n)) st:=by
 have hT:T znm=some ziO:=rfl
 have h1:i.natAbs<18446744073709551616:=by omega
 have h2:j.natAbs<18446744073709551616:=by omega
 have h3:m.natAbs<18446744073709551616:=by omega
 rw[yc,hT]
 simp only[ziO,List.length_cons,List.length_nil,Nat.zero_add,Nat.reduceAdd,if_true,noLocs,noLoc,Bool.and_self,List.map_cons,List.map_nil,Nat.reduceSub,List.replicate,List.append_nil,List.cons_append,List.nil_append,xs_cons,xs_nil,x_ret,IC.ve1,IC.ve2,IC.ve3,IC.ve16,List.getElem?_cons_zero,List.getElem?_cons_succ,bd_ok,fl_ok,toR_some,ix0,ix1,ix2,ix3,zU h1,zU h2,zU h3,b_add,th_rt]
noncomputable def plB:Css:=match yH.body with
 | .cons _ (.cons (.for _ _ b) _)=>b
 |_=>.nil
theorem zcr (k:Nat){p0:Option PV}{I J n:Int}:∀(vs:List PV) (ops:List Op) (acc:List PV) (u:Option PV),ybj vs=some ops->acc.length+vs.length<1000000 ->
  ∃u',yaB (yc T (k+1)) (.n 5) plB vs [p0,some (.int I),some (.int J),some (.int n),some (.loc 0),u] [.lst acc]=.nx [p0,some (.int I),some (.int J),some (.int n),some (.loc 0),u'] [.lst (acc++ops.map (Op.pv I J n))]
 | [],ops,acc,u,h,_=>by
  cases h
  exact⟨u,by rw[zt];simp⟩
 |v::vs,ops,acc,u,h,hl=>by
  rw[List.length_cons]at hl
  unfold ybj at h
  split at h
  ·rename_i a b ha hb
   cases h
   obtain⟨u',e⟩:=zcr k (p0:=p0) (I:=I) (J:=J) (n:=n) vs b (acc++[Op.pv I J n a]) (some v) hb (by simp;omega)
   refine⟨u',?_⟩
   have hal:acc.length<1000000:=by omega
   have hm:yas .append [Ob.lst acc] (.loc 0)=some true:=rfl
   have hap:∀x:PV,ybq .append [Ob.lst acc] (.loc 0) [x]=.ok .non [.lst (acc++[x])]:=λx=>by simp[ybq,yc1,hal]
   have hs:exs (yc T (k+1)) [p0,some (.int I),some (.int J),some (.int n),some (.loc 0),some v] [.lst acc] plB=.nx [p0,some (.int I),some (.int J),some (.int n),some (.loc 0),some v] [.lst (acc++[Op.pv I J n a])]:=by
    rcases zhU ha with⟨d,rfl,rfl⟩|⟨f1,f2,x,rfl,rfl,q1,q2,q3⟩
    ·have hi:ybv (.int d) [.tuple]=some (.bl false):=rfl
     simp only[plB,yH,xs_cons,xs_nil,x_ite,x_expr,IC.ve2,IC.ve20,IC.ve21,evs,List.getElem?_cons_zero,List.getElem?_cons_succ,bd_ok,fl_ok,toR_some,hi,t_bl,on_t,cond_false,hm,ono,hap,th_nx,Op.pv]
    ·have hi:ybv (.tp f1 [.str (chS x.l),.tp f2 [.int x.c,.int x.i,.int x.j,.int x.m]]) [.tuple]=some (.bl true):=rfl
     have hat:=zmK k (b:=f2) (c:=x.c) (I:=I) (J:=J) (n:=n) q1 q2 q3 [.lst acc]
     simp only[plB,yH,xs_cons,xs_nil,x_ite,x_expr,IC.ve1,IC.ve2,IC.ve11,IC.ve16,IC.ve18,IC.ve20,IC.ve21,evs,List.getElem?_cons_zero,List.getElem?_cons_succ,bd_ok,fl_ok,toR_some,hi,t_bl,on_t,cond_true,hm,ono,hap,th_nx,Op.pv,ix0,ix1,hat,List.length_cons,List.length_nil,Nat.zero_add,Nat.reduceAdd,sizeMax,Nat.reduceLeDiff,if_true,yQ,Cx.at]
   rw[zm (ρ1:=[p0,some (.int I),some (.int J),some (.int n),some (.loc 0),some v]) rfl,hs]
   show yaB _ _ _ _ _ _=_
   rw[e]
   simp
  ·cases h
theorem ziD (I J n:Int)(o:Op):noLoc (o.pv I J n)=true:=by cases o <;> rfl
theorem zed (I J n:Int):∀ops:List Op,noLocs (ops.map (Op.pv I J n))=true
 | []=>rfl
 |o::ops=>by simp[noLocs,ziD,zed I J n ops]
theorem zjb {v:PV}{o:Op}(h:ydw v=some o):noLoc v=true:=by
 rcases zhU h with⟨d,rfl,rfl⟩|⟨f1,f2,x,rfl,rfl,_⟩ <;> rfl
theorem zdF:∀{vs:List PV} {ops:List Op},ybj vs=some ops->noLocs vs=true
 | [],_,_=>rfl
 |v::vs,ops,h=>by
  unfold ybj at h
  split at h
  ·rename_i a b ha hb
   simp[noLocs,zjb ha,zdF hb]
  ·cases h
theorem zho {v:PV}{r:Rs}(h:rowOf v=some r):noLoc v=true:=by
 obtain⟨a,vs,rfl,h2,_⟩:=zfD h
 simp[noLoc,noLocs,zdF h2]
theorem zbK (k:Nat){v:PV}{r:Rs}(h:rowOf v=some r)(I J n:Int)(st:Store):yc T (k+2) zaj [v,.int I,.int J,.int n] st=.ok (r.pv I J n) st:=by
 have hnv:=zho h
 obtain⟨a,vs,rfl,h2,h3⟩:=zfD h
 obtain⟨u',e⟩:=zcr k (p0:=some (.tp a (.str r.nm::vs))) (I:=I) (J:=J) (n:=n) vs r.ops [.str r.nm] none h2 (by simp;omega)
 have hT:T zaj=some ⟨4,6,true,yH.body⟩:=rfl
 have hb:yH.body=.cons (.asg (.n 4) (.newl (.cons (.idx (.var 0) (.cst (.int 0))) .nil))) (.cons (.for (.n 5) (.seq (.slc (.var 0) (.cst (.int 1)) (.cst .non))) plB) (.cons (.ret (.blt .tuple (.cons (.var 4) .nil))) .nil)):=rfl
 have hsl:yb6 (.tp a (.str r.nm::vs)) (some 1) .non=some (.tup vs):=by
  have h1:yaF (vs.length+1) 1=1:=by simp[yaF]
  simp[yb6,yaE,yb1,ych,ycB,cut,h1]
 have hnl:noLocs [.tp a (.str r.nm::vs),.int I,.int J,.int n]=true:=by simp[noLocs,noLoc]at hnv ⊢;exact hnv
 rw[yc,hT,hb]
 simp only[List.length_cons,List.length_nil,Nat.zero_add,Nat.reduceAdd,if_true,hnl,List.map_cons,List.map_nil,Nat.reduceSub,List.replicate,List.cons_append,List.nil_append]
 rw[xs_cons,x_asg]
 simp only[IC.ve1,IC.ve2,IC.ve13,IC.ve16,evs,List.getElem?_cons_zero,List.getElem?_cons_succ,bd_ok,fl_ok,toR_some,ix0,List.length_cons,List.length_nil,Nat.zero_add,sizeMax,Nat.reduceLeDiff,if_true,bT_n,nxO_some,th_nx,List.set_cons_zero,List.set_cons_succ,List.nil_append]
 rw[xs_cons,x_for]
 simp only[evi,IC.ve1,IC.ve2,IC.ve17,List.getElem?_cons_zero,List.getElem?_cons_succ,bd_ok,fl_ok,yaE,onP,hsl,toR_some,e,th_nx]
 simp[xs_cons,xs_nil,x_ret,IC.ve2,IC.ve19,evs,yan,ycK,yV,toR,R.fl,R.bind,yah,noLoc,noLocs,zed,Rs.pv]
theorem ze6 {α:Type}(f:Nat->List α){i:Nat}:∀n,i<=n->(upTo f i).length<=(upTo f n).length
 |0,h=>by rw[show i=0 by omega];exact Nat.le_refl _
 |n+1,h=>by
  by_cases e:i=n+1
  ·rw[e];exact Nat.le_refl _
  ·have:=ze6 f n (show i<=n by omega)
   simp[upTo];omega
theorem zG:∀(N:Nat) (a:Int) (j:Nat) (x:PV),(yo N a 1)[j]?=some x->x=.int (a+j)/\j<N
 |0,a,j,x,h=>by simp[yo]at h
 |N+1,a,0,x,h=>by simp[yo]at h;exact⟨by simp[h],by omega⟩
 |N+1,a,j+1,x,h=>by
  simp[yo]at h
  obtain⟨h1,h2⟩:=zG N (a+1) j x h
  exact⟨by rw[h1];congr 1;omega,by omega⟩
theorem zn:∀(N:Nat) (a:Int),(yo N a 1).length=N
 |0,_=>rfl
 |N+1,a=>by simp[yo,zn N]
theorem zd5 {c m t w n:Int}(hc:c.natAbs<=200)(hm:m.natAbs<=200)(ht:t.natAbs<=200)(w0:0<=w)(w1:w<=16)(n0:0<=n)(n1:n<=8):(c+m*n+t*w*n).natAbs<1000000:=by
 have h1:(m*n).natAbs<=200*8:=by rw[Int.natAbs_mul];exact Nat.mul_le_mul hm (by omega)
 have h2:(t*w*n).natAbs<=200*16*8:=by rw[Int.natAbs_mul,Int.natAbs_mul];exact Nat.mul_le_mul (Nat.mul_le_mul ht (by omega)) (by omega)
 generalize m*n=A at *
 generalize t*w*n=B at *
 omega
theorem zdL (k:Nat){b:Bool}{c m t w n:Int}(hm:m.natAbs<=200)(ht:t.natAbs<=200)(n0:0<=n)(n1:n<=8)(st:Store):yc T (k+1) zfw [.tp b [.int c,.int m,.int t],.int w,.int n] st=.ok (.int (c+m*n+t*w*n)) st:=by
 have hT:T zfw=some zbx:=rfl
 have h1:m.natAbs<18446744073709551616:=by omega
 have h2:t.natAbs<18446744073709551616:=by omega
 have h3:n.natAbs<18446744073709551616:=by omega
 rw[yc,hT]
 simp only[zbx,List.length_cons,List.length_nil,Nat.zero_add,Nat.reduceAdd,if_true,noLocs,noLoc,Bool.and_self,List.map_cons,List.map_nil,Nat.reduceSub,List.replicate,List.append_nil,List.cons_append,List.nil_append,xs_cons,xs_nil,x_ret,IC.ve1,IC.ve2,IC.ve3,IC.ve16,List.getElem?_cons_zero,List.getElem?_cons_succ,bd_ok,fl_ok,toR_some,ix0,ix1,ix2,zU h1,zU h2,zu h3,b_add,th_rt]
theorem zjY {call:Cl}{ρ:IC.Env}{st:Store}{e:Ce}{R v:Int}(h:ρ[5]?=some (some (.int R)))(he:ev call ρ st e=.ok (.int v) st):ex call ρ st (.aug 5 .add e)=.nx (ρ.set 5 (some (.int (R+v)))) st:=by
 rw[zmb h,he]
 rfl
noncomputable def ybS:Css:=match yD.body with
 | .cons _ (.cons _ (.cons (.for _ _ b) _))=>b
 |_=>.nil
noncomputable def ycf:Css:=match ybS with
 | .cons (.ite _ _ (.cons (.for _ _ b) _)) _=>b
 |_=>.nil
noncomputable def ycb:Css:=match ycf with
 | .cons _ (.cons (.for _ _ b) _)=>b
 |_=>.nil
noncomputable def ybM:Css:=match ycb with
 | .cons (.ite _ _ (.cons (.ite _ (.cons _ (.cons _ (.cons (.for _ _ b) _))) _) _)) _=>b
 |_=>.nil
def unC:Ce:=.call zaj (.cons (.idx (.var 0) (.cst (.int 1))) (.cons (.var 1) (.cons (.var 2) (.cons (.var 3) .nil))))
theorem zdp (k:Nat){I J n:Int}{st:Store}:∀(vs:List PV) (rs:List Rs),deepOf vs=some rs->yaz (yc T (k+2)) [none,some (.int I),some (.int J),some (.int n)] (.n 0) (.cst (.bl true)) unC vs st=.ok (rs.map λr=>r.pv I J n) st
 | [],rs,h=>by cases h;exact zbJ
 |v::vs,rs,h=>by
  unfold deepOf at h
  split at h
  ·rename_i a b ha hb
   cases h
   obtain⟨f,v1,rfl,h1⟩:=ze4 ha
   have hp:=zbK k h1 I J n st
   have ih:=zdp k (I:=I) (J:=J) (n:=n) (st:=st) vs b hb
   have h1:yb3 (yc T (k+2)) [none,some (.int I),some (.int J),some (.int n)] (.n 0) (.cst (.bl true)) unC (.tp f [.str "row",v1]) st=.ok (some (a.pv I J n)) st:=by
    simp only[yb3,unC,bT_n,List.set_cons_zero,IC.ve1,IC.ve2,IC.ve16,IC.ve18,evs,List.getElem?_cons_zero,List.getElem?_cons_succ,bd_ok,t_bl,ono,cond_true,toR_some,ix1,hp]
   rw[za7,h1,bd_ok,ih,bd_ok]
   rfl
  ·cases h
theorem zmr {acc:List PV}:yas .extend [Ob.lst acc] (.loc 0)=some true:=rfl
theorem zj3 {acc:List PV}:yas .append [Ob.lst acc] (.loc 0)=some true:=rfl
theorem len0 {acc:List PV}:yan .len [Ob.lst acc] [.loc 0]=some (.int acc.length):=rfl
theorem ziq (k:Nat){p0 p6 p9:Option PV}{w n I J R:Int}{f:Bool}{s c sn:PV}{d:Bool}{vs:List PV}{rs:List Rs}(hd:deepOf vs=some rs){acc:List PV}(hR:R<=4000)(hl:acc.length+rs.length<=4000) :
  exs (yc T (k+2)) [p0,some (.int w),some (.int n),some (.int 4000),some (.loc 0),some (.int R),p6,some (.int I),some (.tp f [s,c,sn,.tp d vs]),p9,some (.int J)] [.lst acc] ybM=.nx [p0,some (.int w),some (.int n),some (.int 4000),some (.loc 0),some (.int R),p6,some (.int I),some (.tp f [s,c,sn,.tp d vs]),p9,some (.int J)] [.lst (acc++rs.map λr=>r.pv I J n)]:=by
 have hc:=zdp k (I:=I) (J:=J) (n:=n) (st:=[.lst acc]) vs rs hd
 have h1:(acc.length:Int)<=4000:=by omega
 have h2:rs.length<=1000000:=by omega
 have h3:acc.length+rs.length<=1000000:=by omega
 have hls:ybO (.ok (rs.map λr=>r.pv I J n) [.lst acc])=.ok (.lst (rs.map λr=>r.pv I J n)) [.lst acc]:=by simp[ybO,h2]
 have hex:ybq .extend [Ob.lst acc] (.loc 0) [.lst (rs.map λr=>r.pv I J n)]=.ok .non [.lst (acc++rs.map λr=>r.pv I J n)]:=by simp[ybq,yd8,h3]
 have hb:ybM=.cons (.ite (.and (.cmp .le (.var 5) (.cst (.int 4000))) (.cmp .le (.blt .len (.cons (.var 4) .nil)) (.var 3))) (.cons (.expr (.mth .extend (.var 4) (.cons (.comp [none,some 7,some 10,some 2] (.n 0) (.seq (.idx (.var 8) (.cst (.int 3)))) (.cst (.bl true)) unC) .nil))) .nil) .nil) .nil:=rfl
 rw[hb]
 simp only[xs_cons,xs_nil,x_ite,x_expr,v_comp,evi,IC.ve1,IC.ve2,IC.ve6,IC.ve8,IC.ve16,IC.ve19,IC.ve20,evs,List.getElem?_cons_zero,List.getElem?_cons_succ,bd_ok,fl_ok,toR_some,len0,c_le,hR,h1,decide_true,onBl,cond_true,t_bl,on_t,ono,zmr,List.map_cons,List.map_nil,Option.bind_none,Option.bind_some,Option.join_some,ix3,hc,hls,hex,th_nx]
theorem ye3 (k:Nat){p0 p6 p9:Option PV}{w n R:Int}{I:Nat}{f:Bool}{s c sn:PV}{d:Bool}{vs:List PV}{rs:List Rs}(hd:deepOf vs=some rs){acc:List PV}{N:Nat}{u:Option PV}(hR:R<=4000)(hl:acc.length+(upTo (λJ=>rs.map λr=>r.pv I J n) N).length<=4000) :
  ∃u',yaB (yc T (k+2)) (.n 10) ybM (yo N 0 1) [p0,some (.int w),some (.int n),some (.int 4000),some (.loc 0),some (.int R),p6,some (.int I),some (.tp f [s,c,sn,.tp d vs]),p9,u] [.lst acc]=.nx [p0,some (.int w),some (.int n),some (.int 4000),some (.loc 0),some (.int R),p6,some (.int I),some (.tp f [s,c,sn,.tp d vs]),p9,u'] [.lst (acc++upTo (λJ=>rs.map λr=>r.pv I J n) N)]:=by
 obtain⟨ρ',st',h1,u',rfl,rfl⟩:=zaw (call:=yc T (k+2)) (t:=.n 10) (b:=ybM) (λi ρ st=>∃u,ρ=[p0,some (.int w),some (.int n),some (.int 4000),some (.loc 0),some (.int R),p6,some (.int I),some (.tp f [s,c,sn,.tp d vs]),p9,u]/\st=[.lst (acc++upTo (λJ=>rs.map λr=>r.pv I J n) i)]) (yo N 0 1) 0 [p0,some (.int w),some (.int n),some (.int 4000),some (.loc 0),some (.int R),p6,some (.int I),some (.tp f [s,c,sn,.tp d vs]),p9,u] [.lst acc] ⟨u,rfl,by simp[upTo]⟩ (by
  rintro j x ρ st hx ⟨u,rfl,rfl⟩
  obtain⟨rfl,hj⟩:=zG N 0 j x hx
  rw[Nat.zero_add,Int.zero_add]
  have hle:=ze6 (λJ=>rs.map λr=>r.pv I J n) (i:=j+1) N (by omega)
  simp only[upTo,List.length_append,List.length_map]at hle hl
  refine⟨_,_,_,rfl,ziq k hd hR (by simp;omega),_,rfl,?_⟩
  rw[upTo,List.append_assoc])
 rw[zn,Nat.zero_add]at h1
 exact⟨u',h1⟩
theorem zct:ye .eq (.str "row") (.str "row")=some (.bl true):=by ac_rfl
theorem zcJ:ye .eq (.str "rounds") (.str "row")=some (.bl false):=by ac_rfl
theorem yeH {acc:List PV}{x:PV}(h:acc.length<1000000):ybq .append [Ob.lst acc] (.loc 0) [x]=.ok .non [.lst (acc++[x])]:=by simp[ybq,yc1,h]
theorem zha {z:Int}(h:z.natAbs<1000000):ya8 (.int z)=some (yo z.toNat 0 1):=by
 simp only[ya8]
 rw[if_pos (by omega)]
theorem zi8 (k:Nat){p0 p6 u9 u10:Option PV}{w n R:Int}{I:Nat}{v:PV}{p:T2}(hp:part2 v=some p){acc:List PV}(w0:0<=w)(w1:w<=16)(n0:0<=n)(n1:n<=8)(hR0:0<=R)(hR:R+p.rnd w n<=4000)(hl:acc.length+(p.rows w n I).length<=4000) :
  ∃v9 v10,exs (yc T (k+2)) [p0,some (.int w),some (.int n),some (.int 4000),some (.loc 0),some (.int R),p6,some (.int I),some v,u9,u10] [.lst acc] ycb=.nx [p0,some (.int w),some (.int n),some (.int 4000),some (.loc 0),some (.int (R+p.rnd w n)),p6,some (.int I),some v,v9,v10] [.lst (acc++p.rows w n I)]:=by
 rcases ziP hp with⟨r,rfl,hr⟩|⟨a,b,sn,d,vs,c,m,t,rs,rfl,rfl,hd,hc,hm,ht⟩
 ·obtain⟨f,v1,rfl,h1⟩:=ze4 hr
  have hpl:=zbK k h1 I 0 n [.lst acc]
  have hal:acc.length<1000000:=by omega
  refine⟨u9,u10,?_⟩
  simp only[ycb,ycf,ybS,yD,xs_cons,xs_nil,x_ite,x_expr,IC.ve1,IC.ve2,IC.ve8,IC.ve16,IC.ve18,IC.ve20,evs,List.getElem?_cons_zero,List.getElem?_cons_succ,bd_ok,fl_ok,toR_some,ix0,ix1,zct,t_bl,on_t,cond_true,ono,zj3,hpl,yeH hal,th_nx,T2.rnd,T2.rows]
  simp
 ·have hcn:=zdL (k+1) (b:=b) (c:=c) (w:=w) hm ht n0 n1 [.lst acc]
  have hcb:=zd5 hc hm ht w0 w1 n0 n1
  simp only[T2.rnd,T2.rows]at hR hl ⊢
  have hN:((cnt c m t w n:Nat):Int)=if 0<(c+m*n+t*w*n)then(c+m*n+t*w*n)else 0:=by
   unfold cnt;split <;> omega
  have h40:R<=4000:=by omega
  have hal:(acc.length:Int)<=4000:=by omega
  have hmax:yan .max [Ob.lst acc] [.int 0,.int (c+m*n+t*w*n)]=some (.int ((cnt c m t w n:Nat):Int)):=by
   simp only[yan,maxV];rw[hN]
  have hmin:yan .min [Ob.lst acc] [.int ((cnt c m t w n:Nat):Int),.int 4001]=some (.int ((cnt c m t w n:Nat):Int)):=by
   simp only[yan,ydo];rw[if_neg (by omega)]
  have hrg:ya8 (.int ((cnt c m t w n:Nat):Int))=some (yo (cnt c m t w n) 0 1):=by
   rw[zha (by omega),Int.toNat_natCast]
  obtain⟨u',e⟩:=ye3 k (p0:=p0) (p6:=p6) (p9:=some (.int ((cnt c m t w n:Nat):Int))) (w:=w) (n:=n) (R:=R+(cnt c m t w n:Nat)) (I:=I) (f:=a) (s:=.str "rounds") (c:=.tp b [.int c,.int m,.int t]) (sn:=sn) (d:=d) hd (acc:=acc) (N:=cnt c m t w n) (u:=u10) hR hl
  refine⟨some (.int ((cnt c m t w n:Nat):Int)),u',?_⟩
  have hau:∀st,ex (yc T (k+2)) [p0,some (.int w),some (.int n),some (.int 4000),some (.loc 0),some (.int R),p6,some (.int I),some (.tp a [.str "rounds",.tp b [.int c,.int m,.int t],sn,.tp d vs]),some (.int ((cnt c m t w n:Nat):Int)),u10] st (.aug 5 .add (.var 9))=.nx [p0,some (.int w),some (.int n),some (.int 4000),some (.loc 0),some (.int (R+(cnt c m t w n:Nat))),p6,some (.int I),some (.tp a [.str "rounds",.tp b [.int c,.int m,.int t],sn,.tp d vs]),some (.int ((cnt c m t w n:Nat):Int)),u10] st:=λst=>zjY rfl (by simp only[IC.ve2,List.getElem?_cons_zero,List.getElem?_cons_succ])
  have hb:ycb=(match ycb with
   | .cons (.ite q1 q2 (.cons (.ite q3 (.cons q4 (.cons q5 (.cons (.for q6 q7 _) q8))) q9) q10)) q11=>.cons (.ite q1 q2 (.cons (.ite q3 (.cons q4 (.cons q5 (.cons (.for q6 q7 ybM) q8))) q9) q10)) q11
   |_=>.nil):=rfl
  rw[hb]
  simp only[ycb,ycf,ybS,yD,xs_cons,xs_nil,x_ite,x_asg,x_for,evi,IC.ve1,IC.ve2,IC.ve6,IC.ve8,IC.ve16,IC.ve18,IC.ve19,evs,List.getElem?_cons_zero,List.getElem?_cons_succ,bd_ok,fl_ok,toR_some,ix0,ix1,ix3,zcJ,t_bl,on_t,onBl,cond_true,cond_false,c_le,len0,h40,hal,decide_true,hcn,hmax,hmin,bT_n,nxO_some,th_nx,List.set_cons_zero,List.set_cons_succ,hau,hrg,toL,e]
theorem un8 (k:Nat){p0 p6:Option PV}{w n:Int}{I:Nat}(w0:0<=w)(w1:w<=16)(n0:0<=n)(n1:n<=8):∀(vs:List PV) (ps:List T2) (R:Int) (acc:List PV) (u8 u9 u10:Option PV),yaw vs=some ps->0<=R->R+yaM w n ps<=4000->acc.length+(yad w n I ps).length<=4000 ->
  ∃v8 v9 v10,yaB (yc T (k+2)) (.n 8) ycb vs [p0,some (.int w),some (.int n),some (.int 4000),some (.loc 0),some (.int R),p6,some (.int I),u8,u9,u10] [.lst acc]=.nx [p0,some (.int w),some (.int n),some (.int 4000),some (.loc 0),some (.int (R+yaM w n ps)),p6,some (.int I),v8,v9,v10] [.lst (acc++yad w n I ps)]
 | [],ps,R,acc,u8,u9,u10,h,_,_,_=>by
  cases h
  exact⟨u8,u9,u10,by rw[zt];simp[yaM,yad]⟩
 |v::vs,ps,R,acc,u8,u9,u10,h,hR0,hR,hl=>by
  unfold yaw at h
  split at h
  ·rename_i a b ha hb
   cases h
   have q1:yaM w n (a::b)=a.rnd w n+yaM w n b:=by simp[yaM]
   have q2:yad w n I (a::b)=a.rows w n I++yad w n I b:=by simp[yad]
   rw[q1]at hR
   rw[q2,List.length_append]at hl
   obtain⟨v9,v10,e1⟩:=zi8 k (p0:=p0) (p6:=p6) (u9:=u9) (u10:=u10) (R:=R) (I:=I) ha (acc:=acc) w0 w1 n0 n1 hR0 (by omega) (by omega)
   obtain⟨x8,x9,x10,e2⟩:=un8 k (p0:=p0) (p6:=p6) (I:=I) w0 w1 n0 n1 vs b (R+a.rnd w n) (acc++a.rows w n I) (some v) v9 v10 hb (by omega) (by omega) (by rw[List.length_append];omega)
   refine⟨x8,x9,x10,?_⟩
   rw[zm (ρ1:=[p0,some (.int w),some (.int n),some (.int 4000),some (.loc 0),some (.int R),p6,some (.int I),some v,u9,u10]) rfl,e1,q1,q2]
   show yaB _ _ _ _ _ _=_
   rw[e2,List.append_assoc,Int.natCast_add,Int.add_assoc]
  ·cases h
theorem zjS (k:Nat){p0 u8 u9 u10:Option PV}{w n R:Int}{I:Nat}{a b d:Bool}{sn:PV}{vs:List PV}{c m t:Int}{ps:List T2}(hp:yaw vs=some ps){acc:List PV}(w0:0<=w)(w1:w<=16)(n0:0<=n)(n1:n<=8)(hR0:0<=R)(hR:R+1+yaM w n ps<=4000)(hl:acc.length+(yad w n I ps).length<=4000) :
  ∃v8 v9 v10,exs (yc T (k+2)) [p0,some (.int w),some (.int n),some (.int 4000),some (.loc 0),some (.int R),some (.tp a [.str "rounds",.tp b [.int c,.int m,.int t],sn,.tp d vs]),some (.int I),u8,u9,u10] [.lst acc] ycf=.nx [p0,some (.int w),some (.int n),some (.int 4000),some (.loc 0),some (.int (R+1+yaM w n ps)),some (.tp a [.str "rounds",.tp b [.int c,.int m,.int t],sn,.tp d vs]),some (.int I),v8,v9,v10] [.lst (acc++yad w n I ps)]:=by
 obtain⟨v8,v9,v10,e⟩:=un8 k (p0:=p0) (p6:=some (.tp a [.str "rounds",.tp b [.int c,.int m,.int t],sn,.tp d vs])) (I:=I) w0 w1 n0 n1 vs ps (R+1) acc u8 u9 u10 hp (by omega) hR hl
 refine⟨v8,v9,v10,?_⟩
 have hau:∀st,ex (yc T (k+2)) [p0,some (.int w),some (.int n),some (.int 4000),some (.loc 0),some (.int R),some (.tp a [.str "rounds",.tp b [.int c,.int m,.int t],sn,.tp d vs]),some (.int I),u8,u9,u10] st (.aug 5 .add (.cst (.int 1)))=.nx [p0,some (.int w),some (.int n),some (.int 4000),some (.loc 0),some (.int (R+1)),some (.tp a [.str "rounds",.tp b [.int c,.int m,.int t],sn,.tp d vs]),some (.int I),u8,u9,u10] st:=λst=>zjY rfl (by simp only[IC.ve1])
 have hb:ycf=.cons (.aug 5 .add (.cst (.int 1))) (.cons (.for (.n 8) (.seq (.idx (.var 6) (.cst (.int 3)))) ycb) (.cons (.ite (.or (.cmp .gt (.var 5) (.cst (.int 4000))) (.cmp .gt (.blt .len (.cons (.var 4) .nil)) (.var 3))) (.cons (.ret (.cst .non)) .nil) .nil) .nil)):=rfl
 have g1:¬(4000:Int)<R+1+yaM w n ps:=by omega
 have g2:¬(4000:Int)<((acc++yad w n I ps).length:Nat):=by rw[List.length_append];omega
 rw[hb]
 simp only[xs_cons,xs_nil,x_ite,x_for,evi,hau,IC.ve1,IC.ve2,IC.ve7,IC.ve8,IC.ve16,IC.ve19,evs,List.getElem?_cons_zero,List.getElem?_cons_succ,bd_ok,fl_ok,toR_some,ix3,th_nx,e,c_gt,len0,g1,g2,decide_false,onBl,cond_false,t_bl,on_t]
theorem un7 (k:Nat){p0:Option PV}{w n R:Int}{a b d:Bool}{sn:PV}{vs:List PV}{c m t:Int}{ps:List T2}(hp:yaw vs=some ps){acc:List PV}{N:Nat}{u7 u8 u9 u10:Option PV}(w0:0<=w)(w1:w<=16)(n0:0<=n)(n1:n<=8)(hR0:0<=R)(hR:R+(N*(1+yaM w n ps):Nat)<=4000)(hl:acc.length+(upTo (λI=>yad w n I ps) N).length<=4000) :
  ∃v7 v8 v9 v10,yaB (yc T (k+2)) (.n 7) ycf (yo N 0 1) [p0,some (.int w),some (.int n),some (.int 4000),some (.loc 0),some (.int R),some (.tp a [.str "rounds",.tp b [.int c,.int m,.int t],sn,.tp d vs]),u7,u8,u9,u10] [.lst acc]=.nx [p0,some (.int w),some (.int n),some (.int 4000),some (.loc 0),some (.int (R+(N*(1+yaM w n ps):Nat))),some (.tp a [.str "rounds",.tp b [.int c,.int m,.int t],sn,.tp d vs]),v7,v8,v9,v10] [.lst (acc++upTo (λI=>yad w n I ps) N)]:=by
 obtain⟨ρ',st',h1,v7,v8,v9,v10,rfl,rfl⟩:=zaw (call:=yc T (k+2)) (t:=.n 7) (b:=ycf) (λi ρ st=>∃v7 v8 v9 v10,ρ=[p0,some (.int w),some (.int n),some (.int 4000),some (.loc 0),some (.int (R+(i*(1+yaM w n ps):Nat))),some (.tp a [.str "rounds",.tp b [.int c,.int m,.int t],sn,.tp d vs]),v7,v8,v9,v10]/\st=[.lst (acc++upTo (λI=>yad w n I ps) i)]) (yo N 0 1) 0 [p0,some (.int w),some (.int n),some (.int 4000),some (.loc 0),some (.int R),some (.tp a [.str "rounds",.tp b [.int c,.int m,.int t],sn,.tp d vs]),u7,u8,u9,u10] [.lst acc] ⟨u7,u8,u9,u10,by simp,by simp[upTo]⟩ (by
  rintro j x ρ st hx ⟨v7,v8,v9,v10,rfl,rfl⟩
  obtain⟨rfl,hj⟩:=zG N 0 j x hx
  rw[Nat.zero_add,Int.zero_add]
  have hle:=ze6 (λI=>yad w n I ps) (i:=j+1) N (by omega)
  have hmu:(j+1)*(1+yaM w n ps)<=N*(1+yaM w n ps):=Nat.mul_le_mul_right _ (by omega)
  have hms:(j+1)*(1+yaM w n ps)=j*(1+yaM w n ps)+(1+yaM w n ps):=Nat.succ_mul _ _
  simp only[upTo,List.length_append]at hle hl
  obtain⟨x8,x9,x10,e⟩:=zjS k (p0:=p0) (u8:=v8) (u9:=v9) (u10:=v10) (R:=R+(j*(1+yaM w n ps):Nat)) (I:=j) (a:=a) (b:=b) (d:=d) (sn:=sn) (c:=c) (m:=m) (t:=t) hp (acc:=acc++upTo (λI=>yad w n I ps) j) w0 w1 n0 n1 (by omega) (by omega) (by simp only[List.length_append];omega)
  refine⟨_,_,_,rfl,e,some (.int j),x8,x9,x10,?_,?_⟩
  ·rw[hms]
   simp only[List.cons.injEq,and_true,true_and,Option.some.injEq,PV.int.injEq]
   omega
  ·rw[upTo,List.append_assoc])
 rw[zn,Nat.zero_add]at h1
 exact⟨v7,v8,v9,v10,h1⟩
theorem zjB (k:Nat){p0 u7 u8 u9 u10:Option PV}{w n R:Int}{v:PV}{p:T1}(hp:part1 v=some p){acc:List PV}(w0:0<=w)(w1:w<=16)(n0:0<=n)(n1:n<=8)(hR0:0<=R)(hR:R+p.rnd w n<=4000)(hl:acc.length+(p.rows w n).length<=4000) :
  ∃v7 v8 v9 v10,exs (yc T (k+2)) [p0,some (.int w),some (.int n),some (.int 4000),some (.loc 0),some (.int R),some v,u7,u8,u9,u10] [.lst acc] ybS=.nx [p0,some (.int w),some (.int n),some (.int 4000),some (.loc 0),some (.int (R+p.rnd w n)),some v,v7,v8,v9,v10] [.lst (acc++p.rows w n)]:=by
 rcases zjE hp with⟨r,rfl,hr⟩|⟨a,b,sn,d,vs,c,m,t,ps,rfl,rfl,hd,hc,hm,ht⟩
 ·obtain⟨f,v1,rfl,h1⟩:=ze4 hr
  have hpl:=zbK k h1 0 0 n [.lst acc]
  have hal:acc.length<1000000:=by omega
  refine⟨u7,u8,u9,u10,?_⟩
  simp only[ybS,yD,xs_cons,xs_nil,x_ite,x_expr,IC.ve1,IC.ve2,IC.ve8,IC.ve16,IC.ve18,IC.ve20,evs,List.getElem?_cons_zero,List.getElem?_cons_succ,bd_ok,fl_ok,toR_some,ix0,ix1,zct,t_bl,on_t,cond_true,ono,zj3,hpl,yeH hal,th_nx,T1.rnd,T1.rows]
  simp
 ·have hcn:=zdL (k+1) (b:=b) (c:=c) (w:=w) hm ht n0 n1 [.lst acc]
  have hcb:=zd5 hc hm ht w0 w1 n0 n1
  simp only[T1.rnd,T1.rows]at hR hl ⊢
  obtain⟨v7,v8,v9,v10,e⟩:=un7 k (p0:=p0) (R:=R) (a:=a) (b:=b) (d:=d) (sn:=sn) (c:=c) (m:=m) (t:=t) hd (acc:=acc) (N:=cnt c m t w n) (u7:=u7) (u8:=u8) (u9:=u9) (u10:=u10) w0 w1 n0 n1 hR0 hR hl
  have hN1:cnt c m t w n<=cnt c m t w n*(1+yaM w n ps):=Nat.le_mul_of_pos_right _ (by omega)
  have hmin:yan .min [Ob.lst acc] [.int (c+m*n+t*w*n),.int 4001]=some (.int (c+m*n+t*w*n)):=by
   simp only[yan,ydo];rw[if_neg (by unfold cnt at *;omega)]
  have hrg:ya8 (.int (c+m*n+t*w*n))=some (yo (cnt c m t w n) 0 1):=zha hcb
  refine⟨v7,v8,v9,v10,?_⟩
  have hb:ybS=(match ybS with
   | .cons (.ite q1 q2 (.cons (.for q6 q7 _) q8)) q11=>.cons (.ite q1 q2 (.cons (.for q6 q7 ycf) q8)) q11
   |_=>.nil):=rfl
  rw[hb]
  simp only[ybS,yD,xs_cons,xs_nil,x_ite,x_for,evi,IC.ve1,IC.ve2,IC.ve8,IC.ve16,IC.ve18,IC.ve19,evs,List.getElem?_cons_zero,List.getElem?_cons_succ,bd_ok,fl_ok,toR_some,ix0,ix1,zcJ,t_bl,on_t,cond_false,hcn,hmin,hrg,toL,e,th_nx]
theorem un6 (k:Nat){p0:Option PV}{w n:Int}(w0:0<=w)(w1:w<=16)(n0:0<=n)(n1:n<=8):∀(vs:List PV) (ps:List T1) (R:Int) (acc:List PV) (u6 u7 u8 u9 u10:Option PV),yaq vs=some ps->0<=R->R+yaS w n ps<=4000->acc.length+(yW w n ps).length<=4000 ->
  ∃v6 v7 v8 v9 v10,yaB (yc T (k+2)) (.n 6) ybS vs [p0,some (.int w),some (.int n),some (.int 4000),some (.loc 0),some (.int R),u6,u7,u8,u9,u10] [.lst acc]=.nx [p0,some (.int w),some (.int n),some (.int 4000),some (.loc 0),some (.int (R+yaS w n ps)),v6,v7,v8,v9,v10] [.lst (acc++yW w n ps)]
 | [],ps,R,acc,u6,u7,u8,u9,u10,h,_,_,_=>by
  cases h
  exact⟨u6,u7,u8,u9,u10,by rw[zt];simp[yaS,yW]⟩
 |v::vs,ps,R,acc,u6,u7,u8,u9,u10,h,hR0,hR,hl=>by
  unfold yaq at h
  split at h
  ·rename_i a b ha hb
   cases h
   have q1:yaS w n (a::b)=a.rnd w n+yaS w n b:=by simp[yaS]
   have q2:yW w n (a::b)=a.rows w n++yW w n b:=by simp[yW]
   rw[q1]at hR
   rw[q2,List.length_append]at hl
   obtain⟨v7,v8,v9,v10,e1⟩:=zjB k (p0:=p0) (u7:=u7) (u8:=u8) (u9:=u9) (u10:=u10) (R:=R) ha (acc:=acc) w0 w1 n0 n1 hR0 (by omega) (by omega)
   obtain⟨x6,x7,x8,x9,x10,e2⟩:=un6 k (p0:=p0) w0 w1 n0 n1 vs b (R+a.rnd w n) (acc++a.rows w n) (some v) v7 v8 v9 v10 hb (by omega) (by omega) (by rw[List.length_append];omega)
   refine⟨x6,x7,x8,x9,x10,?_⟩
   rw[zm (ρ1:=[p0,some (.int w),some (.int n),some (.int 4000),some (.loc 0),some (.int R),some v,u7,u8,u9,u10]) rfl,e1,q1,q2]
   show yaB _ _ _ _ _ _=_
   rw[e2,List.append_assoc,Int.natCast_add,Int.add_assoc]
  ·cases h
theorem unrolled (k:Nat){b:Bool}{vs:List PV}{ps:List T1}{w n:Int}(hv:noLocs vs=true)(hp:yaq vs=some ps)(w0:0<=w)(w1:w<=16)(n0:0<=n)(n1:n<=8)(hR:yaS w n ps<=4000)(hl:(yW w n ps).length<=4000)(hno:noLocs (yW w n ps)=true)(st:Store) :
  yc T (k+3) zaa [.tp b vs,.int w,.int n,.int 4000] st=.ok (.lst (yW w n ps)) st:=by
 obtain⟨v6,v7,v8,v9,v10,e⟩:=un6 k (p0:=some (.tp b vs)) w0 w1 n0 n1 vs ps 0 [] none none none none none hp (by omega) (by omega) (by simpa using hl)
 rw[List.nil_append]at e
 have hT:T zaa=some ⟨4,11,true,yD.body⟩:=rfl
 have hb:yD.body=.cons (.asg (.n 4) (.newl .nil)) (.cons (.asg (.n 5) (.cst (.int 0))) (.cons (.for (.n 6) (.seq (.var 0)) ybS) (.cons (.ite (.cmp .gt (.blt .len (.cons (.var 4) .nil)) (.var 3)) (.cons (.ret (.cst .non)) .nil) .nil) (.cons (.ret (.frz (.var 4))) .nil)))):=rfl
 have hnl:noLocs [.tp b vs,.int w,.int n,.int 4000]=true:=by simp[noLocs,noLoc,hv]
 have g:¬(4000:Int)<((yW w n ps).length:Nat):=by omega
 have hf:ydu (.loc 0) [.lst (yW w n ps)]=.ok (.lst (yW w n ps)) [.dead]:=rfl
 rw[yc,hT,hb]
 simp only[List.length_cons,List.length_nil,Nat.zero_add,Nat.reduceAdd,if_true,hnl,List.map_cons,List.map_nil,Nat.reduceSub,List.replicate,List.cons_append,List.nil_append,xs_cons,xs_nil,x_asg,x_for,x_ite,x_ret,evi,IC.ve1,IC.ve2,IC.ve8,IC.ve13,IC.ve19,IC.ve25,evs,List.getElem?_cons_zero,List.getElem?_cons_succ,bd_ok,fl_ok,toR_some,sizeMax,Nat.zero_le,bT_n,nxO_some,th_nx,th_rt,List.set_cons_zero,List.set_cons_succ,e,len0,c_gt,g,decide_false,t_bl,on_t,cond_false,hf,noLoc,hno]
theorem zlz:ye .eq (.str "mark") (.str "times")=some (.bl false):=by ac_rfl
theorem zk9:ye .notin (.str "mark") (.tup [.str "mark",.str "ask"])=some (.bl false):=by ac_rfl
theorem znO:ye .eq (.str "ask") (.str "times")=some (.bl false):=by ac_rfl
theorem zn6:ye .notin (.str "ask") (.tup [.str "mark",.str "ask"])=some (.bl false):=by ac_rfl
theorem znf:ye .eq (.str "set") (.str "times")=some (.bl false):=by ac_rfl
theorem znh:ye .notin (.str "set") (.tup [.str "mark",.str "ask"])=some (.bl true):=by ac_rfl
theorem zlp:ye .eq (.str "move") (.str "times")=some (.bl false):=by ac_rfl
theorem zlw:ye .notin (.str "move") (.tup [.str "mark",.str "ask"])=some (.bl true):=by ac_rfl
theorem zlk:ye .eq (.str "bare") (.str "times")=some (.bl false):=by ac_rfl
theorem zkN:ye .notin (.str "bare") (.tup [.str "mark",.str "ask"])=some (.bl true):=by ac_rfl
theorem zi5:ye .eq (.str "twice") (.str "times")=some (.bl false):=by ac_rfl
theorem zjI:ye .notin (.str "twice") (.tup [.str "mark",.str "ask"])=some (.bl true):=by ac_rfl
theorem zkI:ye .eq (.str "half") (.str "times")=some (.bl false):=by ac_rfl
theorem zkT:ye .notin (.str "half") (.tup [.str "mark",.str "ask"])=some (.bl true):=by ac_rfl
theorem zoh:ye .eq (.str "sum") (.str "times")=some (.bl false):=by ac_rfl
theorem znL:ye .notin (.str "sum") (.tup [.str "mark",.str "ask"])=some (.bl true):=by ac_rfl
theorem zlq:ye .eq (.str "less") (.str "times")=some (.bl false):=by ac_rfl
theorem zlb:ye .notin (.str "less") (.tup [.str "mark",.str "ask"])=some (.bl true):=by ac_rfl
theorem zl1:ye .eq (.str "both") (.str "times")=some (.bl false):=by ac_rfl
theorem zlg:ye .notin (.str "both") (.tup [.str "mark",.str "ask"])=some (.bl true):=by ac_rfl
theorem zm7:ye .eq (.str "any") (.str "times")=some (.bl false):=by ac_rfl
theorem zmL:ye .notin (.str "any") (.tup [.str "mark",.str "ask"])=some (.bl true):=by ac_rfl
theorem zmw:ye .eq (.str "odd") (.str "times")=some (.bl false):=by ac_rfl
theorem zn5:ye .notin (.str "odd") (.tup [.str "mark",.str "ask"])=some (.bl true):=by ac_rfl
theorem zji:ye .eq (.str "times") (.str "times")=some (.bl true):=by ac_rfl
theorem zjK:ye .notin (.str "times") (.tup [.str "mark",.str "ask"])=some (.bl true):=by ac_rfl
theorem abS:Str.ofString "ab"=⟨#[97,98]⟩:=by ac_rfl
theorem zbu {l:Nat}(h1:l≠97)(h2:l≠98):ye .isin (.str (chS l)) (.str "ab")=some (.bl false):=by
 have e0:(#[97,98]:Array Nat).extract 0 1=#[97]:=rfl
 have e1:(#[97,98]:Array Nat).extract 1 2=#[98]:=rfl
 have n1:¬(97=l):=λz=>h1 z.symm
 have n2:¬(98=l):=λz=>h2 z.symm
 rw[abS]
 simp[ye,inS,chS,Str.length,List.range,List.range.loop,e0,e1,n1,n2]
def okC (x:Cel):Prop:=0<=x.2/\x.2<=99
def okP (x:Cel):Prop:=okC x/\x.1≠97/\x.1≠98
def okR:Rw->Prop
 | .mark _=>True
 | .ask x=>okC x
 | .set t _=>okP t
 | .move t x=>okP t/\okC x
 | .bare t x=>okP t/\okC x
 | .twice t x=>okP t/\okC x
 | .half t x=>okP t/\okC x
 | .sum t x y=>okP t/\okC x/\okC y
 | .less t x y=>okP t/\okC x/\okC y
 | .both t x y=>okP t/\okC x/\okC y
 | .any t x y=>okP t/\okC x/\okC y
 | .odd t x y=>okP t/\okC x/\okC y
 | .times l t x y=>okP l/\okP t/\okC x/\okC y/\l.1≠t.1/\l.1<1000/\t.1<1000
noncomputable def yaV:Css:=match yg.body with
 | .cons (.for _ _ b) _=>b
 |_=>.nil
noncomputable def yc9:Css:=match yaV with
 | .cons (.for _ _ b) _=>b
 |_=>.nil
theorem zaD {call:Cl}{p0 p1:Option PV}{st:Store}:∀(vs:List PV) (u:Option PV),(∀v∈vs,(∃d,v=.int d) \/ ∃x,v=yq x/\okC x)->∃u',yaB call (.n 2) yc9 vs [p0,p1,u] st=.nx [p0,p1,u'] st
 | [],u,_=>⟨u,zt⟩
 |v::vs,u,h=>by
  obtain⟨u',e⟩:=zaD (call:=call) (p0:=p0) (p1:=p1) (st:=st) vs (some v) λx hx=>h x (List.mem_cons_of_mem _ hx)
  refine⟨u',?_⟩
  have hb:exs call [p0,p1,some v] st yc9=.nx [p0,p1,some v] st:=by
   rcases h v List.mem_cons_self with⟨d,rfl⟩|⟨x,rfl,h1,h2⟩
   ·have hi:ybv (.int d) [.tuple]=some (.bl false):=rfl
    simp only[yc9,yaV,yg,xs_cons,xs_nil,x_ite,IC.ve2,IC.ve6,IC.ve21,List.getElem?_cons_zero,List.getElem?_cons_succ,bd_ok,fl_ok,toR_some,hi,onBl,cond_false,t_bl,on_t,th_nx]
   ·have hi:ybv (yq x) [.tuple]=some (.bl true):=rfl
    have hx:∀st,idxV st (yq x) (.int 1)=some (.int x.2):=λst=>ix1
    simp only[yc9,yaV,yg,xs_cons,xs_nil,x_ite,IC.ve1,IC.ve2,IC.ve5,IC.ve6,IC.ve9,IC.ve16,IC.ve21,List.getElem?_cons_zero,List.getElem?_cons_succ,bd_ok,fl_ok,toR_some,hi,hx,c_le,h1,h2,decide_true,blO,onO,onBl,cond_true,cond_false,t_bl,on_t,Bool.not_true,th_nx]
  rw[zm (ρ1:=[p0,p1,some v]) rfl,hb]
  exact e
theorem ybC {a:Bool}{x:PV}{vs:List PV}:yb6 (.tp a (x::vs)) (some 1) .non=some (.tup vs):=by
 have h1:yaF (vs.length+1) 1=1:=by simp[yaF]
 simp[yb6,yaE,yb1,ych,ycB,cut,h1]
theorem zkm {l t:Cel}(h:l.1≠t.1)(h1:l.1<1000)(h2:t.1<1000):ye .eq (yq l) (yq t)=some (.bl false):=by
 have e:peq (yq l) (yq t)=false:=by
  unfold yq
  rw[z8]
  exact decide_eq_false λz=>h z.1
 simp only[ye,e]
 simp[yq,yQ,shd,ybu,shp]
 refine⟨λi hi=>?_,λi hi=>?_⟩ <;> (simp[chS]at hi ⊢;omega)
theorem znW {call:Cl}{p0 u:Option PV}{st:Store}(r:Rw)(h:okR r):∃u',exs call [p0,some (yr r),u] st yaV=.nx [p0,some (yr r),u'] st:=by
 have hb:yaV=(match yaV with
  | .cons (.for t i _) q=>.cons (.for t i yc9) q
  |_=>.nil):=rfl
 rw[hb]
 cases r
 ·rename_i d
  obtain⟨u',e⟩:=zaD (call:=call) (p0:=p0) (p1:=some (yr (.mark d))) (st:=st) [.int d] u (λv hv=>by simp at hv;exact .inl ⟨d,hv⟩)
  refine⟨u',?_⟩
  simp only[yr]at e
  simp only[yg,yaV,yr,xs_cons,xs_nil,x_for,x_ite,evi,IC.ve1,IC.ve2,IC.ve6,IC.ve7,IC.ve8,IC.ve11,IC.ve16,IC.ve17,evs,List.getElem?_cons_zero,List.getElem?_cons_succ,bd_ok,fl_ok,toR_some,yaE,onP,ybC,th_nx,ix0,ix1,onBl,cond_true,cond_false,t_bl,on_t,List.length_cons,List.length_nil,Nat.zero_add,Nat.reduceAdd,sizeMax,Nat.reduceLeDiff,if_true,e,zlz,zk9]
 ·rename_i x
  obtain⟨u',e⟩:=zaD (call:=call) (p0:=p0) (p1:=some (yr (.ask x))) (st:=st) [yq x] u (λv hv=>by simp at hv;exact .inr ⟨x,hv,h⟩)
  refine⟨u',?_⟩
  simp only[yr]at e
  simp only[yg,yaV,yr,xs_cons,xs_nil,x_for,x_ite,evi,IC.ve1,IC.ve2,IC.ve6,IC.ve7,IC.ve8,IC.ve11,IC.ve16,IC.ve17,evs,List.getElem?_cons_zero,List.getElem?_cons_succ,bd_ok,fl_ok,toR_some,yaE,onP,ybC,th_nx,ix0,ix1,onBl,cond_true,cond_false,t_bl,on_t,List.length_cons,List.length_nil,Nat.zero_add,Nat.reduceAdd,sizeMax,Nat.reduceLeDiff,if_true,e,znO,zn6]
 ·rename_i t d
  obtain⟨u',e⟩:=zaD (call:=call) (p0:=p0) (p1:=some (yr (.set t d))) (st:=st) [yq t,.int d] u (λv hv=>by
   simp at hv
   rcases hv with rfl|rfl
   ·exact .inr ⟨t,rfl,h.1⟩
   ·exact .inl ⟨d,rfl⟩)
  have hl:∀st,idxV st (yq t) (.int 0)=some (.str (chS t.1)):=λst=>ix0
  refine⟨u',?_⟩
  simp only[yr]at e
  simp only[yg,yaV,yr,xs_cons,xs_nil,x_for,x_ite,evi,IC.ve1,IC.ve2,IC.ve6,IC.ve7,IC.ve8,IC.ve11,IC.ve16,IC.ve17,evs,List.getElem?_cons_zero,List.getElem?_cons_succ,bd_ok,fl_ok,toR_some,yaE,onP,ybC,th_nx,ix0,ix1,onBl,cond_true,cond_false,t_bl,on_t,List.length_cons,List.length_nil,Nat.zero_add,Nat.reduceAdd,sizeMax,Nat.reduceLeDiff,if_true,e,znf,znh,hl,zbu h.2.1 h.2.2]
 ·rename_i t x
  obtain⟨u',e⟩:=zaD (call:=call) (p0:=p0) (p1:=some (yr (.move t x))) (st:=st) [yq t,yq x] u (λv hv=>by
   simp at hv
   rcases hv with rfl|rfl
   ·exact .inr ⟨t,rfl,h.1.1⟩
   ·exact .inr ⟨x,rfl,h.2⟩)
  have hl:∀st,idxV st (yq t) (.int 0)=some (.str (chS t.1)):=λst=>ix0
  refine⟨u',?_⟩
  simp only[yr]at e
  simp only[yg,yaV,yr,xs_cons,xs_nil,x_for,x_ite,evi,IC.ve1,IC.ve2,IC.ve6,IC.ve7,IC.ve8,IC.ve11,IC.ve16,IC.ve17,evs,List.getElem?_cons_zero,List.getElem?_cons_succ,bd_ok,fl_ok,toR_some,yaE,onP,ybC,th_nx,ix0,ix1,onBl,cond_true,cond_false,t_bl,on_t,List.length_cons,List.length_nil,Nat.zero_add,Nat.reduceAdd,sizeMax,Nat.reduceLeDiff,if_true,e,zlp,zlw,hl,zbu h.1.2.1 h.1.2.2]
 ·rename_i t x
  obtain⟨u',e⟩:=zaD (call:=call) (p0:=p0) (p1:=some (yr (.bare t x))) (st:=st) [yq t,yq x] u (λv hv=>by
   simp at hv
   rcases hv with rfl|rfl
   ·exact .inr ⟨t,rfl,h.1.1⟩
   ·exact .inr ⟨x,rfl,h.2⟩)
  have hl:∀st,idxV st (yq t) (.int 0)=some (.str (chS t.1)):=λst=>ix0
  refine⟨u',?_⟩
  simp only[yr]at e
  simp only[yg,yaV,yr,xs_cons,xs_nil,x_for,x_ite,evi,IC.ve1,IC.ve2,IC.ve6,IC.ve7,IC.ve8,IC.ve11,IC.ve16,IC.ve17,evs,List.getElem?_cons_zero,List.getElem?_cons_succ,bd_ok,fl_ok,toR_some,yaE,onP,ybC,th_nx,ix0,ix1,onBl,cond_true,cond_false,t_bl,on_t,List.length_cons,List.length_nil,Nat.zero_add,Nat.reduceAdd,sizeMax,Nat.reduceLeDiff,if_true,e,zlk,zkN,hl,zbu h.1.2.1 h.1.2.2]
 ·rename_i t x
  obtain⟨u',e⟩:=zaD (call:=call) (p0:=p0) (p1:=some (yr (.twice t x))) (st:=st) [yq t,yq x] u (λv hv=>by
   simp at hv
   rcases hv with rfl|rfl
   ·exact .inr ⟨t,rfl,h.1.1⟩
   ·exact .inr ⟨x,rfl,h.2⟩)
  have hl:∀st,idxV st (yq t) (.int 0)=some (.str (chS t.1)):=λst=>ix0
  refine⟨u',?_⟩
  simp only[yr]at e
  simp only[yg,yaV,yr,xs_cons,xs_nil,x_for,x_ite,evi,IC.ve1,IC.ve2,IC.ve6,IC.ve7,IC.ve8,IC.ve11,IC.ve16,IC.ve17,evs,List.getElem?_cons_zero,List.getElem?_cons_succ,bd_ok,fl_ok,toR_some,yaE,onP,ybC,th_nx,ix0,ix1,onBl,cond_true,cond_false,t_bl,on_t,List.length_cons,List.length_nil,Nat.zero_add,Nat.reduceAdd,sizeMax,Nat.reduceLeDiff,if_true,e,zi5,zjI,hl,zbu h.1.2.1 h.1.2.2]
 ·rename_i t x
  obtain⟨u',e⟩:=zaD (call:=call) (p0:=p0) (p1:=some (yr (.half t x))) (st:=st) [yq t,yq x] u (λv hv=>by
   simp at hv
   rcases hv with rfl|rfl
   ·exact .inr ⟨t,rfl,h.1.1⟩
   ·exact .inr ⟨x,rfl,h.2⟩)
  have hl:∀st,idxV st (yq t) (.int 0)=some (.str (chS t.1)):=λst=>ix0
  refine⟨u',?_⟩
  simp only[yr]at e
  simp only[yg,yaV,yr,xs_cons,xs_nil,x_for,x_ite,evi,IC.ve1,IC.ve2,IC.ve6,IC.ve7,IC.ve8,IC.ve11,IC.ve16,IC.ve17,evs,List.getElem?_cons_zero,List.getElem?_cons_succ,bd_ok,fl_ok,toR_some,yaE,onP,ybC,th_nx,ix0,ix1,onBl,cond_true,cond_false,t_bl,on_t,List.length_cons,List.length_nil,Nat.zero_add,Nat.reduceAdd,sizeMax,Nat.reduceLeDiff,if_true,e,zkI,zkT,hl,zbu h.1.2.1 h.1.2.2]
 ·rename_i t x y
  obtain⟨u',e⟩:=zaD (call:=call) (p0:=p0) (p1:=some (yr (.sum t x y))) (st:=st) [yq t,yq x,yq y] u (λv hv=>by
   simp at hv
   rcases hv with rfl|rfl|rfl
   ·exact .inr ⟨t,rfl,h.1.1⟩
   ·exact .inr ⟨x,rfl,h.2.1⟩
   ·exact .inr ⟨y,rfl,h.2.2⟩)
  have hl:∀st,idxV st (yq t) (.int 0)=some (.str (chS t.1)):=λst=>ix0
  refine⟨u',?_⟩
  simp only[yr]at e
  simp only[yg,yaV,yr,xs_cons,xs_nil,x_for,x_ite,evi,IC.ve1,IC.ve2,IC.ve6,IC.ve7,IC.ve8,IC.ve11,IC.ve16,IC.ve17,evs,List.getElem?_cons_zero,List.getElem?_cons_succ,bd_ok,fl_ok,toR_some,yaE,onP,ybC,th_nx,ix0,ix1,onBl,cond_true,cond_false,t_bl,on_t,List.length_cons,List.length_nil,Nat.zero_add,Nat.reduceAdd,sizeMax,Nat.reduceLeDiff,if_true,e,zoh,znL,hl,zbu h.1.2.1 h.1.2.2]
 ·rename_i t x y
  obtain⟨u',e⟩:=zaD (call:=call) (p0:=p0) (p1:=some (yr (.less t x y))) (st:=st) [yq t,yq x,yq y] u (λv hv=>by
   simp at hv
   rcases hv with rfl|rfl|rfl
   ·exact .inr ⟨t,rfl,h.1.1⟩
   ·exact .inr ⟨x,rfl,h.2.1⟩
   ·exact .inr ⟨y,rfl,h.2.2⟩)
  have hl:∀st,idxV st (yq t) (.int 0)=some (.str (chS t.1)):=λst=>ix0
  refine⟨u',?_⟩
  simp only[yr]at e
  simp only[yg,yaV,yr,xs_cons,xs_nil,x_for,x_ite,evi,IC.ve1,IC.ve2,IC.ve6,IC.ve7,IC.ve8,IC.ve11,IC.ve16,IC.ve17,evs,List.getElem?_cons_zero,List.getElem?_cons_succ,bd_ok,fl_ok,toR_some,yaE,onP,ybC,th_nx,ix0,ix1,onBl,cond_true,cond_false,t_bl,on_t,List.length_cons,List.length_nil,Nat.zero_add,Nat.reduceAdd,sizeMax,Nat.reduceLeDiff,if_true,e,zlq,zlb,hl,zbu h.1.2.1 h.1.2.2]
 ·rename_i t x y
  obtain⟨u',e⟩:=zaD (call:=call) (p0:=p0) (p1:=some (yr (.both t x y))) (st:=st) [yq t,yq x,yq y] u (λv hv=>by
   simp at hv
   rcases hv with rfl|rfl|rfl
   ·exact .inr ⟨t,rfl,h.1.1⟩
   ·exact .inr ⟨x,rfl,h.2.1⟩
   ·exact .inr ⟨y,rfl,h.2.2⟩)
  have hl:∀st,idxV st (yq t) (.int 0)=some (.str (chS t.1)):=λst=>ix0
  refine⟨u',?_⟩
  simp only[yr]at e
  simp only[yg,yaV,yr,xs_cons,xs_nil,x_for,x_ite,evi,IC.ve1,IC.ve2,IC.ve6,IC.ve7,IC.ve8,IC.ve11,IC.ve16,IC.ve17,evs,List.getElem?_cons_zero,List.getElem?_cons_succ,bd_ok,fl_ok,toR_some,yaE,onP,ybC,th_nx,ix0,ix1,onBl,cond_true,cond_false,t_bl,on_t,List.length_cons,List.length_nil,Nat.zero_add,Nat.reduceAdd,sizeMax,Nat.reduceLeDiff,if_true,e,zl1,zlg,hl,zbu h.1.2.1 h.1.2.2]
 ·rename_i t x y
  obtain⟨u',e⟩:=zaD (call:=call) (p0:=p0) (p1:=some (yr (.any t x y))) (st:=st) [yq t,yq x,yq y] u (λv hv=>by
   simp at hv
   rcases hv with rfl|rfl|rfl
   ·exact .inr ⟨t,rfl,h.1.1⟩
   ·exact .inr ⟨x,rfl,h.2.1⟩
   ·exact .inr ⟨y,rfl,h.2.2⟩)
  have hl:∀st,idxV st (yq t) (.int 0)=some (.str (chS t.1)):=λst=>ix0
  refine⟨u',?_⟩
  simp only[yr]at e
  simp only[yg,yaV,yr,xs_cons,xs_nil,x_for,x_ite,evi,IC.ve1,IC.ve2,IC.ve6,IC.ve7,IC.ve8,IC.ve11,IC.ve16,IC.ve17,evs,List.getElem?_cons_zero,List.getElem?_cons_succ,bd_ok,fl_ok,toR_some,yaE,onP,ybC,th_nx,ix0,ix1,onBl,cond_true,cond_false,t_bl,on_t,List.length_cons,List.length_nil,Nat.zero_add,Nat.reduceAdd,sizeMax,Nat.reduceLeDiff,if_true,e,zm7,zmL,hl,zbu h.1.2.1 h.1.2.2]
 ·rename_i t x y
  obtain⟨u',e⟩:=zaD (call:=call) (p0:=p0) (p1:=some (yr (.odd t x y))) (st:=st) [yq t,yq x,yq y] u (λv hv=>by
   simp at hv
   rcases hv with rfl|rfl|rfl
   ·exact .inr ⟨t,rfl,h.1.1⟩
   ·exact .inr ⟨x,rfl,h.2.1⟩
   ·exact .inr ⟨y,rfl,h.2.2⟩)
  have hl:∀st,idxV st (yq t) (.int 0)=some (.str (chS t.1)):=λst=>ix0
  refine⟨u',?_⟩
  simp only[yr]at e
  simp only[yg,yaV,yr,xs_cons,xs_nil,x_for,x_ite,evi,IC.ve1,IC.ve2,IC.ve6,IC.ve7,IC.ve8,IC.ve11,IC.ve16,IC.ve17,evs,List.getElem?_cons_zero,List.getElem?_cons_succ,bd_ok,fl_ok,toR_some,yaE,onP,ybC,th_nx,ix0,ix1,onBl,cond_true,cond_false,t_bl,on_t,List.length_cons,List.length_nil,Nat.zero_add,Nat.reduceAdd,sizeMax,Nat.reduceLeDiff,if_true,e,zmw,zn5,hl,zbu h.1.2.1 h.1.2.2]
 ·rename_i l t x y
  obtain⟨u',e⟩:=zaD (call:=call) (p0:=p0) (p1:=some (yr (.times l t x y))) (st:=st) [yq l,yq t,yq x,yq y] u (λv hv=>by
   simp at hv
   rcases hv with rfl|rfl|rfl|rfl
   ·exact .inr ⟨l,rfl,h.1.1⟩
   ·exact .inr ⟨t,rfl,h.2.1.1⟩
   ·exact .inr ⟨x,rfl,h.2.2.1⟩
   ·exact .inr ⟨y,rfl,h.2.2.2.1⟩)
  have hl:∀st,idxV st (yq l) (.int 0)=some (.str (chS l.1)):=λst=>ix0
  have ht:∀st,idxV st (yq t) (.int 0)=some (.str (chS t.1)):=λst=>ix0
  have hne:ye .eq (yq l) (yq t)=some (.bl false):=zkm h.2.2.2.2.1 h.2.2.2.2.2.1 h.2.2.2.2.2.2
  refine⟨u',?_⟩
  simp only[yr]at e
  simp only[yg,yaV,yr,xs_cons,xs_nil,x_for,x_ite,evi,IC.ve1,IC.ve2,IC.ve6,IC.ve7,IC.ve8,IC.ve11,IC.ve16,IC.ve17,evs,List.getElem?_cons_zero,List.getElem?_cons_succ,bd_ok,fl_ok,toR_some,yaE,onP,ybC,th_nx,ix0,ix1,onBl,cond_true,cond_false,t_bl,on_t,List.length_cons,List.length_nil,Nat.zero_add,Nat.reduceAdd,sizeMax,Nat.reduceLeDiff,if_true,e,zji,zjK,hl,ht,hne,ix2,zbu h.1.2.1 h.1.2.2,zbu h.2.1.2.1 h.2.1.2.2]
theorem zig {call:Cl}{p0:Option PV}{st:Store}:∀(rs:List Rw) (u1 u2:Option PV),(∀r∈rs,okR r)->∃v1 v2,yaB call (.n 1) yaV (rs.map yr) [p0,u1,u2] st=.nx [p0,v1,v2] st
 | [],u1,u2,_=>⟨u1,u2,by rw[List.map_nil,zt]⟩
 |r::rs,u1,u2,h=>by
  obtain⟨u',e1⟩:=znW (call:=call) (p0:=p0) (u:=u2) (st:=st) r (h r List.mem_cons_self)
  obtain⟨v1,v2,e2⟩:=zig (call:=call) (p0:=p0) (st:=st) rs (some (yr r)) u' λx hx=>h x (List.mem_cons_of_mem _ hx)
  refine⟨v1,v2,?_⟩
  rw[List.map_cons,zm (ρ1:=[p0,some (yr r),u2]) rfl,e1]
  exact e2
theorem zjl (r:Rw):noLoc (yr r)=true:=by cases r <;> rfl
theorem zaU:∀rs:List Rw,noLocs (rs.map yr)=true
 | []=>rfl
 |r::rs=>by simp[noLocs,zjl,zaU rs]
theorem zgf (k:Nat){rs:List Rw}(h:∀r∈rs,okR r)(st:Store):yc T (k+1) z6 [.lst (rs.map yr)] st=.ok (.bl true) st:=by
 obtain⟨v1,v2,e⟩:=zig (call:=yc T k) (p0:=some (.lst (rs.map yr))) (st:=[]) rs none none h
 have hT:T z6=some ⟨1,3,true,yg.body⟩:=rfl
 have hb:yg.body=.cons (.for (.n 1) (.seq (.var 0)) yaV) (.cons (.ret (.cst (.bl true))) .nil):=rfl
 have hnl:noLocs [.lst (rs.map yr)]=true:=by simp[noLocs,noLoc,zaU]
 rw[yc,hT,hb]
 simp only[List.length_cons,List.length_nil,Nat.zero_add,Nat.reduceAdd,if_true,hnl,List.map_cons,List.map_nil,Nat.reduceSub,List.replicate,List.cons_append,List.nil_append,xs_cons,xs_nil,x_for,x_ret,evi,IC.ve1,IC.ve2,List.getElem?_cons_zero,bd_ok,fl_ok,e,th_nx,th_rt,noLoc]
theorem chA:Str.ofString "a"=chS 97:=by ac_rfl
theorem chB:Str.ofString "b"=chS 98:=by ac_rfl
theorem chC:Str.ofString "c"=chS 99:=by ac_rfl
theorem chM:Str.ofString "m"=chS 109:=by ac_rfl
theorem zgP {st:Store}{n L:Nat}{M:Mem}{call:Cl}(h:Dc st n M L)(hL:L<999999){ρ:IC.Env}{o i e:Ce}{c:Nat}{j v:Int}(he:ev call ρ st e=.ok (.int v) st)(ho:ev call ρ st o=.ok (.loc n) st)(hi:ev call ρ st i=.ok (yQ c j) st) :
  ∃kvs,ex call ρ st (.dput o i e)=.nx ρ (st.set n (.dct true kvs))/\Dc (st.set n (.dct true kvs)) n (upd M c j v) (L+1):=by
 obtain⟨kvs,h1,h2⟩:=zw h hL c j v
 exact⟨kvs,by simp only[zE,he,ho,hi,fl_ok,h1,zk],h2⟩
theorem zb2 {call:Cl}{n:Nat}{s:Str}{c:Nat}(hs:s=chS c){p0 p1 p2 p3:Option PV}:∀(vs:List Int) (i:Nat) (M:Mem) (st:Store) (L:Nat) (u v:Option PV),Dc st n M L->L+vs.length<999999 ->
  ∃st' u' v',yaB call (.t [5,6]) (.cons (.dput (.var 4) (.tup (.cons (.cst (.str s)) (.cons (.var 5) .nil))) (.var 6)) .nil) (yU i (vs.map .int)) [p0,p1,p2,p3,some (.loc n),u,v] st=.nx [p0,p1,p2,p3,some (.loc n),u',v'] st'/\(∃o,st'=st.set n o)/\Dc st' n (yar c i vs M) (L+vs.length)
 | [],i,M,st,L,u,v,h,_=>⟨st,u,v,by rw[List.map_nil,yU,zt],zcM h,h⟩
 |x::vs,i,M,st,L,u,v,h,hl=>by
  rw[List.length_cons]at hl
  obtain⟨kvs,e1,h1⟩:=zgP (call:=call) (ρ:=[p0,p1,p2,p3,some (.loc n),some (.int i),some (.int x)]) (o:=.var 4) (i:=.tup (.cons (.cst (.str s)) (.cons (.var 5) .nil))) (e:=.var 6) (c:=c) (j:=i) (v:=x) h (by omega) (by simp only[IC.ve2,List.getElem?_cons_zero,List.getElem?_cons_succ]) (by simp only[IC.ve2,List.getElem?_cons_zero,List.getElem?_cons_succ]) (by
   subst hs
   simp only[IC.ve2,IC.ve1,IC.ve11,evs,List.getElem?_cons_zero,List.getElem?_cons_succ,bd_ok,List.length_cons,List.length_nil]
   rw[if_pos (by decide)]
   rfl)
  obtain⟨s2,u2,v2,e2,⟨o2,e3⟩,h2⟩:=zb2 (call:=call) hs (p0:=p0) (p1:=p1) (p2:=p2) (p3:=p3) vs (i+1) _ _ (L+1) (some (.int i)) (some (.int x)) h1 (by omega)
  refine⟨s2,u2,v2,?_,⟨o2,by rw[e3,List.set_set]⟩,by rw[List.length_cons,show L+(vs.length+1)=L+1+vs.length by omega];exact h2⟩
  rw[List.map_cons,yU,zm (ρ1:=[p0,p1,p2,p3,some (.loc n),some (.int i),some (.int x)]) rfl,xs_cons,e1,th_nx,xs_nil]
  exact e2
theorem begun (k:Nat)(w n:Nat)(hw:w<=16)(hn:n<1000)(x y:Int)(st:Store):∃o,yc T (k+3) zfO [.int w,.int n,.int x,.int y] st=.ok (.loc st.length) (st++[o])/\Dc (st++[o]) st.length (yaQ (2^w) n x y) (2*n):=by
 have h0:Dc (st++[.dct true []]) st.length M0 0:=⟨[],by simp,by simp[ycd],λc i=>rfl,by simp⟩
 have w1:=words k x w n hw hn
 have w2:=words k y w n hw hn
 obtain⟨s1,u1,v1,e1,⟨o1,f1⟩,h1⟩:=zb2 (call:=yc T (k+2)) chA (p0:=some (.int w)) (p1:=some (.int n)) (p2:=some (.int x)) (p3:=some (.int y)) (yK (2^w) n x) 0 M0 _ 0 none none h0 (by rw[zA];omega)
 obtain⟨s2,u2,v2,e2,⟨o2,f2⟩,h2⟩:=zb2 (call:=yc T (k+2)) chB (p0:=some (.int w)) (p1:=some (.int n)) (p2:=some (.int x)) (p3:=some (.int y)) (yK (2^w) n y) 0 _ _ _ u1 v1 h1 (by rw[zA,zA];omega)
 have f3:s2=st++[o2]:=by rw[f2,f1,List.set_set];simp
 rw[zA,zA,show 0+n+n=2*n by omega]at h2
 refine⟨o2,?_,by rw[<- f3];exact h2⟩
 have hT:T zfO=some zbD:=rfl
 rw[yc,hT,<- f3]
 simp only[zbD,List.length_cons,List.length_nil,Nat.zero_add,Nat.reduceAdd,if_true,Bool.false_eq_true,if_false,List.map_cons,List.map_nil,Nat.reduceSub,List.replicate,List.cons_append,List.nil_append,xs_cons,xs_nil,x_asg,x_for,x_ret,IC.ve18,IC.ve2,IC.ve15,evs,evi,List.getElem?_cons_zero,List.getElem?_cons_succ,bd_ok,fl_ok,bT_n,nxO_some,th_nx,th_rt,List.set_cons_zero,List.set_cons_succ,w1,w2,e1,e2]
theorem zkl {call:Cl}{st:Store}{n L:Nat}{M:Mem}(h:Dc st n M L){ρ:IC.Env}{o i d:Ce}{c:Nat}{j:Int}(ho:ev call ρ st o=.ok (.loc n) st)(hi:ev call ρ st i=.ok (yQ c j) st)(hd:ev call ρ st d=.ok (.int 0) st):ev call ρ st (.mth .get o (.cons i (.cons d .nil)))=.ok (.int (M c j)) st:=by
 simp only[IC.ve20,ho,hi,hd,evs,bd_ok,mok h,ono,mget,zl h]
theorem ybW {f:Nat}{a:List PV}{s s':Store}{v:PV}(h:yc T 8 f a s=.ok v s')(j:Nat):yc T (8+j) f a s=.ok v s':=zdg h j
theorem w_lt {w:Nat}(hw:w<=16):(2:Int)^w<18446744073709551616:=by
 have h:(2:Nat)^w<=2^16:=Nat.pow_le_pow_right (by omega) hw
 have h2:((2^w:Nat):Int)=2^w:=by simp
 omega
theorem ybJ {f k:Nat}{a:List PV}{v:PV}{fn:IC.Fn}(hT:T f=some fn)(hp:fn.pure=true)(h:yc T k f a []=.ok v [])(st:Store):yc T k f a st=.ok v st:=by
 cases k with
 |zero=>cases h
 |succ k =>
  rw[yc,hT]at h ⊢
  simp only[hp,if_true]at h ⊢
  by_cases h1:a.length=fn.np
  ·rw[if_pos h1]at h ⊢
   by_cases h2:noLocs a=true
   ·rw[if_pos h2]at h ⊢
    generalize exs (yc T k) (a.map some++List.replicate (fn.ns - fn.np) none) [] fn.body=r at h
    cases r with
    |rt v' s' =>
     simp only at h ⊢
     by_cases h3:noLoc v'=true
     ·rw[if_pos h3]at h ⊢;cases h;rfl
     ·rw[if_neg h3]at h;cases h
    |nx _ _=>cases h;rfl
    |exc _ _ _=>cases h
    |_=>cases h
   ·rw[if_neg h2]at h;cases h
  ·rw[if_neg h1]at h;cases h
theorem yfm (j:Nat){v:PV}{rs:List Rw}(w n:Nat)(hw1:1<=w)(hw:w<=16)(hn:n<1000)(hl:rs.length<5000)(hd:∀r∈rs,okD r)(x y:Int)(st:Store)
  (h1:yc T 8 zq [v] []=.ok (.bl true) []) (h2:yc T 8 zaa [v,.int w,.int n,.int 4000] []=.ok (.lst (rs.map yr)) []) (h3:yc T 8 z6 [.lst (rs.map yr)] []=.ok (.bl true) []) :
  ∃o,yc T (8+j+1) zfS [v,.int w,.int n,.int x,.int y] st=.ok (.loc st.length) (st++[o])/\∃L,Dc (st++[o]) st.length (yP (2^w) rs (yaQ (2^w) n x y) 0).1 L:=by
 have g1:=ybJ rfl rfl (ybW h1 j) st
 have g2:=ybJ rfl rfl (ybW h2 j) st
 have g3:=ybJ rfl rfl (ybW h3 j) st
 obtain⟨o,b1,b2⟩:=begun (5+j) w n hw hn x y st
 rw[show 5+j+3=8+j by omega]at b1
 have ht:=zcK (7+j) w (by omega) (st++[o])
 rw[show 7+j+1=8+j by omega]at ht
 obtain⟨s2,u2,e1,⟨o2,e2⟩,e3⟩:=zfH (6+j) hw1 (w_lt hw) (p0:=some v) (p1:=some (.int w)) (p2:=some (.int n)) (p3:=some (.int x)) (p4:=some (.int y)) (p5:=some (.lst (rs.map yr))) rs _ 0 _ none _ b2 (by omega) (zfC hw1 n x y) hd
 rw[show 6+j+2=8+j by omega]at e1
 have e4:s2=st++[o2]:=by rw[e2];simp
 rw[e4]at e1 e3
 refine⟨o2,?_,_,e3⟩
 have hT:T zfS=some ⟨5,10,false,yaW.body⟩:=rfl
 have hb:yaW.body=(.cons (.ite (.not (.call 60 (.cons (.var 0) .nil))) (.cons .nope .nil) .nil) (.cons (.asg (.n 5) (.call 66 (.cons (.var 0) (.cons (.var 1) (.cons (.var 2) (.cons (.cst (.int 4000)) .nil)))))) (.cons (.ite (.or (.cmp .is (.var 5) (.cst .non)) (.not (.call 67 (.cons (.var 5) .nil)))) (.cons .nope .nil) .nil) (.cons (.asg (.n 6) (.call 68 (.cons (.var 1) (.cons (.var 2) (.cons (.var 3) (.cons (.var 4) .nil)))))) (.cons (.asg (.n 7) (.call 50 (.cons (.var 1) .nil))) (.cons (.asg (.n 8) (.cst (.int 0))) (.cons (.for (.n 9) (.seq (.var 5)) ydn) (.cons (.ret (.var 6)) .nil)))))))):=rfl
 have ci:ye .is (.lst (rs.map yr)) .non=some (.bl false):=rfl
 rw[yc,hT,hb]
 simp only[List.length_cons,List.length_nil,Nat.zero_add,Nat.reduceAdd,if_true,Bool.false_eq_true,if_false,List.map_cons,List.map_nil,Nat.reduceSub,List.replicate,List.cons_append,List.nil_append,xs_cons,xs_nil,x_asg,x_ite,x_for,x_ret,IC.ve18,IC.ve1,IC.ve2,IC.ve5,IC.ve7,IC.ve8,evs,evi,List.getElem?_cons_zero,List.getElem?_cons_succ,bd_ok,fl_ok,g1,g2,g3,ci,b1,ht,toR_some,bT_n,nxO_some,th_nx,th_rt,List.set_cons_zero,List.set_cons_succ,t_bl,on_t,ono,Bool.not_true,cond_false,onBl,e1]
theorem marks (k:Nat){st:Store}{n L:Nat}{M:Mem}(h:Dc st n M L):yc T (k+1) zcO [.loc n] st=.ok (.tup [.int (M 109 0),.int (M 109 1),.int (M 109 2),.int (M 109 3)]) st:=by
 have hT:T zcO=some zbz:=rfl
 have hc:=zdX (call:=yc T k) (st:=st) (ρ0:=[none,some (.loc n)]) (t:=.n 0) (c:=.cst (.bl true)) (e:=.mth .get (.var 1) (.cons (.tup (.cons (.cst (.str "m")) (.cons (.var 0) .nil))) (.cons (.cst (.int 0)) .nil))) (f:=λx=>match x with | .int i=>.int (M 109 i)|_=>.non) [.int 0,.int 1,.int 2,.int 3] (by
  have:∀i:Int,yb3 (yc T k) [none,some (.loc n)] (.n 0) (.cst (.bl true)) (.mth .get (.var 1) (.cons (.tup (.cons (.cst (.str "m")) (.cons (.var 0) .nil))) (.cons (.cst (.int 0)) .nil))) (.int i) st=.ok (some (.int (M 109 i))) st:=by
   intro i
   have hg:=zkl (call:=yc T k) h (ρ:=[some (.int i),some (.loc n)]) (o:=.var 1) (i:=.tup (.cons (.cst (.str "m")) (.cons (.var 0) .nil))) (d:=.cst (.int 0)) (c:=109) (j:=i) (by simp only[IC.ve2,List.getElem?_cons_zero,List.getElem?_cons_succ]) (by
    rw[chM]
    simp only[IC.ve2,IC.ve1,IC.ve11,evs,List.getElem?_cons_zero,List.getElem?_cons_succ,bd_ok,List.length_cons,List.length_nil]
    rw[if_pos (by decide)]
    rfl) (by simp only[IC.ve1])
   simp only[yb3,bT_n,List.set_cons_zero,hg,IC.ve1,bd_ok,t_bl,ono,cond_true]
  intro x hx
  simp only[List.mem_cons,List.not_mem_nil,or_false]at hx
  rcases hx with rfl|rfl|rfl|rfl <;> exact this _)
 rw[yc,hT]
 have hr:ya8 (.int 4)=some [.int 0,.int 1,.int 2,.int 3]:=rfl
 simp only[zbz,List.length_cons,List.length_nil,Nat.zero_add,Nat.reduceAdd,if_true,Bool.false_eq_true,if_false,List.map_cons,List.map_nil,Nat.reduceSub,List.replicate,List.cons_append,List.append_nil,List.nil_append,xs_cons,xs_nil,x_ret,v_comp,IC.ve1,IC.ve19,evs,evi,hr,toL,bd_ok,fl_ok,Option.bind_none,Option.bind_some,List.getElem?_cons_zero,Option.join_some,Option.bind_fun_some]
 rw[hc]
 simp[ybO,bd_ok,yan,ycK,yV,toR,R.fl,R.bind,yah,sizeMax]
theorem zeo {call:Cl}{st:Store}{n L:Nat}{M:Mem}(h:Dc st n M L){c:Nat}{W:Int}(hW:0<W)(hW2:W<18446744073709551616){p2 p3:Option PV}:∀(z:Nat) (acc:Int) (u:Option PV),
  ∃u',yaB call (.n 6) (.cons (.asg (.n 5) (.bin .add (.bin .mul (.var 5) (.var 4)) (.mth .get (.var 0) (.cons (.tup (.cons (.var 1) (.cons (.var 6) .nil))) (.cons (.cst (.int 0)) .nil))))) .nil) (yo z ((z:Int) - 1) (-1)) [some (.loc n),some (.str (chS c)),p2,p3,some (.int W),some (.int acc),u] st=.nx [some (.loc n),some (.str (chS c)),p2,p3,some (.int W),some (.int (acc*W^z+yu W M c z)),u'] st
 |0,acc,u=>⟨u,by rw[yo,zt];simp[yu]⟩
 |z+1,acc,u=>by
  obtain⟨u',e⟩:=zeo (call:=call) h (c:=c) hW hW2 (p2:=p2) (p3:=p3) z (acc*W+M c z) (some (.int z))
  refine⟨u',?_⟩
  have hz:((z+1:Nat):Int) - 1=z:=by omega
  rw[yo,hz,zm (ρ1:=[some (.loc n),some (.str (chS c)),p2,p3,some (.int W),some (.int acc),some (.int z)]) rfl]
  have hg:=zkl (call:=call) h (ρ:=[some (.loc n),some (.str (chS c)),p2,p3,some (.int W),some (.int acc),some (.int z)]) (o:=.var 0) (i:=.tup (.cons (.var 1) (.cons (.var 6) .nil))) (d:=.cst (.int 0)) (c:=c) (j:=z) (by simp only[IC.ve2,List.getElem?_cons_zero,List.getElem?_cons_succ]) (by
   simp only[IC.ve2,IC.ve1,IC.ve11,evs,List.getElem?_cons_zero,List.getElem?_cons_succ,bd_ok,List.length_cons,List.length_nil]
   rw[if_pos (by decide)]
   rfl) (by simp only[IC.ve1])
  have hm:(W).natAbs<18446744073709551616:=by omega
  simp only[xs_cons,xs_nil,x_asg,IC.ve3,IC.ve2,hg,List.getElem?_cons_zero,List.getElem?_cons_succ,bd_ok,fl_ok,zu hm,b_add,toR_some,bT_n,nxO_some,th_nx,List.set_cons_zero,List.set_cons_succ,yak]
  rw[show (z:Int)+-1=(z:Int) - 1 by omega,e]
  have hf:(acc*W+M c z)*W^z+yu W M c z=acc*W^(z+1)+yu W M c (z+1):=by
   rw[yu,Int.pow_succ,Int.add_mul,Int.mul_assoc,Int.mul_comm W]
   omega
  rw[hf]
theorem ygc {call:Cl}{ρ:IC.Env}{st:Store}:ev call ρ st (.neg (.cst (.int 1)))=.ok (.int (-1)) st:=by
 ac_rfl
theorem read (k:Nat){st:Store}{n L:Nat}{M:Mem}(h:Dc st n M L)(s:Str)(c:Nat)(hs:s=chS c)(w z:Nat)(hw:w<=16)(hz:z<1000):yc T (k+2) zez [.loc n,.str s,.int z,.int w] st=.ok (.int (yu (2^w) M c z)) st:=by
 subst hs
 have hW:(0:Int)<2^w:=Int.pow_pos (by omega)
 have hW2:(2:Int)^w<18446744073709551616:=by
  have h:(2:Nat)^w<=2^16:=Nat.pow_le_pow_right (by omega) hw
  have h2:((2^w:Nat):Int)=2^w:=by simp
  omega
 obtain⟨u',e⟩:=zeo (call:=yc T (k+1)) h (c:=c) hW hW2 (p2:=some (.int z)) (p3:=some (.int w)) z 0 none
 have ht:=zcK k w (by omega) st
 have hT:T zez=some zcV:=rfl
 have hr:ycT (.int ((z:Int) - 1)) (.int (-1))=some (yo z ((z:Int) - 1) (-1)):=by
  simp only[ycT]
  rw[if_pos ⟨by omega,by decide⟩,show ((z:Int) - 1 - -1).toNat=z by omega]
 rw[yc,hT]
 simp only[zcV,List.length_cons,List.length_nil,Nat.zero_add,Nat.reduceAdd,if_true,Bool.false_eq_true,if_false,List.map_cons,List.map_nil,Nat.reduceSub,List.replicate,List.cons_append,List.nil_append,xs_cons,xs_nil,x_asg,x_for,x_ret,IC.ve18,IC.ve1,IC.ve2,IC.ve3,ygc,evs,evi,List.getElem?_cons_zero,List.getElem?_cons_succ,bd_ok,fl_ok,ht,b_sub,toR_some,bT_n,nxO_some,th_nx,th_rt,List.set_cons_zero,List.set_cons_succ,hr,toL,e]
 simp
theorem ends (k:Nat)(v:Int)(K:Nat)(hK:K<1000)(st:Store):yc T (k+2) zeK [.int v,.int K] st=.ok (.tup [.int (bi (v == 0)),.int (bi (decide (2^K<=2*v)))]) st:=by
 have ht:=zcK k K hK []
 have hT:T zeK=some zc1:=rfl
 rw[yc,hT]
 simp only[zc1,List.length_cons,List.length_nil,Nat.zero_add,Nat.reduceAdd,if_true,noLocs,noLoc,Bool.and_self,List.map_cons,List.map_nil,Nat.reduceSub,List.replicate,List.cons_append,List.append_nil,List.nil_append,xs_cons,xs_nil,x_asg,x_ret,IC.ve18,IC.ve1,IC.ve2,IC.ve3,IC.ve8,IC.ve11,IC.ve19,evs,List.getElem?_cons_zero,List.getElem?_cons_succ,bd_ok,fl_ok,ht,b_sub,b_mul2,toR_some,c_eq,c_ge,zp,zC]
 simp[R.fl,yah,noLoc,noLocs,sizeMax]
def Drw (ns:List Int)(n:Nat)(st:Store):Prop:=∃a p f,0<=a/\st[n]?=some (.lst [.lst (ns.map .int),.int a,.int p,.bl f])
def Onl (ns:List Int)(n:Nat)(st st':Store):Prop:=∃a p f,0<=a/\st'=st.set n (.lst [.lst (ns.map .int),.int a,.int p,.bl f])
theorem Onl.drw {ns:List Int}{n:Nat}{st st':Store}(h:Drw ns n st)(o:Onl ns n st st'):Drw ns n st':=by
 obtain⟨a,p,f,ha,h⟩:=h
 obtain⟨b,q,g,hb,rfl⟩:=o
 exact⟨b,q,g,hb,rdS h⟩
theorem Onl.trans {ns:List Int}{n:Nat}{st st1 st2:Store}(o:Onl ns n st st1)(o2:Onl ns n st1 st2):Onl ns n st st2:=by
 obtain⟨b,q,g,hb,rfl⟩:=o
 obtain⟨c,r,j,hc,rfl⟩:=o2
 exact⟨c,r,j,hc,by rw[List.set_set]⟩
theorem yaA (k:Nat){n:Nat}{ns:List Int}(hns:ns.length<=1000){m:Int}(hm:0<m)(hm2:m<10000000000000000000000000000000000000000000000000000000000000000000000){st:Store}(h:Drw ns n st) :
  ∃d st',0<=d/\d<m/\Onl ns n st st'/\yc T (k+3) zV [.loc n,.int m] st=.ok (.int d) st':=by
 obtain⟨a,p,f,ha,h⟩:=h
 obtain⟨d,a',p',f',h1,h2,h3,h4⟩:=take k n ns hns a p m ha hm hm2 f st h
 exact⟨d,_,h1,h2,⟨_,_,_,h3,rfl⟩,h4⟩
theorem fresh (k:Nat)(ns:List Int)(h:ns.length<=63)(st:Store):∃v,yc T (k+1) zdf [.scr (ns.map .int)] st=.ok (.loc st.length) (st++[v])/\v=.lst [.lst (ns.map .int),.int 0,.int 0,.bl false]:=by
 have hT:T zdf=some zbA:=rfl
 refine⟨_,?_,rfl⟩
 rw[yc,hT]
 simp only[zbA,List.length_cons,List.length_nil,if_true,List.map_cons,List.map_nil,Nat.reduceSub,List.replicate,List.cons_append,List.nil_append,xs_cons,xs_nil,x_ret,yah,ev,evs,R.fl,R.bind,List.getElem?_cons_zero,toR]
 have hc:yb6 (.scr (ns.map PV.int)) none (.int 63)=some (.lst (ns.map .int)):=by
  have hk:yaF ns.length 63=ns.length:=by
   show min 63 ns.length=ns.length
   omega
  simp[yb6,yaE,yb1,cut,ych,ycB,hk]
  try rw[<- List.length_map (f:=PV.int),List.take_length]
 simp[yaE,onP,hc,sizeMax]
theorem dbl {call:Cl}{i j:Nat}(hij:i≠j):∀(N:Nat) (a:Int) (ρ:IC.Env) (v:Int) (st:Store),ρ[i]?=some (some (.int v)) ->
  ∃u,yaB call (.n j) (.cons (.asg (.n i) (.bin .mul (.cst (.int 2)) (.var i))) .nil) (yo N a 1) ρ st=.nx ((ρ.set i (some (.int (2^N*v)))).set j u) st/\(N=0->ρ[j]?=some u \/ ρ.length<=j)
 |0,a,ρ,v,st,h=>by
  have hi:ρ.set i (some (.int v))=ρ:=by
   refine List.ext_getElem? λz=>?_
   rw[List.getElem?_set]
   split
   ·rename_i e
    subst e
    split
    ·exact h.symm
    ·rw[List.getElem?_eq_none (by omega)]at h
     cases h
   ·rfl
  rcases Nat.lt_or_ge j ρ.length with hj|hj
  ·refine⟨ρ[j],?_,λ_=>.inl (List.getElem?_eq_getElem hj)⟩
   rw[yo,zt,Int.pow_zero,Int.one_mul,hi,List.set_getElem_self]
  ·refine⟨none,?_,λ_=>.inr hj⟩
   rw[yo,zt,Int.pow_zero,Int.one_mul,hi,List.set_eq_of_length_le hj]
 |N+1,a,ρ,v,st,h=>by
  have h1:(ρ.set j (some (.int a)))[i]?=some (some (.int v)):=by
   rw[List.getElem?_set_ne (Ne.symm hij)];exact h
  have hil:i<ρ.length:=by
   rcases Nat.lt_or_ge i ρ.length with z|z
   ·exact z
   ·rw[List.getElem?_eq_none z]at h;cases h
  have h2:exs call (ρ.set j (some (.int a))) st (.cons (.asg (.n i) (.bin .mul (.cst (.int 2)) (.var i))) .nil)=.nx ((ρ.set j (some (.int a))).set i (some (.int (2*v)))) st:=by
   simp only[xs_nil,xs_cons,x_asg,yah,nxO,IC.ve1,IC.ve2,IC.ve3,R.bind,R.fl,h1,yJ,yC,binI,yau,toR]
   simp
  obtain⟨u,h3,_⟩:=dbl (call:=call) hij N (a+1) ((ρ.set j (some (.int a))).set i (some (.int (2*v)))) (2*v) st (by rw[List.getElem?_set_self (by rw[List.length_set];exact hil)])
  refine⟨u,?_,λz=>by cases z⟩
  rw[yo,zm (ρ1:=ρ.set j (some (.int a))) rfl,h2]
  show yaB call _ _ _ _ _=_
  rw[h3,List.set_set,List.set_comm _ _ (Ne.symm hij),List.set_set,Int.pow_succ,Int.mul_assoc]
theorem zcL (K:Nat):(0:Int)<2^K:=Int.pow_pos (by omega)
noncomputable def yx:Css:=match yM.body with
 | .cons _ (.cons _ (.cons _ r))=>r
 |_=>.nil
noncomputable def wT2:Css:=match yx with
 | .cons _ (.cons _ (r))=>r
 |_=>.nil
theorem wE2:yx=(match yx with
 | .cons q0 (.cons q1 (_))=>.cons q0 (.cons q1 (wT2))
 |_=>.nil):=rfl
noncomputable def wT4:Css:=match yx with
 | .cons _ (.cons _ (.cons _ (.cons _ (r))))=>r
 |_=>.nil
theorem wE4:yx=(match yx with
 | .cons q0 (.cons q1 (.cons q2 (.cons q3 (_))))=>.cons q0 (.cons q1 (.cons q2 (.cons q3 (wT4))))
 |_=>.nil):=rfl
noncomputable def wT5:Css:=match yx with
 | .cons _ (.cons _ (.cons _ (.cons _ (.cons _ (r)))))=>r
 |_=>.nil
theorem wE5:yx=(match yx with
 | .cons q0 (.cons q1 (.cons q2 (.cons q3 (.cons q4 (_)))))=>.cons q0 (.cons q1 (.cons q2 (.cons q3 (.cons q4 (wT5)))))
 |_=>.nil):=rfl
noncomputable def wT6:Css:=match yx with
 | .cons _ (.cons _ (.cons _ (.cons _ (.cons _ (.cons _ (r))))))=>r
 |_=>.nil
theorem wE6:yx=(match yx with
 | .cons q0 (.cons q1 (.cons q2 (.cons q3 (.cons q4 (.cons q5 (_))))))=>.cons q0 (.cons q1 (.cons q2 (.cons q3 (.cons q4 (.cons q5 (wT6))))))
 |_=>.nil):=rfl
theorem zgh {c:Cl}{n:Nat}{w z kd m:Int}{u5 u6 u7 u8 u9 u10 u11 u12:Option PV}{st:Store}(h0:0<=kd)(h6:kd<6)(hm:16<=m) :
  ∃x,0<=x/\x<m/\exs c [some (.loc n),some (.int w),some (.int z),some (.int kd),some (.int m),u5,u6,u7,u8,u9,u10,u11,u12] st yx=.rt (.int x) st:=by
 obtain⟨x,x0,x1,hv⟩:∃x:Int,0<=x/\x<m/\∀st,idxV st (.tup [.int 0,.int 1,.int (m - 1),.int (m / 2),.int (m / 2 - 1),.int (m - 2)]) (.int kd)=some (.int x):=by
  rcases (by omega:kd=0 \/ kd=1 \/ kd=2 \/ kd=3 \/ kd=4 \/ kd=5)with rfl|rfl|rfl|rfl|rfl|rfl
  ·exact⟨0,by omega,by omega,λ_=>rfl⟩
  ·exact⟨1,by omega,by omega,λ_=>rfl⟩
  ·exact⟨m - 1,by omega,by omega,λ_=>rfl⟩
  ·exact⟨m / 2,by omega,by omega,λ_=>rfl⟩
  ·exact⟨m / 2 - 1,by omega,by omega,λ_=>rfl⟩
  ·exact⟨m - 2,by omega,by omega,λ_=>rfl⟩
 refine⟨x,x0,x1,?_⟩
 rw[wE2]
 simp only[yx,yM,List.length_cons,List.length_nil,Nat.zero_add,Nat.reduceAdd,if_true,xs_cons,xs_nil,x_asg,x_ite,x_ret,IC.ve1,IC.ve2,IC.ve3,IC.ve8,IC.ve11,IC.ve16,IC.ve18,evs,List.getElem?_cons_zero,List.getElem?_cons_succ,bd_ok,fl_ok,toR_some,bT_n,nxO_some,th_nx,th_rt,List.set_cons_zero,List.set_cons_succ,t_bl,on_t,sizeMax,Nat.reduceLeDiff,b_sub,b_div2,c_lt,c_eq,c_gt,cond_true,cond_false,hv,h6,decide_true]
theorem zhz (k:Nat){n:Nat}{ns:List Int}(hns:ns.length<=1000){w z kd m:Int}{u5 u6 u7 u8 u9 u10 u11 u12:Option PV}{st:Store}(h:Drw ns n st)(h9:9<kd)(hm:16<=m)(hm2:m<=18446744073709551616) :
  ∃x st',0<=x/\x<m/\Onl ns n st st'/\exs (yc T (k+3)) [some (.loc n),some (.int w),some (.int z),some (.int kd),some (.int m),u5,u6,u7,u8,u9,u10,u11,u12] st yx=.rt (.int x) st':=by
 obtain⟨d,s1,d1,d2,o1,e1⟩:=yaA k hns (m:=m) (by omega) (by omega) h
 refine⟨d,s1,d1,d2,o1,?_⟩
 have k1:decide (kd<6)=false:=decide_eq_false (by omega)
 have k2:(kd == 6)=false:=beq_eq_false_iff_ne.2 (by omega)
 have k3:(kd == 7)=false:=beq_eq_false_iff_ne.2 (by omega)
 rw[wE6]
 simp only[yx,yM,List.length_cons,List.length_nil,Nat.zero_add,Nat.reduceAdd,if_true,xs_cons,xs_nil,x_asg,x_ite,x_ret,IC.ve1,IC.ve2,IC.ve3,IC.ve8,IC.ve11,IC.ve16,IC.ve18,evs,List.getElem?_cons_zero,List.getElem?_cons_succ,bd_ok,fl_ok,toR_some,bT_n,nxO_some,th_nx,th_rt,List.set_cons_zero,List.set_cons_succ,t_bl,on_t,sizeMax,Nat.reduceLeDiff,b_sub,b_div2,c_lt,c_eq,c_gt,cond_true,cond_false,e1,h9,decide_true,k1,k2,k3]
theorem zga (k:Nat){n:Nat}{ns:List Int}(hns:ns.length<=1000){w z kd m:Int}{u5 u6 u7 u8 u9 u10 u11 u12:Option PV}{st:Store}(h:Drw ns n st)(hk:kd=6 \/ kd=7)(hw:4<=w)(hw2:w<=16)(hz:1<=z)(hz2:z<=4)(hm:m=2^(w*z).toNat) :
  ∃x st',0<=x/\x<m/\Onl ns n st st'/\exs (yc T (k+3)) [some (.loc n),some (.int w),some (.int z),some (.int kd),some (.int m),u5,u6,u7,u8,u9,u10,u11,u12] st yx=.rt (.int x) st':=by
 have hwz:4<=w*z:=by
  have:=Int.mul_le_mul hw hz (by omega) (by omega);omega
 have hwz2:w*z<=64:=by
  have:=Int.mul_le_mul hw2 hz2 (by omega) (by omega);omega
 have hm1:0<m:=hm ▸ zcL _
 have hm2:m<=18446744073709551616:=by
  have h64:(2:Nat)^(w*z).toNat<=2^64:=Nat.pow_le_pow_right (by omega) (by omega)
  have h65:((2^(w*z).toNat:Nat):Int)=2^(w*z).toNat:=by simp
  rw[hm,<- h65]
  omega
 obtain⟨d,s1,d1,d2,o1,e1⟩:=yaA k hns (m:=m) (by omega) (by omega) h
 obtain⟨e,s2,d3,d4,o2,e2⟩:=yaA k hns (m:=w*z) (by omega) (by omega) (o1.drw h)
 have hj:(2:Int)^e.toNat<m:=by
  rw[hm];exact Int.pow_lt_pow_of_lt (by omega) (by omega)
 have hj1:=zcL e.toNat
 have hj2:(2:Int)^e.toNat<10000000000000000000000000000000000000000000000000000000000000000000000:=by omega
 have hj3:((2:Int)^e.toNat).natAbs<18446744073709551616:=by omega
 have hj4:(2:Nat)^e.toNat<18446744073709551616:=by
  have h65:((2^e.toNat:Nat):Int)=2^e.toNat:=by simp
  omega
 have hwa:w.natAbs<18446744073709551616:=by omega
 have hea:e.natAbs<1000000000:=by omega
 have hr:ya8 (.int e)=some (yo e.toNat 0 1):=by simp only[ya8,hea,if_true]
 have q1:=zW (i:=d) hj1 (by omega)
 have q2:yC .mul (.int (d / 2^e.toNat)) (.int (2^e.toNat))=some (.int (d / 2^e.toNat*2^e.toNat)):=zu hj3
 have q3:yC .mul (.int w) (.int z)=some (.int (w*z)):=zU hwa
 clear hj2 hj4 hea hwa hj3 hwz hwz2
 rcases hk with rfl|rfl
 ·obtain⟨u,hd,_⟩:=dbl (call:=yc T (k+3)) (i:=8) (j:=5) (by omega) e.toNat 0 [some (.loc n),some (.int w),some (.int z),some (.int 6),some (.int m),u5,some (.tup [.int 0,.int 1,.int (m - 1),.int (m / 2),.int (m / 2 - 1),.int (m - 2)]),some (.int d),some (.int 1),u9,u10,u11,u12] 1 s2 rfl
  refine⟨d / 2^e.toNat*2^e.toNat,s2,Int.mul_nonneg (Int.ediv_nonneg d1 (by omega)) (by omega),Int.lt_of_le_of_lt (Int.ediv_mul_le d (by omega)) d2,o1.trans o2,?_⟩
  have k1:decide ((6:Int)<6)=false:=rfl
  have k2:((6:Int) == 6)=true:=rfl
  rw[Int.mul_one]at hd
  rw[wE4]
  generalize wT4=F at *
  generalize (2:Int)^e.toNat=P at *
  simp only[IC.PV.tup]at hd
  simp! [yx,yM,e1,k1,k2,q3,e2,hr,hd,q1,q2]
 ·obtain⟨u,hd,_⟩:=dbl (call:=yc T (k+3)) (i:=8) (j:=5) (by omega) e.toNat 0 [some (.loc n),some (.int w),some (.int z),some (.int 7),some (.int m),u5,some (.tup [.int 0,.int 1,.int (m - 1),.int (m / 2),.int (m / 2 - 1),.int (m - 2)]),some (.int d),some (.int 1),u9,u10,u11,u12] 1 s2 rfl
  refine⟨m - 2^e.toNat,s2,by omega,by omega,o1.trans o2,?_⟩
  have k1:decide ((7:Int)<6)=false:=rfl
  have k2:((7:Int) == 6)=false:=rfl
  have k3:((7:Int) == 7)=true:=rfl
  rw[Int.mul_one]at hd
  rw[wE5]
  generalize wT5=F at *
  generalize (2:Int)^e.toNat=P at *
  simp only[IC.PV.tup]at hd
  simp! [yx,yM,e1,k1,k2,k3,q3,e2,hr,hd]
theorem Drw.refl {ns:List Int}{n:Nat}{st:Store}(h:Drw ns n st):Onl ns n st st:=by
 obtain⟨a,p,f,ha,h⟩:=h
 exact⟨a,p,f,ha,zfo h⟩
noncomputable def ybr:Css:=match yx with
 | .cons _ (.cons _ (.cons _ (.cons _ (.cons _ (.cons _ (.cons _ (.cons _ (.cons _ (.cons (.for _ _ b) _)))))))))=>b
 |_=>.nil
theorem zgx (k:Nat){n:Nat}{ns:List Int}(hns:ns.length<=1000){p1 p2 p3 p4 p6 p8 u11 u12:Option PV}{d W acc a:Int}{st:Store}(h:Drw ns n st)(ha:0<=a)(ha2:a<1000)(hW:4<=W)(hW2:W<18446744073709551616) :
  ∃e st' v11 v12,0<=e/\e<W/\Onl ns n st st'/\exs (yc T (k+3)) [some (.loc n),p1,p2,p3,p4,some (.int a),p6,some (.int d),p8,some (.int W),some (.int acc),u11,u12] st ybr=.nx [some (.loc n),p1,p2,p3,p4,some (.int a),p6,some (.int d),p8,some (.int W),some (.int (acc*W+e)),v11,v12] st':=by
 obtain⟨t,s1,d1,d2,o1,e1⟩:=yaA k hns (m:=5) (by omega) (by omega) h
 have hW0:0<W:=by omega
 have hWm:W.natAbs<18446744073709551616:=by omega
 have ha3:0<a+1:=by omega
 have ha4:a+1<18446744073709551616*18446744073709551616:=by omega
 have q0:=Int.emod_nonneg (d / (a+1)) (show W≠0 by omega)
 have q1:=Int.emod_lt_of_pos (d / (a+1)) hW0
 obtain⟨e,x0,x1,hv⟩:∃e:Int,0<=e/\e<W/\∀st,idxV st (.tp false [.int 0,.int 1,.int (W - 1),.int (W / 2),.int (d / (a+1)%W)]) (.int t)=some (.int e):=by
  rcases (by omega:t=0 \/ t=1 \/ t=2 \/ t=3 \/ t=4)with rfl|rfl|rfl|rfl|rfl
  ·exact⟨0,by omega,by omega,λ_=>rfl⟩
  ·exact⟨1,by omega,by omega,λ_=>rfl⟩
  ·exact⟨W - 1,by omega,by omega,λ_=>rfl⟩
  ·exact⟨W / 2,by omega,by omega,λ_=>rfl⟩
  ·exact⟨d / (a+1)%W,q0,q1,λ_=>rfl⟩
 refine⟨e,s1,some (.int (d / (a+1)%W)),some (.tp false [.int 0,.int 1,.int (W - 1),.int (W / 2),.int (d / (a+1)%W)]),x0,x1,o1,?_⟩
 simp only[ybr,yx,yM,xs_cons,xs_nil,x_asg,IC.ve1,IC.ve2,IC.ve3,IC.ve11,IC.ve16,IC.ve18,evs,List.getElem?_cons_zero,List.getElem?_cons_succ,bd_ok,fl_ok,toR_some,bT_n,nxO_some,th_nx,List.set_cons_zero,List.set_cons_succ,b_add,b_sub,zW ha3 ha4,zX hW0,b_div2,zu hWm,e1,PV.tup,hv,List.length_cons,List.length_nil,Nat.zero_add,Nat.reduceAdd,sizeMax,Nat.reduceLeDiff,if_true]
theorem zcE (k:Nat){n:Nat}{ns:List Int}(hns:ns.length<=1000){p1 p2 p3 p4 p6 p8:Option PV}{d W:Int}(hW:4<=W)(hW2:W<18446744073709551616):∀(r i:Nat) (a acc:Int) (u5 u11 u12:Option PV) (st:Store),0<=a->a+r<1000->0<=acc->acc<W^i->Drw ns n st ->
  ∃acc' st' v5 v11 v12,0<=acc'/\acc' < W^(i+r)/\Onl ns n st st'/\yaB (yc T (k+3)) (.n 5) ybr (yo r a 1) [some (.loc n),p1,p2,p3,p4,u5,p6,some (.int d),p8,some (.int W),some (.int acc),u11,u12] st=.nx [some (.loc n),p1,p2,p3,p4,v5,p6,some (.int d),p8,some (.int W),some (.int acc'),v11,v12] st'
 |0,i,a,acc,u5,u11,u12,st,_,_,h0,h1,h=>⟨acc,st,u5,u11,u12,h0,h1,h.refl,by rw[yo,zt]⟩
 |r+1,i,a,acc,u5,u11,u12,st,ha,hr,h0,h1,h=>by
  obtain⟨e,s1,v11,v12,e0,e1,o1,hs⟩:=zgx k hns (p1:=p1) (p2:=p2) (p3:=p3) (p4:=p4) (p6:=p6) (p8:=p8) (u11:=u11) (u12:=u12) (d:=d) (acc:=acc) h ha (by omega) hW hW2
  have hb:acc*W+e<W^(i+1):=by
   have:=Int.mul_le_mul_of_nonneg_right (show acc<=W^i - 1 by omega) (show 0<=W by omega)
   rw[Int.sub_mul,Int.one_mul]at this
   rw[Int.pow_succ]
   omega
  have hb0:0<=acc*W:=Int.mul_nonneg h0 (by omega)
  obtain⟨acc',s2,w5,w11,w12,f0,f1,o2,hf⟩:=zcE k hns (p1:=p1) (p2:=p2) (p3:=p3) (p4:=p4) (p6:=p6) (p8:=p8) (d:=d) hW hW2 r (i+1) (a+1) (acc*W+e) (some (.int a)) v11 v12 s1 (by omega) (by omega) (by omega) hb (o1.drw h)
  refine⟨acc',s2,w5,w11,w12,f0,by rw[show i+(r+1)=i+1+r by omega];exact f1,o1.trans o2,?_⟩
  rw[yo,zm (ρ1:=[some (.loc n),p1,p2,p3,p4,some (.int a),p6,some (.int d),p8,some (.int W),some (.int acc),u11,u12]) rfl,hs]
  exact hf
theorem ze7 (k:Nat){n:Nat}{ns:List Int}(hns:ns.length<=1000){w z:Nat}{kd m:Int}{u5 u6 u7 u8 u9 u10 u11 u12:Option PV}{st:Store}(h:Drw ns n st)(hk:kd=8 \/ kd=9)(hw:4<=w)(hw2:w<=16)(hz:1<=z)(hz2:z<=4)(hm:m=2^(w*z)) :
  ∃x st',0<=x/\x<m/\Onl ns n st st'/\exs (yc T (k+3)) [some (.loc n),some (.int w),some (.int z),some (.int kd),some (.int m),u5,u6,u7,u8,u9,u10,u11,u12] st yx=.rt (.int x) st':=by
 have hwz2:w*z<=64:=Nat.mul_le_mul hw2 hz2
 have hm1:0<m:=hm ▸ zcL _
 have hm2:m<=18446744073709551616:=by
  have h64:(2:Nat)^(w*z)<=2^64:=Nat.pow_le_pow_right (by omega) hwz2
  rw[hm,<- pw]
  omega
 obtain⟨d,s1,d1,d2,o1,e1⟩:=yaA k hns (m:=m) (by omega) (by omega) h
 have hW4:(4:Int)<=2^w:=by
  have h:(2:Nat)^2<=2^w:=Nat.pow_le_pow_right (by omega) (by omega)
  have h2:=pw w
  omega
 have hWl:(2:Int)^w<18446744073709551616:=by
  have h:(2:Nat)^w<=2^16:=Nat.pow_le_pow_right (by omega) hw2
  have h2:=pw w
  omega
 have r1:ya8 (.int (w:Int))=some (yo w 0 1):=zbF w (by omega)
 have r2:ya8 (.int (z:Int))=some (yo z 0 1):=zbF z (by omega)
 have k1:¬kd<6:=by omega
 have k2:(kd == 6)=false:=by simp;omega
 have k3:(kd == 7)=false:=by simp;omega
 have k4:¬9<kd:=by omega
 obtain⟨u,hd,_⟩:=dbl (call:=yc T (k+3)) (i:=9) (j:=5) (by omega) w 0 [some (.loc n),some (.int w),some (.int z),some (.int kd),some (.int m),u5,some (.tup [.int 0,.int 1,.int (m - 1),.int (m / 2),.int (m / 2 - 1),.int (m - 2)]),some (.int d),u8,some (.int 1),u10,u11,u12] 1 s1 rfl
 simp only[List.set_cons_zero,List.set_cons_succ,Int.mul_one]at hd
 obtain⟨acc',s2,w5,w11,w12,f0,f1,o2,hf⟩:=zcE k hns (p1:=some (.int w)) (p2:=some (.int z)) (p3:=some (.int kd)) (p4:=some (.int m)) (p6:=some (.tup [.int 0,.int 1,.int (m - 1),.int (m / 2),.int (m / 2 - 1),.int (m - 2)])) (p8:=u8) (d:=d) (W:=2^w) hW4 hWl z 0 0 0 u u11 u12 s1 (by omega) (by omega) (by omega) (by simp) (o1.drw h)
 rw[Nat.zero_add,<- Int.pow_mul,<- hm]at f1
 refine⟨acc',s2,f0,f1,o1.trans o2,?_⟩
 have hR:yx=.cons (.asg (.n 6) (.tup (.cons (.cst (.int 0)) (.cons (.cst (.int 1)) (.cons (.bin .sub (.var 4) (.cst (.int 1))) (.cons (.bin .fdiv (.var 4) (.cst (.int 2))) (.cons (.bin .sub (.bin .fdiv (.var 4) (.cst (.int 2))) (.cst (.int 1))) (.cons (.bin .sub (.var 4) (.cst (.int 2))) .nil)))))))) (match yx with
  | .cons _ (.cons a (.cons b (.cons c (.cons d (.cons e (.cons f (.cons g (.cons h (.cons (.for t i _) r)))))))))=>.cons a (.cons b (.cons c (.cons d (.cons e (.cons f (.cons g (.cons h (.cons (.for t i ybr) r))))))))
  |_=>.nil):=rfl
 rw[hR]
 simp only[yx,yM,xs_cons,xs_nil,x_asg,x_ite,x_ret,x_for,evi,r1,r2,toL,IC.ve1,IC.ve2,IC.ve3,IC.ve8,IC.ve11,IC.ve16,IC.ve18,evs,bd_ok,fl_ok,toR_some,bT_n,nxO_some,th_nx,th_rt,List.set_cons_zero,List.set_cons_succ,List.getElem?_cons_zero,List.getElem?_cons_succ,b_sub,b_div2,c_lt,c_eq,c_gt,on_t,t_bl,k1,k2,k3,k4,decide_false,cond_false,e1,hd,hf,List.length_cons,List.length_nil,Nat.zero_add,Nat.reduceAdd,sizeMax,Nat.reduceLeDiff,if_true]
theorem worth (k:Nat){n:Nat}{ns:List Int}(hns:ns.length<=1000)(w z:Nat)(hw:4<=w)(hw2:w<=16)(hz:1<=z)(hz2:z<=4){st:Store}(h:Drw ns n st) :
  ∃x st',0<=x/\x<2^(w*z)/\Onl ns n st st'/\yc T (k+4) zc6 [.loc n,.int w,.int z] st=.ok (.int x) st':=by
 obtain⟨kd,s1,d1,d2,o1,e1⟩:=yaA k hns (m:=12) (by omega) (by omega) h
 have h1:=o1.drw h
 have hwz2:w*z<=64:=Nat.mul_le_mul hw2 hz2
 have hwz:4<=w*z:=Nat.mul_le_mul hw hz
 have hm:(16:Int)<=2^(w*z):=by
  have h:(2:Nat)^4<=2^(w*z):=Nat.pow_le_pow_right (by omega) hwz
  have h2:=pw (w*z)
  omega
 have hm2:(2:Int)^(w*z)<=18446744073709551616:=by
  have h:(2:Nat)^(w*z)<=2^64:=Nat.pow_le_pow_right (by omega) hwz2
  have h2:=pw (w*z)
  omega
 have hwa:(w:Int).natAbs<18446744073709551616:=by omega
 have hwm:(w:Int)*(z:Int)=((w*z:Nat):Int):=by simp
 have r1:ya8 (.int ((w*z:Nat):Int))=some (yo (w*z) 0 1):=zbF _ (by omega)
 obtain⟨u,hd,_⟩:=dbl (call:=yc T (k+3)) (i:=4) (j:=5) (by omega) (w*z) 0 [some (.loc n),some (.int w),some (.int z),some (.int kd),some (.int 1),none,none,none,none,none,none,none,none] 1 s1 rfl
 simp only[List.set_cons_zero,List.set_cons_succ,Int.mul_one]at hd
 have key:∃x st',0<=x/\x<2^(w*z)/\Onl ns n s1 st'/\exs (yc T (k+3)) [some (.loc n),some (.int w),some (.int z),some (.int kd),some (.int (2^(w*z))),u,none,none,none,none,none,none,none] s1 yx=.rt (.int x) st':=by
  rcases (by omega:kd<6 \/ (kd=6 \/ kd=7) \/ (kd=8 \/ kd=9) \/ 9<kd)with q|q|q|q
  ·obtain⟨x,a,b,e⟩:=zgh (c:=yc T (k+3)) (n:=n) (w:=w) (z:=z) (st:=s1) (u5:=u) (u6:=none) (u7:=none) (u8:=none) (u9:=none) (u10:=none) (u11:=none) (u12:=none) d1 q hm
   exact⟨x,s1,a,b,h1.refl,e⟩
  ·exact zga k hns h1 q (by omega) (by omega) (by omega) (by omega) (by rw[hwm,Int.toNat_natCast])
  ·exact ze7 k hns h1 q hw hw2 hz hz2 rfl
  ·exact zhz k hns h1 q hm hm2
 obtain⟨x,s2,a,b,o2,e2⟩:=key
 refine⟨x,s2,a,b,o1.trans o2,?_⟩
 have hT:T zc6=some ⟨3,13,false,yM.body⟩:=rfl
 have hb:yM.body=.cons (.asg (.n 3) (.call 48 (.cons (.var 0) (.cons (.cst (.int 12)) .nil)))) (.cons (.asg (.n 4) (.cst (.int 1))) (.cons (.for (.n 5) (.range1 (.bin .mul (.var 1) (.var 2))) (.cons (.asg (.n 4) (.bin .mul (.cst (.int 2)) (.var 4))) .nil)) yx)):=rfl
 rw[yc,hT,hb]
 simp only[List.length_cons,List.length_nil,Nat.zero_add,Nat.reduceAdd,if_true,Bool.false_eq_true,if_false,List.map_cons,List.map_nil,Nat.reduceSub,List.replicate,List.cons_append,List.nil_append]
 rw[xs_cons,x_asg]
 simp only[IC.ve18,IC.ve1,IC.ve2,evs,List.getElem?_cons_zero,List.getElem?_cons_succ,bd_ok,fl_ok,e1,bT_n,nxO_some,th_nx,List.set_cons_zero,List.set_cons_succ]
 rw[xs_cons,x_asg]
 simp only[IC.ve1,bd_ok,fl_ok,bT_n,nxO_some,th_nx,List.set_cons_zero,List.set_cons_succ]
 rw[xs_cons,x_for]
 simp only[evi,IC.ve2,IC.ve3,List.getElem?_cons_zero,List.getElem?_cons_succ,bd_ok,fl_ok,zU hwa,hwm,r1,toL,toR_some,hd,th_nx,e2]
theorem znp {n:Nat}(hn:1<=n)(hn2:n<=8):∀r∈yO n,okR r:=by
 intro r hr
 simp only[yO,List.mem_append,List.mem_cons,List.not_mem_nil,or_false]at hr
 rcases hr with (rfl|hr)|rfl|rfl|rfl|rfl|rfl
 ·exact⟨⟨by simp,by simp⟩,by simp,by simp⟩
 ·obtain⟨i,hi,rfl⟩:=z4 hr
  simp only[okR,okP,okC];omega
 all_goals simp only[okR,okP,okC];omega
theorem zln {n:Nat}(hn2:n<=8):∀r∈yae n,okR r:=by
 intro r hr
 obtain⟨I,hI,hr⟩:=zaX hr
 simp only[yal,List.mem_cons,List.mem_append,List.not_mem_nil,or_false]at hr
 rcases hr with rfl|rfl|hr|rfl
 ·trivial
 ·simp only[okR,okP,okC];omega
 ·obtain⟨J,hJ,hr⟩:=zaX hr
  simp only[inR,List.mem_cons,List.not_mem_nil,or_false]at hr
  rcases hr with rfl|rfl|rfl|rfl|rfl <;> simp only[okR,okP,okC] <;> omega
 ·simp only[okR,okP,okC];omega
theorem ziQ {n:Nat}(hn2:n<=8):∀r∈yI n,okR r:=by
 intro r hr
 simp only[yI,List.mem_cons,List.mem_append,List.not_mem_nil,or_false]at hr
 rcases hr with rfl|hr|rfl|rfl
 ·simp only[okR,okP,okC];omega
 ·obtain⟨i,hi,rfl⟩:=z4 hr
  simp only[okR,okP,okC];omega
 all_goals simp only[okR,okP,okC];omega
noncomputable def ybD:PV:=.tup [.str "product"]
def yeL:Bool:=match yc T 8 zS [ybD] []with
 | .ok (.tp b vs) []=>decide (yaq vs=some yap) && noLocs vs && isOk (yc T 8 zq [.tp b vs] []) (.bl true) && (match ye .eq (.tp b vs) (.tp b vs)with
  |some (.bl true)=>true
  |_=>false)
 |_=>false
theorem yge:yeL=true:=by decide +kernel
theorem ydA:∃b vs,yc T 8 zS [ybD] []=.ok (.tp b vs) []/\yaq vs=some yap/\noLocs vs=true/\yc T 8 zq [.tp b vs] []=.ok (.bl true) []/\ye .eq (.tp b vs) (.tp b vs)=some (.bl true):=by
 have h:=yge
 unfold yeL at h
 split at h
 ·rename_i b vs e
  simp only[Bool.and_eq_true,decide_eq_true_eq]at h
  refine⟨b,vs,e,h.1.1.1,h.1.1.2,zhJ h.1.2,?_⟩
  have h2:=h.2
  split at h2
  ·assumption
  ·cases h2
 ·cases h
theorem ygk (j w n:Nat){b:Bool}{vs:List PV}(e1:yaq vs=some yap)(e2:noLocs vs=true)(e3:yc T 8 zq [.tp b vs] []=.ok (.bl true) [])(hw1:1<=w)(hw2:w<=16)(hn:1<=n)(hn2:n<=4)(x y:Int)(st:Store) :
  ∃o,yc T (8+j+1) zfS [.tp b vs,.int w,.int n,.int x,.int y] st=.ok (.loc st.length) (st++[o])/\∃L,Dc (st++[o]) st.length (yP (2^w) (yj n) (yaQ (2^w) n x y) 0).1 L:=by
 have hrn:yaS w n yap<=4000:=by
  have:n*(1+n)<=4*5:=Nat.mul_le_mul hn2 (by omega)
  rw[zfM];omega
 have hlen:(yW w n yap).length<=4000:=by
  rw[za3,List.length_map];exact zbW hn2
 have hu:=unrolled 5 (b:=b) (w:=w) (n:=n) e2 e1 (by omega) (by omega) (by omega) (by omega) hrn hlen (by rw[za3];exact zaU _) []
 rw[za3]at hu hlen
 have hok:∀r∈yj n,okR r:=λr hr=>by
  simp only[yj,List.mem_append]at hr
  rcases hr with h|h|h
  ·exact zln (by omega) r h
  ·exact ziQ (by omega) r h
  ·exact znp (by omega) (by omega) r h
 exact yfm j w n hw1 hw2 (by omega) (rs:=yj n) (by rw[List.length_map]at hlen;omega) (zeq n) x y st e3 hu (zgf 7 hok [])
def unB (n:Nat)(l:List Nat):Bool:=match yc T 8 zS [ybD] []with
 | .ok (.tp b vs) []=>(l.all λa=>isOk (yc T 20 za4 [.tp b vs,.int (a:Int),.int n] []) (.tp false ((yj n).map yr))) && (match ye .ne (.tp false ((yj n).map yr)) (.tp false ((yj n).map yr))with
  |some (.bl false)=>true
  |_=>false)
 |_=>false
def unW (n:Nat):Prop:=unB n [4,5,6]=true/\unB n [7,8,9]=true/\unB n [10,11,12]=true/\unB n [13,14]=true/\unB n [15,16]=true
set_option maxHeartbeats 0 in
theorem unA:unW 1/\unW 2/\unW 3/\unW 4:=by refine⟨⟨?_,?_,?_,?_,?_⟩,⟨?_,?_,?_,?_,?_⟩,⟨?_,?_,?_,?_,?_⟩,?_,?_,?_,?_,?_⟩ <;> decide +kernel
theorem unP {b:Bool}{vs:List PV}(h0:yc T 8 zS [ybD] []=.ok (.tp b vs) [])(h2:noLocs vs=true){w n:Nat}(hw:4<=w)(hw2:w<=16)(hn:1<=n)(hn2:n<=4):(∀st,yc T 23 za4 [.tp b vs,.int w,.int n] st=.ok (.tp false ((yj n).map yr)) st)/\ye .ne (.tp false ((yj n).map yr)) (.tp false ((yj n).map yr))=some (.bl false):=by
 have h:unW n:=by
  rcases (by omega:n=1 \/ n=2 \/ n=3 \/ n=4)with rfl|rfl|rfl|rfl
  ·exact unA.1
  ·exact unA.2.1
  ·exact unA.2.2.1
  ·exact unA.2.2.2
 obtain⟨l,hl,h⟩:∃l,w∈l/\unB n l=true:=by
  obtain⟨a,b,c,d,e⟩:=h
  rcases (by omega:w<7 \/ (7<=w/\w<10) \/ (10<=w/\w<13) \/ (13<=w/\w<15) \/ 15<=w)with z|z|z|z|z
  ·exact⟨_,by simp;omega,a⟩
  ·exact⟨_,by simp;omega,b⟩
  ·exact⟨_,by simp;omega,c⟩
  ·exact⟨_,by simp;omega,d⟩
  ·exact⟨_,by simp;omega,e⟩
 unfold unB at h
 rw[h0]at h
 simp only[Bool.and_eq_true]at h
 constructor
 ·intro st
  have e:=List.all_eq_true.1 h.1 w hl
  have:=zdg (zhJ e) 3
  exact ybJ (f:=za4) (fn:=za8) rfl rfl this st
 ·have h2:=h.2
  split at h2
  ·assumption
  ·cases h2
theorem right (w n:Nat){b:Bool}{vs:List PV}(e1:yaq vs=some yap)(e2:noLocs vs=true)(e3:yc T 8 zq [.tp b vs] []=.ok (.bl true) [])(hw:4<=w)(hw2:w<=16)(hn:1<=n)(hn2:n<=4){x y:Int}(x0:0<=x)(x1:x<2^(w*n))(y0:0<=y)(y1:y<2^(w*n))(st:Store) :
  yc T 23 zfJ [.tp b vs,.int w,.int n,.int x,.int y] st=.ok (.bl true) st:=by
 obtain⟨o,r1,L,r2⟩:=ygk 13 w n e1 e2 e3 (by omega) (by omega) (by omega) (by omega) x y []
 have hn1:n - 1+1=n:=by omega
 have hp:(2:Int)^(w*n)=(2^w:Int)^n:=Int.pow_mul
 have hp2:(2:Int)^(2*(w*n))=(2^w:Int)^(2*n):=by rw[Nat.mul_left_comm,Int.pow_mul]
 have mm:=zdI (w:=w) (by omega) (n:=n - 1) x0 (by rw[hn1,<- hp];exact x1) y0 (by rw[hn1,<- hp];exact y1)
 rw[hn1,<- hp,<- hp2]at mm
 obtain⟨m1,m2,m3,m4,m5⟩:=mm
 have hK64:w*n<=64:=Nat.mul_le_mul (by omega:w<=16) (by omega:n<=4)
 have hpow:(2:Int)^(w*n)<=18446744073709551616:=by
  have h:(2:Nat)^(w*n)<=2^64:=Nat.pow_le_pow_right (by omega) hK64
  have h2:=pw (w*n)
  omega
 have hxa:x.natAbs<18446744073709551616:=by omega
 have hrd:=read 20 r2 (Str.ofString "c") 99 chC w (2*n) (by omega) (by omega)
 have hmk:=marks 21 r2
 have ht:=zcK 21 (w*n) (by omega) ([]++[o])
 have he:=ends 20 (x*y) (2*(w*n)) (by omega) ([]++[o])
 rw[m1]at hrd
 rw[m2,m3,m4,m5]at hmk
 have r1:yc T 22 zfS [.tp b vs,.int w,.int n,.int x,.int y] []=.ok (.loc 0) [o]:=r1
 have hrd:yc T 22 zez [.loc 0,.str "c",.int ((2*n:Nat):Int),.int w] [o]=.ok (.int (x*y)) [o]:=hrd
 have hmk:yc T 22 zcO [.loc 0] [o]=_:=hmk
 have ht:yc T 22 zaT [.int ((w*n:Nat):Int)] [o]=_:=ht
 have he:yc T 22 zeK [.int (x*y),.int ((2*(w*n):Nat):Int)] [o]=_:=he
 have h2n:(2:Int)*(n:Int)=((2*n:Nat):Int):=by omega
 have hwm:yC .mul (.int (w:Int)) (.int (n:Int))=some (.int ((w*n:Nat):Int)):=by rw[zU (by omega)];simp
 have hw3:yC .mul (.int (2*(w:Int))) (.int (n:Int))=some (.int ((2*(w*n):Nat):Int)):=by rw[zU (by omega)];simp[Int.mul_assoc]
 have hadd:∀a b c e:PV,yC .add (.tp false [a,b]) (.tp false [c,e])=some (.tp false [a,b,c,e]):=λa b c e=>by simp[yC,sizeMax,ydk]
 have ci:∀k:Nat,ye .is (.loc k) .non=some (.bl false):=λ_=>rfl
 have heq:∀a b c e:Int,ye .eq (.tp false [.int a,.int b,.int c,.int e]) (.tp false [.int a,.int b,.int c,.int e])=some (.bl true):=λa b c e=>by simp[ye,shd,ybu,peq,ybc]
 have hT:T zfJ=some zby:=rfl
 have hnl:noLocs [.tp b vs,.int w,.int n,.int x,.int y]=true:=by simp[noLocs,noLoc,e2]
 rw[show (23:Nat)=22+1 from rfl,zdN hT rfl rfl hnl]
 have hxy:yC .mul (.int x) (.int y)=some (.int (x*y)):=zU hxa
 generalize x*y=xy at *
 generalize PV.tp b vs=tv at *
 simp! [zby,r1,ci,h2n,hrd,hxy,beq_self_eq_true,hwm,hw3,ht,he,zp,zC,hadd,hmk,heq]
 rfl
noncomputable def ybG:Css:=match yaC.body with
 | .cons _ (.cons _ (.cons _ (.cons (.for _ _ b) _)))=>b
 |x=>x
theorem zlO (w:Int)(l:List Int):∃b,ye .isin (.int w) (.lst (l.map .int))=some (.bl b):=by
 have h:(l.map PV.int).all flat=true:=by
  rw[List.all_eq_true]
  intro v hv
  obtain⟨a,_,rfl⟩:=List.mem_map.1 hv
  rfl
 exact⟨inL (.int w) (l.map .int),by simp only[ye,flat,h,Bool.and_self,if_true]⟩
def gE:Ce:=.bin .add (.cst (.int 4)) (.call zV (.cons (.var 1) (.cons (.cst (.int 13)) .nil)))
theorem great {ns:List Int}(hns:ns.length<=1000):∀(xs:List PV) {st:Store},Drw ns 0 st->∃(l:List Int) (st':Store),l.length=xs.length/\Drw ns 0 st'/\yaz (yc T 23) [none,some (.loc 0)] (.n 0) (.cst (.bl true)) gE xs st=.ok (l.map .int) st'
 | [],st,h=>⟨[],st,rfl,h,zbJ⟩
 |x::xs,st,h=>by
  obtain⟨d,s1,_,_,o1,e1⟩:=yaA 20 hns (m:=13) (by omega) (by omega) h
  have e1:yc T 23 zV [.loc 0,.int 13] st=.ok (.int d) s1:=e1
  obtain⟨l,s2,hl,h2,e2⟩:=great hns xs (o1.drw h)
  refine⟨(4+d)::l,s2,by simp[hl],h2,?_⟩
  have one:yb3 (yc T 23) [none,some (.loc 0)] (.n 0) (.cst (.bl true)) gE x st=.ok (some (.int (4+d))) s1:=by
   simp! [yb3,gE,e1]
  rw[za7,one,bd_ok,e2,bd_ok];rfl
noncomputable def tA:Css:=match ybG with
 | .cons _ (.cons _ t)=>t
 |x=>x
noncomputable def tB:Css:=match tA with
 | .cons _ (.cons _ (.cons _ (.cons _ t)))=>t
 |x=>x
section
variable {ns:List Int}(hns:ns.length<=1000){p0 p2 p3:Option PV}(w:Nat)(hw:4<=w)(hw2:w<=16)
include hns
theorem yea (l:List Int){st:Store}(h:Drw ns 0 st)(u5 u6 u7 u8:Option PV):∃(n:Nat) (st':Store),1<=n/\n<=4/\Drw ns 0 st' /\
  exs (yc T 23) [p0,some (.loc 0),p2,some (.lst (l.map .int)),some (.int w),u5,u6,u7,u8] st ybG=exs (yc T 23) [p0,some (.loc 0),p2,some (.lst (l.map .int)),some (.int w),some (.int n),u6,u7,u8] st' tA:=by
 obtain⟨d,s1,a0,a1,o1,e1⟩:=yaA 20 hns (m:=2) (by omega) (by omega) h
 have h1:=o1.drw h
 obtain⟨e,s2,b0,b1,o2,e2⟩:=yaA 20 hns (m:=4) (by omega) (by omega) h1
 have e1:yc T 23 zV [.loc 0,.int 2] st=.ok (.int d) s1:=e1
 have e2:yc T 23 zV [.loc 0,.int 4] s1=.ok (.int e) s2:=e2
 obtain⟨c,hc⟩:=zlO w l
 have hb:ybG=(match ybG with
  | .cons a (.cons b _)=>.cons a (.cons b tA)
  |x=>x):=rfl
 generalize PV.lst (l.map .int)=L at *
 cases c with
 |false =>
  refine⟨(1+d).toNat,s1,by omega,by omega,h1,?_⟩
  rw[show (((1+d).toNat:Nat):Int)=1+d by omega,hb]
  generalize tA=F at *
  simp! [ybG,yaC,e1,hc]
 |true =>
  refine⟨(1+e).toNat,s2,by omega,by omega,o2.drw h1,?_⟩
  rw[show (((1+e).toNat:Nat):Int)=1+e by omega,hb]
  generalize tA=F at *
  simp! [ybG,yaC,e1,e2,hc]
include hw hw2
theorem ydK (n:Nat)(hn:1<=n)(hn2:n<=4){st:Store}(h:Drw ns 0 st)(u6 u7 u8:Option PV):∃(x y:Int) (st':Store) (v6:Option PV),0<=x/\x<2^(w*n)/\0<=y/\y<2^(w*n)/\Drw ns 0 st' /\
  exs (yc T 23) [p0,some (.loc 0),p2,p3,some (.int w),some (.int n),u6,u7,u8] st tA=exs (yc T 23) [p0,some (.loc 0),p2,p3,some (.int w),some (.int n),v6,some (.int x),some (.int y)] st' tB:=by
 obtain⟨d,s1,a0,a1,o1,e1⟩:=yaA 20 hns (m:=2) (by omega) (by omega) h
 have h1:=o1.drw h
 obtain⟨e,s2,b0,b1,o2,e2⟩:=yaA 20 hns (m:=2) (by omega) (by omega) h1
 have h2:=o2.drw h1
 obtain⟨f,s3,c0,c1,o3,e3⟩:=yaA 20 hns (m:=3) (by omega) (by omega) h2
 have h3:=o3.drw h2
 obtain⟨z,s4,z0,z1,o4,e4⟩:=worth 19 hns w n hw hw2 hn hn2 h3
 have e1:yc T 23 zV [.loc 0,.int 2] st=.ok (.int d) s1:=e1
 have e2:yc T 23 zV [.loc 0,.int 2] s1=.ok (.int e) s2:=e2
 have e3:yc T 23 zV [.loc 0,.int 3] s2=.ok (.int f) s3:=e3
 have e4:yc T 23 zc6 [.loc 0,.int w,.int n] s3=.ok (.int z) s4:=e4
 have hK:w*n<=64:=Nat.mul_le_mul hw2 hn2
 have ht:yc T 23 zaT [.int ((w*n:Nat):Int)] st=_:=zcK 22 (w*n) (by omega) st
 have hwm:yC .mul (.int (w:Int)) (.int (n:Int))=some (.int ((w*n:Nat):Int)):=by rw[zU (by omega)];simp
 have hP:(4:Int)<=2^(w*n):=by
  have h4:4<=w*n:=Nat.mul_le_mul hw hn
  have h:(2:Nat)^2<=2^(w*n):=Nat.pow_le_pow_right (by omega) (by omega)
  have h2:=pw (w*n)
  omega
 have hb:tA=(match tA with
  | .cons a (.cons b (.cons c (.cons d _)))=>.cons a (.cons b (.cons c (.cons d tB)))
  |x=>x):=rfl
 generalize (2:Int)^(w*n)=P at *
 generalize ((w*n:Nat):Int)=K at *
 by_cases c:f=1
 ·subst c
  refine⟨z,P - 1 - e,s4,some (.int (P - 1)),z0,z1,by omega,by omega,o4.drw h3,?_⟩
  rw[hb]
  generalize tB=F at *
  simp! [tA,ybG,yaC,hwm,ht,e1,e2,e3,e4,beq_self_eq_true]
 ·have c:(f == 1)=false:=by simp[c]
  refine⟨P - 1 - d,P - 1 - e,s3,some (.int (P - 1)),by omega,by omega,by omega,by omega,h3,?_⟩
  rw[hb]
  generalize tB=F at *
  simp! [tA,ybG,yaC,hwm,ht,e1,e2,e3,c]
end
theorem yej {b:Bool}{vs:List PV}(h0:yc T 8 zS [ybD] []=.ok (.tp b vs) [])(e1:yaq vs=some yap)(e2:noLocs vs=true)(e3:yc T 8 zq [.tp b vs] []=.ok (.bl true) []){w n:Nat}(hw:4<=w)(hw2:w<=16)(hn:1<=n)(hn2:n<=4){x y:Int}(x0:0<=x)(x1:x<2^(w*n))(y0:0<=y)(y1:y<2^(w*n))(st:Store){p0 p1 p3 v6:Option PV} :
  exs (yc T 23) [p0,p1,some (.tp b vs),p3,some (.int w),some (.int n),v6,some (.int x),some (.int y)] st tB=.nx [p0,p1,some (.tp b vs),p3,some (.int w),some (.int n),v6,some (.int x),some (.int y)] st:=by
 have r1:=right w n e1 e2 e3 hw hw2 hn hn2 x0 x1 y0 y1 st
 obtain⟨u1,u2⟩:=unP h0 e2 hw hw2 hn hn2
 have hrn:yaS w n yap<=4000:=by
  have:n*(1+n)<=4*5:=Nat.mul_le_mul hn2 (by omega)
  rw[zfM];omega
 have hlen:(yW w n yap).length<=4000:=by
  rw[za3,List.length_map];exact zbW hn2
 have hu:yc T 23 zaa [.tp b vs,.int w,.int n,.int 4000] st=_:=unrolled 20 (b:=b) (w:=w) (n:=n) e2 e1 (by omega) (by omega) (by omega) (by omega) hrn hlen (by rw[za3];exact zaU _) st
 rw[za3]at hu
 have ht:∀st,yan .tuple st [.lst ((yj n).map yr)]=some (.tp false ((yj n).map yr)):=λ_=>rfl
 generalize (yj n).map yr=rs at *
 generalize PV.tp b vs=tv at *
 have u1:=u1 st
 simp! [tB,tA,ybG,yaC,r1,u1,hu,ht,u2]
theorem loop {ns:List Int}(hns:ns.length<=1000){b:Bool}{vs:List PV}(h0:yc T 8 zS [ybD] []=.ok (.tp b vs) [])(e1:yaq vs=some yap)(e2:noLocs vs=true)(e3:yc T 8 zq [.tp b vs] []=.ok (.bl true) [])(l:List Int){p0:Option PV}:∀(k w:Nat) {st:Store} (u4 u5 u6 u7 u8:Option PV),4<=w->w+k<=17->Drw ns 0 st->∃st' v4 v5 v6 v7 v8,Drw ns 0 st' /\
  yaB (yc T 23) (.n 4) ybG (yo k (w:Int) 1) [p0,some (.loc 0),some (.tp b vs),some (.lst (l.map .int)),u4,u5,u6,u7,u8] st=.nx [p0,some (.loc 0),some (.tp b vs),some (.lst (l.map .int)),v4,v5,v6,v7,v8] st'
 |0,w,st,u4,u5,u6,u7,u8,_,_,h=>⟨st,u4,u5,u6,u7,u8,h,by rw[yo,zt]⟩
 |k+1,w,st,u4,u5,u6,u7,u8,hw,hk,h=>by
  obtain⟨n,s1,hn,hn2,d1,f1⟩:=yea hns (p0:=p0) (p2:=some (.tp b vs)) w l h u5 u6 u7 u8
  obtain⟨x,y,s2,v6,x0,x1,y0,y1,d2,f2⟩:=ydK hns (p0:=p0) (p2:=some (.tp b vs)) (p3:=some (.lst (l.map .int))) w hw (by omega) n hn hn2 d1 u6 u7 u8
  have f3:=yej h0 e1 e2 e3 hw (by omega) hn hn2 x0 x1 y0 y1 s2 (p0:=p0) (p1:=some (.loc 0)) (p3:=some (.lst (l.map .int))) (v6:=v6)
  obtain⟨s3,v4,v5,w6,v7,v8,d3,f4⟩:=loop hns h0 e1 e2 e3 l (p0:=p0) k (w+1) (some (.int w)) (some (.int n)) v6 (some (.int x)) (some (.int y)) (by omega) (by omega) d2
  refine⟨s3,v4,v5,w6,v7,v8,d3,?_⟩
  have ag:∀(ρ:IC.Env) (s:Store) (k:IC.Env->Store->Fl),yak (.nx ρ s) k=k ρ s:=λ_ _ _=>rfl
  rw[yo,zm (ρ1:=[p0,some (.loc 0),some (.tp b vs),some (.lst (l.map .int)),some (.int w),u5,u6,u7,u8]) rfl,f1,f2,f3,ag,show ((w:Int)+1)=((w+1:Nat):Int)by omega]
  exact f4
theorem zgz (l:List Int):noLocs [PV.scr (l.map .int)]=true:=by simp[noLocs,noLoc,noLocs_ints]
theorem ziA (ns:List Int)(hns:ns.length<=63):yc T 24 zjN [.scr (ns.map .int)] []=.ok (.bl true) []:=by
 obtain⟨o,e1,ho⟩:=fresh 22 ns hns []
 have h0:Drw ns 0 [o]:=⟨0,0,false,by omega,by rw[ho];rfl⟩
 have hl:ns.length<=1000:=by omega
 obtain⟨b,vs,t0,t1,t2,t3,_⟩:=ydA
 have g0:∀st,yc T 23 zS [.tp false [.str "product"]] st=.ok (.tp b vs) st:=λst=>ybJ rfl rfl (ybW t0 15) st
 obtain⟨l,s1,hll,d1,f1⟩:=great hl [.int 0,.int 1,.int 2] h0
 obtain⟨s2,v4,v5,v6,v7,v8,d2,f2⟩:=loop hl t0 t1 t2 t3 l (p0:=some (.scr (ns.map .int))) 13 4 none none none none none (by omega) (by omega) d1
 have hT:T zjN=some ⟨1,9,true,yaC.body⟩:=rfl
 have hb:yaC.body=(match yaC.body with
  | .cons a (.cons b (.cons c (.cons (.for t i _) r)))=>.cons a (.cons b (.cons c (.cons (.for t i ybG) r)))
  |x=>x):=rfl
 have hr:ya8 (.int 3)=some [.int 0,.int 1,.int 2]:=rfl
 have hr2:ydr (.int 4) (.int 17)=some (yo 13 4 1):=rfl
 rw[zdN hT rfl rfl (zgz ns)]
 dsimp only
 rw[hb]
 have e1:yc T 23 zdf [.scr (ns.map .int)] []=.ok (.loc 0) [o]:=e1
 have f1:yaz (yc T 23) [none,some (.loc 0)] (.n 0) (.cst (.bl true)) (.bin .add (.cst (.int 4)) (.call 48 (.cons (.var 1) (.cons (.cst (.int 13)) .nil)))) [.int 0,.int 1,.int 2] [o]=_:=f1
 have lr:=λst=>zlU (l.map PV.int) (by simp[hll]) st
 have f2:yaB (yc T 23) (.n 4) ybG (yo 13 4 1) _ _=_:=f2
 generalize PV.tp b vs=tv at *
 generalize yo 13 4 1=R at *
 simp! [yaC,e1,g0,hr,hr2,f1,lr,f2,zmq]
end WK
namespace WK
open PySem L2 IC
theorem walk {l:PySem.W.OpenLaw}{q:Program}{loose:List Str}{XP:(Str->Option Value)->Heap->Prop}{YP:World->Heap->Prop}{d:DefRec}{K:Params->PySem.W.Frag}(hn:l.most=some 63)(hdf:d.params.defaults=[])
  (hY:∀(w:World) (h:Heap),YP w h->(K w.params).In h)
  (F:∀(w:World) (mg:Str->Option Value) (fa:Addr) (h:Heap),(K w.params).In h->h.Ns mainGlobals mg->mg d.name=some (.ref fa) ->
   ∃fd:FuncData,(∀(s:Shared) (u:Value),BindsTo s fd ⟨[u],[]⟩ [("_law_script",u)])/\∀base:Heap,(K w.params).In base->base.Ns mainGlobals mg->yax l.prog w (K w.params) mg base (CX1 l.prog w) (2*24) fa fd ["_law_script"] (spX (K w.params) (yc T 24) zjN)) :
  PySem.W.WalkO q loose XP YP l.row.toRowW d [] (λf vs=>PySem.call f vs) :=
 L2.walk_of (n:=63) (k:=2*24) (x:="_law_script") (CX:=λw=>CX1 l.prog w) (sp:=λw=>spX (K w.params) (yc T 24) zjN) hn (by decide) hdf ⟨rfl,by decide,by decide⟩ hY F (λw H a ns hl _ hS=>zhv ziA hl hS) λ_ _ _ _ _ z=>znu z
end WK
open PySem PySem.W PyProof.Rows
set_option maxRecDepth 100000 in
set_option maxHeartbeats 0 in
theorem PySem.Challenge.cw_widewords_k34_one_telling_for_every_widt_holds : PySem.Challenge.rw_widewords_k34_one_telling_for_every_widt.Holds := by
 refine hd0 ?_
 k_fill
 refine WK.walk (l:=PySem.Challenge.rw_widewords_k34_one_telling_for_every_widt) rfl rfl (λw h Y=>PySem.W.kIn_of Y) ?F
 case F =>
  intro w mg fa h KX G hmg
  refine' L2.all_mk2 (t:=WK.tbQ) KX G hmg ?R ?B ?D WK.kb_all ?Ml WK.ok_all WK.T_ok (L:=74) rfl 24
  case R =>
   repeat' (first|exact trivial|apply And.intro|(refine' L2.rowFn ?a9 ?l9 ?c9 ?p9 ?b9;(case a9|l9|c9|p9=>k_is);(case b9=>((repeat intro _);first|rfl|kernel_rfl)))|(refine' L2.rowMe ?z9 ?a9 ?i9 ?l9 ?c9 ?p9 ?b9;(case z9=>((first|rw[WK.cn_20]);k_is));(case a9|i9|l9|c9|p9=>k_is);(case b9=>((repeat intro _);first|rfl|kernel_rfl)))|(refine' L2.rowIni ?z9 ?a9 ?i9 ?l9 ?c9 ?p9 ?b9 ?m9 ?k9;(case z9=>((first|rw[WK.cn_20]);k_is));(case a9|i9|l9|c9|p9=>k_is);(case b9=>((repeat intro _);first|rfl|kernel_rfl));(case m9|k9=>k_is))|(refine' L2.rowFd ?a9 ?l9 ?c9 ?p9 ?d9 ?e9 ?v9;(case a9|l9|c9|p9|d9=>k_is);(case e9=>rfl);(case v9=>(repeat first|exact .nil|refine .cons ⟨_,rfl⟩ ?_))))
  case B=>kernel_rfl
  case D =>
   repeat' (first|exact trivial|apply And.intro|intro _|(refine' L2.gd_mk KX G ?a9 ?l9 ?s9 ?r9 ?n9;(case a9|l9=>k_is);(case s9=>rfl);(case r9=>(repeat first|exact .nil|refine L2.con_row (by kernel_rfl) ?_));(case n9=>decide +kernel)))
  case Ml =>
   repeat' (first|exact trivial|apply And.intro|(refine' L2.gdf_mk KX G ?a9 ?l9 ?r9 ?n9;(case a9|l9=>k_is);(case r9=>(repeat first|exact .nil|refine L2.frow_cons (by kernel_rfl) ?_));(case n9=>decide +kernel)))
