import PyProof.Rows.All
import OpenK.KLine
import Wide.FinOn
import KE.KRevSl
import KE.KItem
import KE.KxWritten
import KE.KFromBytes
import KE.LcSums
import KE.KBits
import KE.KTryMore
import PySem.Challenge.RW_widewords_k32_whole_products_go_together
set_option Elab.async false
set_option linter.all false
set_option maxRecDepth 100000
set_option maxHeartbeats 0
namespace PySem.W.Fast
def tw9569864462518296998:=Nat
def tw14837628016822825753:=Nat
def tw1415537556302951468:=Nat
def tw10463970591603187280:=Nat
def tw12874621449164409490:=Nat
def tw16347368675445322029:=Nat
def tw16470425184953359038:=Nat
def tw10074173887524908756:=Nat
def tw6721576500076905032:=Nat
def tw7925199212868611226:=Nat
def tw2143194145236326384:=Nat
def tw4743622703206890758:=Nat
def tw5582278121865402222:=Nat
def tw7287155303325371975:=Nat
def tw9183138996413505265:=Nat
def tw17610196256415385561:=Nat
def tw13319722465711899034:=Nat
def tw4987394294933755630:=Nat
def tw3412651987242692391:=Nat
def tw5068977863074694977:=Nat
def tw7561743191316503888:=Nat
def tw9404292081097708020:=Nat
def tw13871754104591724034:=Nat
def tw192855474964112095:=Nat
def tw5566435392870025979:=Nat
def tw11052904637730323422:=Nat
def tw9390114406514743263:=Nat
def tw15114018677019012404:=Nat
def tw655018563485058151:=Nat
def tw15102686076096383717:=Nat
def tw2240168833689170455:=Nat
def tw6140563286352010634:=Nat
def tw2484148307588563183:=Nat
def tw18150438009273792433:=Nat
def tw17270741713198379328:=Nat
def tw8969228298166091179:=Nat
def tw7396007710416088117:=Nat
def tw17856168050900642125:=Nat
def tw8306858879272652745:=Nat
def tw10061331994585783745:=Nat
def tw11625352843814104370:=Nat
def tw16334517923019052169:=Nat
def tw12146389924602033906:=Nat
def tw6671840634692013360:=Nat
def tw12636701067703333292:=Nat
def tw9162721542120127830:=Nat
def tw1430177998601364396:=Nat
def tw14321850308349490111:=Nat
def tw14288747195778349270:=Nat
def tw10455912284445518836:=Nat
def tw10363203907615603934:=Nat
def tw4276995491221010455:=Nat
def tw16492153947562324264:=Nat
def tw10316976218296715033:=Nat
def tw4068335703659632365:=Nat
def tw7028896646234187205:=Nat
def tw8450380575087806379:=Nat
def tw10786905327605979064:=Nat
def tw9737202657212022431:=Nat
def tw8967013638586201274:=Nat
def tw11720747197232559031:=Nat
def tw12220759551225492717:=Nat
def tw16899937220534331871:=Nat
def tw18442005722014013261:=Nat
def tw15910843203685865035:=Nat
def tw7622391822913223209:=Nat
def tw1764180381174828835:=Nat
def tw4197724086315991227:=Nat
def tw16672519148670177033:=Nat
def tw8164379311992995302:=Nat
def tw7787690052748325480:=Nat
def tw13575778362772579548:=Nat
def tw11558001335942434555:=Nat
def tw10696737567543567447:=Nat
def tw2682693071807040856:=Nat
def tw1567182362816751980:=Nat
def tw10795499463310692645:=Nat
def tw10979623404638889131:=Nat
def tw6576930874114821541:=Nat
def tw15898876490577784637:=Nat
def tw11432835142404944978:=Nat
def tw4345652294919634407:=Nat
def tw6328168262091396593:=Nat
def tw1667552625164415298:=Nat
def tw13090289589560920019:=Nat
def tw16536529492266528920:=Nat
def tw17275748359171661595:=Nat
def tw13063302518415051750:=Nat
def tw9288749412287943955:=Nat
def tw3789399343417337574:=Nat
def tw8557981256398128993:=Nat
def tw13328178036897016530:=Nat
def tw10571235019072029084:=Nat
def tw11262895994331362531:=Nat
def tw11500229078491665010:=Nat
def tw14515846630759155889:=Nat
def tw4481318393606941838:=Nat
def tw16212082397506342270:=Nat
def tw5129815590241121771:=Nat
def tw17381933329994774943:=Nat
def tw15320955228011458099:=Nat
def tw221225121100887316:=Nat
def tw11417419658469995487:=Nat
def tw9878188910617140785:=Nat
def tw181937484998399716:=Nat
def tw7375856845661796031:=Nat
def tw7681074531902006888:=Nat
def tw3900175563450520319:=Nat
def tw13123639902971317059:=Nat
def tw13094020397220990842:=Nat
def tw17610578847793078828:=Nat
def tw17810747194233289805:=Nat
def tw13403211837064563550:=Nat
def tw13124027753460358642:=Nat
def tw17448590759146416785:=Nat
def tw17596430705862791217:=Nat
def tw4647623404472975188:=Nat
def tw10232422783416199495:=Nat
def tw15847574923925153089:=Nat
def tw13993838015920163029:=Nat
def tw2943612378254228485:=Nat
def tw6006372553270734289:=Nat
def tw810122332825446900:=Nat
def tw15283094660030723380:=Nat
def tw1060201128779138730:=Nat
def tw18131722699110843985:=Nat
def tw3574170833925157663:=Nat
def tw18165642044922956790:=Nat
def tw13393670132889516869:=Nat
def tw14416925101166091312:=Nat
def tw13770222995053912140:=Nat
def tw561267612266519472:=Nat
def tw11664561743152778505:=Nat
def tw9209012794049689826:=Nat
def tw17341609239623309946:=Nat
def tw4754318504932283297:=Nat
def tw14394521029104355517:=Nat
def tw10580113736740751031:=Nat
def tw16017999662897063149:=Nat
def tw5899328966845573718:=Nat
def tw3207272415174655996:=Nat
def tw9608428384918708412:=Nat
def tw8797163598962242231:=Nat
def tw7124507291106526476:=Nat
def tw11403470683222063912:=Nat
def tw12422361490157883768:=Nat
def tw4861631242480292463:=Nat
def tw310537423534317999:=Nat
def tw5948638664351809991:=Nat
def tw4617278261934968330:=Nat
def tw5046369614304607748:=Nat
def tw12965636414819877801:=Nat
def tw14380377490527660259:=Nat
def tw860029184327589190:=Nat
def tw15546300126367427033:=Nat
def tw5620920712397249883:=Nat
def tw9009846856320113697:=Nat
def tw12679748447028472108:=Nat
def tw17208455153897613286:=Nat
def tw11211593223137395720:=Nat
def tw4939655657603935566:=Nat
def tw5131125459333042010:=Nat
def tw17699319197328470920:=Nat
def tw14156519413552771971:=Nat
def tw540145475114396878:=Nat
def tw12309483007818096553:=Nat
def tw9798050290976068673:=Nat
def tw8406782203384859729:=Nat
def tw10644539329473106710:=Nat
def tw9477529966448956843:=Nat
def tw5654949408616933509:=Nat
def tw11858054187465886397:=Nat
def tw3748790856712109708:=Nat
def tw15080186047786031183:=Nat
def tw18118653582907847645:=Nat
def tw13051192815975612090:=Nat
def tw12576877573714159218:=Nat
def tw5765604608724612320:=Nat
def tw4546943411925764271:=Nat
def tw1759240881999828800:=Nat
def tw14051089178699899635:=Nat
def tw15561769718294875778:=Nat
def tw14290465916260629301:=Nat
def tw17145578432640951530:=Nat
def tw8316931812691470534:=Nat
def tw5186922138461473546:=Nat
def tw6082469714712868401:=Nat
def tw6325353907495982800:=Nat
def tw922356606382211884:=Nat
def tw15834519515626044460:=Nat
def tw11735015768416154256:=Nat
def tw3465555146899110470:=Nat
def tw5076759728297424370:=Nat
def tw10195038033901912012:=Nat
def tw10051896014248397715:=Nat
def tw2172817228017899223:=Nat
def tw2736214271018479459:=Nat
def tw15474705517306154867:=Nat
def tw11741807097939665548:=Nat
def tw9170075628871775799:=Nat
def tw17546830930350631198:=Nat
def tw3383411036434404394:=Nat
def tw12142753935107384424:=Nat
def tw15379650405749881042:=Nat
def tw11703946849553116357:=Nat
def tw7363069124075325471:=Nat
def tw16743167564075992146:=Nat
def tw13838021860174326260:=Nat
def tw11106007905112251033:=Nat
def tw6319598949848492239:=Nat
def tw4886576765086093616:=Nat
def tw743459669975986370:=Nat
def tw13029152242137601216:=Nat
def tw15856195192439957996:=Nat
def tw14434906486149833918:=Nat
def tw4229761231738885413:=Nat
def tw13546378439934567682:=Nat
def tw7534624342536476213:=Nat
def tw3255664557173634198:=Nat
def tw8251184747969471105:=Nat
def tw6512787577383174679:=Nat
def tw13184951536047286468:=Nat
def tw15495673989022920032:=Nat
def tw11126779080387354726:=Nat
def tw7424294030540662172:=Nat
def tw16434258152867461593:=Nat
def tw2291257543682829636:=Nat
def tw3928013674194937137:=Nat
def tw12345267467767687971:=Nat
def tw17755198532151715436:=Nat
def tw12235533993145805961:=Nat
def tw12537989451670833535:=Nat
def tw450411518577382025:=Nat
def tw6293758997067048205:=Nat
def tw17512633849361390672:=Nat
def tw18270671275980106520:=Nat
def tw3544341903682421397:=Nat
def tw15266491690268181276:=Nat
def tw5608019933885829422:=Nat
def tw17716479149052736867:=Nat
def tw625746862538479663:=Nat
def tw4406687801866912002:=Nat
def tw1461606459873707642:=Nat
def tw1125140694956492694:=Nat
def tw1468785509245089711:=Nat
def tw2633848926037211608:=Nat
def tw6052178243135282679:=Nat
def tw7881684097233767975:=Nat
def tw16918817118566746712:=Nat
def tw5329754288034141938:=Nat
def tw11240051749844486918:=Nat
def tw3845833369043993213:=Nat
def tw9541152122027192069:=Nat
def tw5375191211671061517:=Nat
def tw13361535436033630846:=Nat
def tw3909731654069153804:=Nat
def tw7343389075965700010:=Nat
def tw14771839376859659486:=Nat
def tw14943419613164906470:=Nat
def tw15315119576128733319:=Nat
def tw6431185272534327168:=Nat
def tw13555874853995494419:=Nat
def tw2893322494920206072:=Nat
def tw10765122167621817080:=Nat
def tw2043101222905532461:=Nat
def tw11583281756508072989:=Nat
def tw2821555435042377383:=Nat
def tw8469966868265059030:=Nat
def tw8279586576335615114:=Nat
def tw2901554832286038083:=Nat
def tw4624154472689265586:=Nat
def tw5934410487977410405:=Nat
def tw14113566410556130919:=Nat
def tw7781349839443521385:=Nat
def tw2334990471470440145:=Nat
def tw15747441432442398131:=Nat
def tw13261466790766043780:=Nat
def tw17717006166036202146:=Nat
def tw9747343706804450814:=Nat
def tw3009167149224063152:=Nat
def tw12890102417665695874:=Nat
def tw1633828663883719748:=Nat
def tw3956187588502706885:=Nat
def tw59770029465277872:=Nat
def tw13422499872739712667:=Nat
def tw11786151043723174576:=Nat
def tw14901993532201352135:=Nat
def tw15532658552914475334:=Nat
def tw1882587148114910379:=Nat
def tw2357412894492479544:=Nat
def tw9167745050999211384:=Nat
def tw1086736001404829167:=Nat
def tw489605043462559807:=Nat
def tw15701222018098312495:=Nat
def tw3619331353280565477:=Nat
def tw10036835044629835105:=Nat
def tw17354538005390919192:=Nat
def tw12283541672226362080:=Nat
def tw2263549272935274371:=Nat
def tw13882687575447164251:=Nat
def tw156187433137681369:=Nat
def tw14888860021595713463:=Nat
def tw16986163755639902580:=Nat
def tw1124226932607626085:=Nat
def tw16607860573001800553:=Nat
def tw9002683001515729680:=Nat
def tw7554451084093343856:=Nat
def tw4284958699584726529:=Nat
def tw11798830109857786124:=Nat
def tw10149331235060491170:=Nat
def tw7902447315231182204:=Nat
def tw1484122642867813568:=Nat
def tw14572343899785966759:=Nat
def tw11664696604925521232:=Nat
def tw15463049941655399214:=Nat
def tw13635835226802015787:=Nat
def tw8390365169070013089:=Nat
def tw13918670052879819114:=Nat
def tw10569657693299815012:=Nat
def tw13182038768589363548:=Nat
def tw2911179896940634865:=Nat
def tw17053281323326740192:=Nat
def tw1623064365135357269:=Nat
def tw15636980215216688189:=Nat
def tw15965844667181895031:=Nat
def tw8478814920381664153:=Nat
def tw3296349348523097025:=Nat
def tw11175278001734730432:=Nat
def tw3198719808093615129:=Nat
def tw11648561592996509571:=Nat
def tw16239702341271966395:=Nat
def tw12490965877515391478:=Nat
def tw5725846626424709184:=Nat
def tw8831607788040669884:=Nat
def tw12508822423380257272:=Nat
def tw1358187613571373667:=Nat
def tw17512752333296234371:=Nat
def tw8935631555078081181:=Nat
def tw16806071925669446101:=Nat
def tw9028923894697092497:=Nat
def tw4256623550532429169:=Nat
def tw13479318323542214109:=Nat
def tw12647919235322722497:=Nat
def tw17801638245210219553:=Nat
def tw18066877790879610890:=Nat
def tw7767391489275030088:=Nat
def tw11647126455462417451:=Nat
def tw7950780826343601618:=Nat
def tw5393121475550395192:=Nat
def tw1094901969663808873:=Nat
def tw15898594493588245987:=Nat
def tw11479927843402486598:=Nat
def tw9476505993898833168:=Nat
def tw6074609096587946069:=Nat
def tw7080216979365953681:=Nat
def tw4451384287079430086:=Nat
def tw14797202455680732432:=Nat
def tw14922581355946131026:=Nat
def tw16829397961561072166:=Nat
def tw10412174223161470012:=Nat
def tw6480917408609482976:=Nat
def tw1709280952523348831:=Nat
def tw5335184177777555415:=Nat
def tw13587065947579789271:=Nat
def tw3283450278778863646:=Nat
def tw9463562133230145625:=Nat
def tw9511261954397832277:=Nat
def tw2383000870546770894:=Nat
def tw15871068845449825399:=Nat
def tw4237017065301290142:=Nat
def tw5367934797669642813:=Nat
def tw11985451820329726133:=Nat
def tw16284830771101937006:=Nat
def tw1211872999033610700:=Nat
def tw4565245147385949819:=Nat
def tw3426999359924844251:=Nat
def tw14741787657295955608:=Nat
def tw8824343456703725745:=Nat
def tw11065873042256493280:=Nat
def tw431240989296642876:=Nat
def tw8233058890657895294:=Nat
def tw11077991197046630249:=Nat
def tw15320078218264921248:=Nat
def tw63298032779032903:=Nat
def tw6898044006686895152:=Nat
def tw973359145349688737:=Nat
def tw5250925657664969792:=Nat
def tw10027071391911947740:=Nat
def tw12565286633761501368:=Nat
def tw15865076453242790439:=Nat
def tw2508132227128221083:=Nat
def tw8592140548554452514:=Nat
def tw4337484924856078697:=Nat
def tw4136698391372918818:=Nat
def tw7547736787627833259:=Nat
def tw2904545229991885373:=Nat
def tw18045473700704665245:=Nat
def tw8258935249689543199:=Nat
def tw3431317181167031760:=Nat
def tw3825706028813817301:=Nat
def tw9982963451423800935:=Nat
def tw1581182704805082715:=Nat
def tw16494174562492496470:=Nat
def tw5277849765277415984:=Nat
def tw13903591382898872486:=Nat
def tw3920013325286055475:=Nat
def tw909523945395252287:=Nat
def tw8652021281153790423:=Nat
def tw4240786097456493432:=Nat
def tw3493455206169207831:=Nat
def tw5200543387142388731:=Nat
def tw4059460171514157432:=Nat
def tw7222930177041823995:=Nat
def tw6254166863204599963:=Nat
def tw3638313235232377349:=Nat
def tw10841547579281480247:=Nat
def tw3178436352653242033:=Nat
def tw2098224128134627977:=Nat
def tw7786675200721141502:=Nat
def tw16205532305656561679:=Nat
def tw17637438379036732865:=Nat
def tw9134642427976194452:=Nat
def tw15552827759987178151:=Nat
def tw1557555430674731103:=Nat
def tw10128770574522243084:=Nat
def tw583441472157006708:=Nat
def tw11961697604036885944:=Nat
def tw2380204722700424274:=Nat
def tw2323043399175784243:=Nat
def tw7929504168282619556:=Nat
def tw14136860554356401830:=Nat
def tw6445983820193009603:=Nat
def tw17151037125806839856:=Nat
def tw1451614263686850137:=Nat
def tw7396307554121194775:=Nat
def tw6290287242237099129:=Nat
def tw12472616420684884012:=Nat
def tw465405290356896134:=Nat
def tw4483367738186614494:=Nat
def tw5536787799423034994:=Nat
def tw15847825366509396647:=Nat
def tw18206773003078766762:=Nat
def tw14098877361268914017:=Nat
def tw10156292231179270021:=Nat
def tw4882111207496837565:=Nat
def tw17774020973410715706:=Nat
def tw9486606862069079150:=Nat
def tw1724524117966350222:=Nat
def tw7391388064154205793:=Nat
def tw5369895161378780946:=Nat
def tw5246045564022409481:=Nat
def tw14479943889519509907:=Nat
def tw9610201010827043206:=Nat
def tw16065998035683307131:=Nat
def tw9053038232988628748:=Nat
def tw17814422590363478450:=Nat
def tw16229980368764890087:=Nat
def tw17983312548680553443:=Nat
def tw14126339578391771981:=Nat
def tw17906754423351918072:=Nat
def tw14174737360723864765:=Nat
def tw12607521007319781811:=Nat
def tw9660773252997461402:=Nat
def tw7698822971059132128:=Nat
def tw5557774036968139327:=Nat
def tw4973020855301957280:=Nat
def tw4527564401539096656:=Nat
def tw13097531306732772680:=Nat
def tw8043961906670939067:=Nat
def tw16874033677673482309:=Nat
def tw6329480474673424882:=Nat
def tw9819654968618079206:=Nat
def tw2870207336671384484:=Nat
def tw14139627415142645410:=Nat
def tw10517134187622051611:=Nat
def tw6611835043472482458:=Nat
def tw4395719702560603020:=Nat
def tw17702494806381496101:=Nat
def tw5029238129130386170:=Nat
def tw16992338428185549908:=Nat
def tw15061627169465771340:=Nat
def tw10978763838096158756:=Nat
def tw10420781523696801136:=Nat
def tw4726680027851486731:=Nat
def tw4325537210522460536:=Nat
def tw12415066917588094680:=Nat
def tw2373275630531674209:=Nat
def tw16121270549223585860:=Nat
def tw9303999083487897723:=Nat
def tw15992652921006257436:=Nat
def tw12273168803376779395:=Nat
def tw16680480526136574221:=Nat
def tw17753521578012330408:=Nat
def tw932982029901103720:=Nat
def tw10130756965957725694:=Nat
def tw7838683064270601777:=Nat
def tw7454725496219174841:=Nat
def tw7042746841224229961:=Nat
def tw2908690865751000504:=Nat
def tw11554577845334654944:=Nat
def tw16876388244291471449:=Nat
def tw2255070818350208855:=Nat
def tw13939710434172772004:=Nat
def tw8180642319687630915:=Nat
def tw14357250423043677201:=Nat
def tw8307916423425211047:=Nat
def tw11021169983654749051:=Nat
def tw8842242086546733728:=Nat
def tw3631451686399925751:=Nat
def tw7595918107375800089:=Nat
def tw7983620794534622403:=Nat
def tw11280593580518890410:=Nat
def tw16623284786897180808:=Nat
def tw1049677702092224135:=Nat
def tw12422506848607574023:=Nat
def tw13661910160620178254:=Nat
def tw14197385198034614917:=Nat
def tw10422659497721706812:=Nat
def tw9117977305443424030:=Nat
def tw9273447031689928716:=Nat
def tw13095959674498604470:=Nat
def tw10108853252993323929:=Nat
def tw8672914048668115108:=Nat
def tw7158679793421325962:=Nat
def tw1078264062753220898:=Nat
def tw9040399994472044160:=Nat
def tw17359420414787606510:=Nat
def tw815133324936235088:=Nat
def tw18289850141423370613:=Nat
def tw14342826805086101653:=Nat
def tw12840043810495398415:=Nat
def tw10720159000381404871:=Nat
def tw10675876447389035698:=Nat
def tw2635485185317354898:=Nat
def tw4113567222576991741:=Nat
def tw6778423287299897521:=Nat
def tw14839069509880899097:=Nat
def tw525043111100208383:=Nat
def tw2634627082183379980:=Nat
def tw2424858280840162571:=Nat
def tw1086886108063668748:=Nat
def tw13428560407027191587:=Nat
def tw2988182638465765243:=Nat
def tw12677698550563766947:=Nat
def tw14280456402328676239:=Nat
def tw4252169977663045275:=Nat
def tw437661370216980775:=Nat
def tw15542368947824259742:=Nat
def tw9198302849802859919:=Nat
def tw14360038955052803350:=Nat
def tw7688876020145314006:=Nat
def tw17494897889085838144:=Nat
def tw13090018673045822209:=Nat
def tw5550559050673118243:=Nat
def tw6353254623150603234:=Nat
def tw9632768900659266674:=Nat
def tw11533403804051133413:=Nat
def tw15431962757373584093:=Nat
def tw4034697954270091334:=Nat
def tw17195531862341392116:=Nat
def tw13595538524115326196:=Nat
def tw710084333762179822:=Nat
def tw25714182332935597:=Nat
def tw3040940663985110811:=Nat
def tw2431308672514927049:=Nat
def tw10421081027980098981:=Nat
def tw12657155671721162735:=Nat
def tw264592025436330420:=Nat
def tw825713712335508267:=Nat
def tw3637240009561124700:=Nat
def tw11441922314783714853:=Nat
def tw13390131902254932412:=Nat
def tw6074935421333290398:=Nat
def tw11478883564062233487:=Nat
def tw16063330948861200429:=Nat
def tw6829677985407012876:=Nat
def tw2190832414121937539:=Nat
def tw16089669840786573830:=Nat
def tw9038543430511686332:=Nat
def tw3727183780421138074:=Nat
def tw1432677762727815121:=Nat
def tw15917118341248380725:=Nat
def tw12112199247579278788:=Nat
def tw5756500795165123412:=Nat
def tw11740591537306788777:=Nat
def tw10652496796405458254:=Nat
def tw4687583228250210581:=Nat
def tw1533420892857895924:=Nat
def tw14542963984834834755:=Nat
def tw11979894598924081327:=Nat
def tw7825121665987498325:=Nat
def tw13706504629273073746:=Nat
def tw8288713501649452219:=Nat
def tw17162029524616512600:=Nat
def tw9783833925789265718:=Nat
def tw15176818743843390414:=Nat
def tw17087085759439457178:=Nat
def tw13726500342868012230:=Nat
def tw10302621666302175134:=Nat
def tw7661124664660169420:=Nat
def tw9583710279929945100:=Nat
def tw2828895907490755277:=Nat
def tw16407539111756040464:=Nat
def tw7324900309429310158:=Nat
def tw3908674604942035567:=Nat
def tw7388103648144399865:=Nat
def tw9976696007453682198:=Nat
def tw5215423976631519016:=Nat
def tw15288882583462928092:=Nat
def tw1021774980023125637:=Nat
def tw14280118911513131097:=Nat
def tw10239742243089248823:=Nat
def tw5749822713490787765:=Nat
def tw16883935059547546438:=Nat
def tw12787416064084790946:=Nat
def tw13794703431073271010:=Nat
def tw3108001200799334839:=Nat
def tw6570793027052268767:=Nat
def tw9588654323068828985:=Nat
def tw13125699825347799964:=Nat
def tw8320167929858848160:=Nat
def tw16299274041196205348:=Nat
def tw17331592793132979815:=Nat
def tw6629317497833710499:=Nat
def tw16482249162409307618:=Nat
def tw3659202726145647038:=Nat
def tw223020342826236049:=Nat
def tw10919213382008802642:=Nat
def tw16472995892076702979:=Nat
def tw17110719038900629267:=Nat
def tw9171257173080200195:=Nat
def tw5970931060681725881:=Nat
def tw11845364247001900786:=Nat
def tw6901621560349333921:=Nat
def tw10040951426872325416:=Nat
def tw15051894152318310387:=Nat
def tw12247958966168317658:=Nat
def tw16202941453437235700:=Nat
def tw12491400504398673448:=Nat
def tw10503728366213045885:=Nat
def tw14626877548011625479:=Nat
def tw13250038802303427271:=Nat
def tw3003614202995277381:=Nat
def tw1773446722685898234:=Nat
def tw12661283497061715982:=Nat
def tw9406635394391927232:=Nat
def tw13415319108594956922:=Nat
def tw1707193124094702881:=Nat
def tw8576733825917262282:=Nat
def tw3184456312969305896:=Nat
def tw14922255781166224575:=Nat
def tw15566128888476863274:=Nat
def tw4397230756852066108:=Nat
def tw5373727898828075943:=Nat
def tw15860415500351814310:=Nat
def tw8184217593709550133:=Nat
def tw17390113899876038420:=Nat
def tw12536934595922781087:=Nat
def tw14590464450496979763:=Nat
def tw688006588494323361:=Nat
def tw12034156829403800210:=Nat
def tw3665698009234882608:=Nat
def tw6293074014429588393:=Nat
def tw8665515377338864777:=Nat
def tw5737496762297978276:=Nat
def tw10943175620116466587:=Nat
def tw2698250873602837235:=Nat
def tw4359108427019273005:=Nat
def tw5066861505840958257:=Nat
def tw7275719164279881616:=Nat
def tw15364807989981055286:=Nat
def tw8187879454963655453:=Nat
def tw14520356037116577526:=Nat
def tw11153163099397063134:=Nat
def tw7425666227468902087:=Nat
def tw2120940846759571136:=Nat
def tw7014984099407345754:=Nat
def tw10242824634418234180:=Nat
def tw3834347833418582082:=Nat
def tw11375644557308714179:=Nat
def tw2129803508253545081:=Nat
def tw9464755943480301143:=Nat
def tw6566734681043465170:=Nat
def tw4160957199739030807:=Nat
def tw11225644864894532778:=Nat
def tw11066135840415082850:=Nat
def tw8191166110686656465:=Nat
def tw6102981337759272168:=Nat
def tw10179927207188555476:=Nat
def tw9601638326077403063:=Nat
def tw11278540809887641054:=Nat
def tw4367470100209106741:=Nat
def tw12121456531962156082:=Nat
def tw6166844145989113893:=Nat
def tw15174976979364239973:=Nat
def tw16569481276329842283:=Nat
def tw11702429247099084130:=Nat
def tw3592331191567302814:=Nat
def tw3348758455366040646:=Nat
def tw8844799790833043192:=Nat
def tw529416409370851517:=Nat
def tw10433782865210580322:=Nat
def tw15534880838116193308:=Nat
def tw14658151344857724409:=Nat
def tw1929658591477328998:=Nat
def tw11502729321313337934:=Nat
def tw18146259695880446831:=Nat
def tw5957558708406316473:=Nat
def tw6821380412433359781:=Nat
def tw3683353869349811653:=Nat
def tw1036224115224625863:=Nat
def tw13178087679007473773:=Nat
def tw6400635766763508442:=Nat
def tw11492188256362873283:=Nat
def tw11713697483465610776:=Nat
def tw5255449623325802444:=Nat
def tw12539950750798083837:=Nat
def tw13904477665850904446:=Nat
def tw8890824421625207450:=Nat
def tw9627704582884565749:=Nat
def tw7372418160837969028:=Nat
def tw18047528565089203365:=Nat
def tw7259778875397295425:=Nat
def tw10910245513254562438:=Nat
def tw6721354491018588445:=Nat
def tw4879609028805397505:=Nat
def tw13402863407280171304:=Nat
def tw3381003888376236074:=Nat
def tw3667431572505972422:=Nat
def tw13217672572725832615:=Nat
def tw6932161569418973543:=Nat
def tw9330486683603615940:=Nat
def tw5657486827043705604:=Nat
def tw9748697105472873334:=Nat
def tw16544182419410430238:=Nat
def tw7579822474644047792:=Nat
def tw13768504887227277791:=Nat
def tw17257147668252867542:=Nat
def tw785913145052555121:=Nat
def tw5430995245213183660:=Nat
def tw10442384354588392477:=Nat
def tw12118801794861043919:=Nat
def tw12188067847123089329:=Nat
def tw1804136909846565425:=Nat
def tw12963223765096683197:=Nat
def tw6782027523742734422:=Nat
def tw18405396720693702394:=Nat
end PySem.W.Fast
open_top hd0 for PySem.Challenge.rw_widewords_k32_whole_products_go_together
set_option compiler.extract_closed false
set_option bootstrap.genMatcherCode false
set_option genSizeOf false
local macro_rules | `(tactic| ac_rfl)=>`(tactic| with_unfolding_all rfl)
open Option renaming some->AA,none->AE,isSome_iff_exists->Au,bind_some->BW,getD_some->CJ,any_eq_true_iff_get->Ck,map_some->DB,get_some->Ex,getD_none->GG,join_some->GL
open Bool renaming true->AC,false->AD,and_eq_true->AL,false_ne_true->Az,false_eq_true->BR,not_eq_true'->Cb,or_eq_true->DA,true_and->D1,and_self->D4,eq_iff_iff->De,false_or->F0,true_or->Ft,or_false->Ge
open PySem.Str renaming ofString->AF,empty->GA
open PySem.W renaming Frag->AG,keepIn->As,findIn->Av,nsIn->BO,kitOne->B5,fnOf->B7,emptyDict->Bb,instObj->By,codeIn->CL,kia_one->C8,plainGet->Co,isFn->Cp,hideAll->Cz,callWith_K->DC,hasDictIn->DF,makesIn->D9,plainGet_of->Di,lookIn->Dy,methodObj->EQ,plainOver->ER,mg_of->E0,OpenLaw->Ed,cellsFrom_some->Eg,takerIn->Es,methodCall_KW->FA,hideAll_get->FQ,callWith_K0->FU,excIn->F2,of_hideAll->F7,handedIn->Fz,WalkO->G0,Rel2->Gp
open PySem renaming Value->AH,wpAny_bind->AI,Addr->AJ,Shared->AK,wpAny_pure->AQ,Str->AR,Expr->AV,wpAny->AZ,Program->A4,World->Af,Around->Ar,Heap->BB,FuncData->BC,wpAny_newObj_type->BM,wpAny_field->BN,wpAny_callSpecial?_slot->B1,Env->B2,wpAny_Call_Name_kw->B4,wpAny_truthy_bool->Ba,Scope->Bi,Stmt->Bv,Obj->CB,wpAny_call_entry->CG,DictEntry->CH,wpAny_pyIter_tuple->CO,wpAny_passesOwn->CS,Pos->CT,wpAny_mono->CU,IsPair->CV,Keyword->CW,mem_of_lookup->CY,wpAny_seqItems->CZ,wpAny_setField_rec->C5,wpAny_holding->Cv,NameKind->DG,strKind_is->DZ,Operator->D6,sizeLine_eq->D7,wpAny_execs_nil->D8,codeAny_mono->Dm,wpAny_sequenceKey->ES,slot_list_getitem->ET,IsZip->EV,wpAny_standAt->EY,wpAny_getItem_list_slice->EZ,PassesOwn->E6,noFill_tuple_add->Ea,wpAny_rule->Ee,IsPart->Eh,wpAny_typeOf->Ei,wpAny_loadName_local->FD,wpAny_setField->FF,wpAny_updateSeq_pair->FG,BindsTo->FP,wpAny_loadName_cell->FR,CmpOp->FW,seq_tuple_add->FX,evalPart_none->FY,wpAny_onRaise->F3,tupleKind_room_in1->Fa,Within->Fe,concat_meets->Fk,wpAny_pyIter_enum->Fq,wpAny_pyIter_list->Fr,ZipApart->Fv,wpAny_execs_cons->Fy,wpAny_pyIter_zip->GO,wpAny_getItem_of->GP,seqIndex_of->GS,Paired->G1,wpAny_Name->G2,Result->G3,wpAny_call->G4,typeIs_str->G6,call->G7,Sem->Gc,Builtin->Gn,BoolOp->Gr,Tok->HF
open List renaming map_cons->AM,getElem?_set_ne->AO,mem_cons_of_mem->AS,mem_cons->AU,size_toArray->AW,length_cons->A0,mem_of_getElem?->A1,getElem?_set_self->A5,map_nil->A6,length_append->A7,getElem?_cons_succ->A9,not_mem_nil->Aa,getElem?_append_left->Ac,mem_append->Ag,append_nil->Ah,mem_cons_self->Ai,append_assoc->Ak,getElem?_cons_zero->Al,getElem?_append_right->Ao,length_map->Ap,replicate->Aw,cons_append->Ay,set_cons_zero->BE,set_cons_succ->BF,mem_append_right->BH,getElem?_eq_none->BI,getElem?_eq_some_iff->BK,map_append->BL,flatMap_cons->BP,all_eq_true->BX,length_set->B6,flatMap_nil->B8,all_cons->Bc,nil_append->Be,lookup_cons->Bg,any_cons->Bk,getElem?_map->Bm,filterMap_cons->Bn,getElem?_eq_getElem->Bq,lookup->Bs,find?_cons->Bz,length_nil->CA,length->C0,range->C2,getElem?_set->Ca,reverse_cons->DJ,filterMap->DL,take_of_length_le->DM,ext_getElem?->DP,set_set->DQ,length_singleton->DU,mem_iff_getElem?->DW,nodup_cons->Da,foldl_cons->Dd,length_reverse->Dl,mem_map->Dr,mem_filterMap->Dw,zip_cons_cons->EF,getD_eq_getElem?_getD->EH,getElem?_eq_none_iff->EJ,drop_eq_getElem_cons->EM,pairwise_iff_getElem->EN,length_take->E8,getElem?_replicate->E9,any_eq_true->Ec,of_mem_zip->Et,forIn_cons->Eu,mem_range->FB,mem_append_left->FC,length_pos_iff->FV,sum_cons->F1,isEmpty_cons->Fu,length_drop->GF,isEmpty_nil->GH,take_length->GI,drop_length->GJ,zipIdx_cons->GM,mem_filter->GU,zipIdx_nil->GY,drop_zero->G9,forIn_nil->Ga,set_comm->Gd,sum_nil->Gv
open PySem.Heap renaming get?_push_of_some->AN,lt_size->AY,get?_push_size->A2,size_push->Bt,SameBut->C3,get?_update_other->DI,get?_update_self->Ey,IsTuple->Fm,MadeExcOf->G8,FlyingW->Go
open Nat renaming le_refl->AT,lt_of_lt_of_le->A3,ne_of_lt->An,pow_le_pow_right->Aq,mul_le_mul->Ax,le_trans->BZ,zero_add->Br,le_succ->Cf,lt_or_ge->Cq,lt_irrefl->Cu,reduceSub->Cy,zero_le->DD,le_add_right->DY,add_assoc->D3,reduceAdd->D5,mod_two_eq_zero_or_one->EI,ne_of_gt->Ef,succ_mul->Eo,mul_le_mul_right->FH,le_of_lt->Ff,lt_succ_self->GB,reduceEqDiff->GQ,reduceLeDiff->GR,le_of_eq->Gm,mul_add->HE
open Option.some renaming inj->AX
open Int renaming mul_comm->A8,pow_pos->Ad,emod_lt_of_pos->Aj,pow_succ->Am,emod_nonneg->BA,mul_assoc->BD,emod_add_mul_ediv->BJ,mul_le_mul_of_nonneg_right->BT,ediv_lt_of_lt_mul->BY,emod_eq_of_lt->B0,ediv_ediv_of_nonneg->B3,ediv_nonneg->Bo,add_mul->Bu,toNat_natCast->Bw,ediv_eq_zero_of_lt->CF,mul_nonneg->CQ,pow_mul->C1,pow_zero->C6,add_zero->C7,add_mul_emod_self_right->Cc,mul_one->Cd,one_mul->Cj,sub_mul->Cm,mul_add->Cn,zero_mul->DR,add_mul_ediv_right->DS,ediv_one->Dn,add_comm->Dq,fdiv_eq_ediv_of_nonneg->Dx,mul_left_comm->EW,le_of_lt->Ep,natAbs_mul->FI,mul_le_mul->FJ,pow_add->FK,pow_lt_pow_of_lt->FL,mul_right_comm->Fc,lt_of_le_of_lt->Fd,add_assoc->Gf,zero_add->Gw,mul_emod->Gx,le_refl->HD
open PyProof.Rows renaming slot_tuple_getitem->Ab,callWith_type1->CD,AllBare->D0,entry_tuple_getitem->Dj,assignInOrder_cons->Dv,slicePart_none->EA,args_tuple_getitem->EB,tupleItemsOf_->EL,IntsAre->Ej,subscriptTail_builtinR->Ek,Subscript_->F8,assignInOrder_nil->Fg,callWith_builtin1->GE,boot_isinstance->GX,iadd_int->GZ,tail_any->G5,IsTup->Gg,bitAnd_m1->Gu
open PySem.Value renaming ref->Ae,none->CK,bool->Ds,int->E1,type->F6,str->Fx,isStrOf->Gb,isInt->Gy,bytes->Gz,float->HA
open Ne renaming symm->BG
open PySem.Builtin.Tuple renaming tupleExact->BQ,tupleItemsOf->Cg
open PySem.Builtin renaming bitAnd->BS,bitOr->Bj,bitXor->Bl
open PySem.Builtin.Slice renaming slicePlaces->BU,sliceApplied->CM,sliceAdjust->Cr,sliceFields->EK,slicePartIndex->GV
open PySem.Builtin.SmallTypes renaming nextOf->BV,ownedTupleIsFree->Bd,ownedTupleHandOut->Ct
open PySem.PyData renaming eqv->B9,canLay0->Ci,depth->DO,eqvAll->D2,keyHash->EG,canLayAll0->EU,depthAll->Ew
open False renaming elim->Bf
open PySem.Challenge renaming rw_widewords_k32_whole_products_go_together->Bp,pw_widewords_k32_whole_products_go_together->DX
open Array renaming length_toList->CC,append_assoc->Dt,getElem?_eq_some_iff->ED,toList->Gk
open PySem.F renaming slot_tuple_iterator_next->CN,args_tuple_add_2->Cw,entry_tuple_add->DE,slot_tuple_add->DH,slot_dict_get->DV,args_tuple_iterator_next_1->Db,slot_zip_next->Dh,entry_tuple_iterator_next->Do,slot_dict_getitem->EO,args_dict_get_3->Eb,entry_dict_get->En,slot_list_append->Ez,args_zip_next_1->Fw,entry_zip_next->GN
open PySem.Heap.FunFrames renaming mem->CP
open True renaming intro->C4
open PySem.NameKind renaming free->C9,cell->FZ
open PySem.Value.type renaming inj->Ch
open Eq renaming refl->DN
open PySem.Builtin.Str renaming strSliceIndices->Dp,occurrences->E7
open PySem.Calls renaming Name_function_global->Du,spliced_cons->Dz,callWith_builtin->Em,evalArgs_plain->FE,spliced_nil->Fj
open PySem.Heap.IsSliceOf renaming new->EC
open PySem.Paired renaming length->EX,snoc->HC
open PySem.Obj renaming mapSeq->El,data_mapFields->F9
open Sum renaming inl->FM,inr->FN
open PyProof.Rows.IsTup renaming new->FO
open PySem.Heap.SameBut renaming update->FT
open PySem.SeqAt.EqAt renaming int_str->F4,str_int->F5
open PySem.ScopeKind renaming function->Fb
open PySem.Around renaming under->Fh
open PySem.Code renaming isFrame->Fi,frames->HB
open PySem.WalksT renaming enumerateD->Fp
open PySem.Shared renaming heap->GT
open ForInStep renaming yield->GW
open PySem.Builtin.Range renaming rangeSize->Gh
open PySem.Heap.UpToSlots renaming of_keeps->Gi
open And renaming intro->Gj
open PySem.SeqAt renaming shaped->Gq,EqAt->HH
open PySem.W.Looks renaming here->HG
open PySem.W.WShape renaming has->HI
open PySem.Within renaming cons->HJ
open List.Pairwise renaming nil->HK
open PySem.W.WData renaming int->HL
noncomputable section
namespace L2
open PySem PySem.Spec PyProof.Rows
abbrev Key:=Sum Int AR
def ybX:Key->AH->Bool
 | .inl k,v=>Gy k v
 | .inr x,v=>Gb x v
def yfY (w:Af):Key->Int
 | .inl k=>hashInt k
 | .inr x=>hashStr w x
theorem zC:∀{k:Key} {v:AH},ybX k v=AC->(∃i t,k=FM i/\v=E1 i t) \/ (∃x t,k=FN x/\v=Fx x t)
 | .inl i,v,h=>by
  obtain⟨t,e⟩:=Value.isInt_shape (k:=i) (v:=v) h
  exact .inl ⟨i,t,rfl,e⟩
 | .inr x,v,h=>by
  obtain⟨t,e⟩:=Value.isStrOf_shape (x:=x) (v:=v) h
  exact .inr ⟨x,t,rfl,e⟩
theorem zgB (i:Int)(t:HF):ybX (.inl i) (.int i t)=true:=by simp[ybX,Gy]
theorem zhr (x:AR)(t:HF):ybX (.inr x) (.str x t)=true:=by simp[ybX,Gb]
theorem zmD (a b:Int):decide ((FM a:Key)=FM b)=(a == b):=by
 by_cases e:a=b
 .subst e;simp
 .have h:¬(FM a:Key)=FM b:=λq=>e (Sum.inl.inj q)
  rw[decide_eq_false h]
  exact(beq_eq_false_iff_ne.mpr e).symm
theorem zod (a b:AR):decide ((FN a:Key)=FN b)=decide (a=b):=by
 by_cases e:a=b
 .subst e;simp
 .have h:¬(FN a:Key)=FN b:=λq=>e (Sum.inr.inj q)
  rw[decide_eq_false h,decide_eq_false e]
theorem znZ (a:Int)(b:AR):decide ((FM a:Key)=FN b)=false:=decide_eq_false (λq=>nomatch q)
theorem znj (a:AR)(b:Int):decide ((FN a:Key)=FM b)=false:=decide_eq_false (λq=>nomatch q)
def yV (prog:A4)(w:Af):PySem.KeyKind prog w Key where
 is:=ybX
 hash:=yfY w
 inj:=λv a b ha hb=>by
  rcases zC ha with⟨i,t,rfl,rfl⟩|⟨x,t,rfl,rfl⟩
  .rcases zC hb with⟨j,u,rfl,e⟩|⟨y,u,rfl,e⟩
   .injection e with e1 _;rw[e1]
   .exact nomatch e
  .rcases zC hb with⟨j,u,rfl,e⟩|⟨y,u,rfl,e⟩
   .exact nomatch e
   .injection e with e1 _;rw[e1]
 byValue:=λk v h=>by
  rcases zC h with⟨i,t,rfl,rfl⟩|⟨x,t,rfl,rfl⟩ <;> rfl
 pyHash:=λhv h=>by
  rcases zC hv with⟨i,t,rfl,rfl⟩|⟨x,t,rfl,rfl⟩
  .exact wpAny_pyHash_int h
  .exact wpAny_pyHash_str h
 eqBool:=λhu hv h=>by
  rcases zC hu with⟨i,t,rfl,rfl⟩|⟨x,t,rfl,rfl⟩
  .rcases zC hv with⟨j,u,rfl,rfl⟩|⟨y,u,rfl,rfl⟩
   .rw[zmD]at h;exact wpAny_eqBool_int h
   .rw[znZ]at h;exact F4 i t y u _ _ _ _ h
  .rcases zC hv with⟨j,u,rfl,rfl⟩|⟨y,u,rfl,rfl⟩
   .rw[znj]at h;exact F5 x t j u _ _ _ _ h
   .rw[zod]at h;exact wpAny_eqBool_str h
 «strs»:=λk x t v h=>by
  rcases zC h with⟨i,u,rfl,e⟩|⟨y,u,rfl,e⟩
  .exact nomatch e
  .injection e with e1 _
   subst e1
   cases v <;> rfl
theorem zfp (prog:A4)(w:Af)(i:Int)(t:HF):(yV prog w).is (.inl i) (.int i t)=true:=zgB i t
theorem zfe (prog:A4)(w:Af)(x:AR)(t:HF):(yV prog w).is (.inr x) (.str x t)=true:=zhr x t
inductive V where
 | non|bl (b:Bool)|int (i:Int)|str (x:AR)|byt (b:Array UInt8)|flt (b:UInt64)|ref (a:AJ)|ty (n:String)
 deriving DecidableEq
def RelV:V->AH->Prop
 | .non,u=>u=CK
 | .bl b,u=>u=Ds b
 | .int i,u=>∃t,u=E1 i t
 | .str x,u=>∃t,u=Fx x t
 | .byt b,u=>∃t,u=Gz b t
 | .flt b,u=>∃t,u=HA b t
 | .ref a,u=>u=Ae a
 | .ty n,u=>u=F6 n
abbrev Vals:List V->List AH->Prop:=G1 RelV
theorem Vals.length {xs:List V}{us:List AH}(r:Vals xs us):xs.length=us.length:=EX r
theorem Vals.get:∀{xs:List V} {us:List AH} {i:Nat} {x:V},Vals xs us->xs[i]?=AA x->∃u,us[i]?=AA u/\RelV x u
 |_,_,_,_,.nil,e=>by simp at e
 |_,_,0,_,.cons r _,e=>by simp at e;subst e;exact⟨_,rfl,r⟩
 |_,_,i+1,x,.cons _ t,e=>by
  obtain⟨u,h1,h2⟩:=Vals.get (i:=i) (x:=x) t (by simpa using e)
  exact⟨u,by simpa using h1,h2⟩
theorem Vals.set {x:V}{u:AH}(r:RelV x u):∀{xs:List V} {us:List AH} (i:Nat),Vals xs us->Vals (xs.set i x) (us.set i u)
 |_,_,_,.nil=>.nil
 |_,_,0,.cons _ t=>.cons r t
 |_,_,i+1,.cons q t=>.cons q (Vals.set r i t)
theorem Vals.append:∀{xs ys:List V} {us ws:List AH},Vals xs us->Vals ys ws->Vals (xs++ys) (us++ws)
 |_,_,_,_,.nil,s=>s
 |_,_,_,_,.cons r t,s=>.cons r (Vals.append t s)
theorem Vals.take:∀{xs:List V} {us:List AH} (n:Nat),Vals xs us->Vals (xs.take n) (us.take n)
 |_,_,0,_=>.nil
 |_,_,_+1,.nil=>.nil
 |_,_,n+1,.cons r t=>.cons r (Vals.take n t)
theorem Vals.drop:∀{xs:List V} {us:List AH} (n:Nat),Vals xs us->Vals (xs.drop n) (us.drop n)
 |_,_,0,r=>r
 |_,_,_+1,.nil=>.nil
 |_,_,n+1,.cons _ t=>Vals.drop n t
theorem Vals.none_of:∀{xs:List V} {us:List AH} {i:Nat},Vals xs us->xs[i]?=AE->us[i]?=none:=λ{xs us i} r e=>by
 have h1:=r.length
 have h2:xs.length<=i:=EJ.mp e
 exact EJ.mpr (by omega)
def ybv:Option V->Option AH->Prop
 |some v,AA u=>RelV v u
 |none,AE=>True
 |_,_=>False
def KV {κ:Type}:List (κ×V)->List (κ×AH)->Prop:=G1 λ(p:κ×V) (q:κ×AH)=>p.1=q.1/\RelV p.2 q.2
def kV:Key->V
 | .inl i=>.int i
 | .inr x=>.str x
inductive HO where
 | lst (xs:List V)
 | tup (xs:List V)
 | dK (kvs:List (Key×V))|dT (kvs:List (List Key×V))
 | set (S:Int->Bool) (n:Nat)
 | ins (C dx:AJ) (fs:List (AR×V))
 | own (x:AJ)
 | xd (fs:List (AR×V))
 | met (f x:AJ)
 | rng (lo hi:Int)
 | frz (o:CB) (u:HO)
 | tbl (ps:Array AH)
 | ext (φ:BB->Prop)
abbrev Hp:=AJ->Option HO
def upd (H:Hp)(a:AJ)(o:HO):Hp:=λb=>if b=a then AA o else H b
theorem zp {H:Hp}{a:AJ}{o:HO}:upd H a o a=AA o:=by unfold upd;rw[if_pos rfl]
theorem zj {H:Hp}{a b:AJ}{o:HO}(h:b≠a):upd H a o b=H b:=by unfold upd;rw[if_neg h]
theorem zoR {H:Hp}{a b:AJ}{o u:HO}(h:H a=AA o)(h':H b=AA u)(d:o≠u):a≠b:=by
 intro e;subst e;rw[h]at h';exact d (AX h')
theorem zl {H:Hp}{a b:AJ}{o:HO}(h:H a=AA o)(h':H b=AE):a≠b:=by
 intro e;subst e;rw[h]at h';cases h'
section
variable (P:A4)(w:Af)
def yZ (H:Hp)(h:BB)(a:AJ):HO->Prop
 | .lst xs=>xs.length<=sizeLine/\∃(its:List AH) (n:Nat),Vals xs its/\h.get? a=AA { cls:=.type "list",data:=.seq its.toArray n }
 | .tup xs=>xs.length<=sizeLine/\∃its:List AH,Vals xs its/\Gg h a its.toArray
 | .dK kvs=>kvs.length<=sizeLine/\(a == sysModules)=AD/\∃vs,KV kvs vs/\h.DictOf (yV P w) a vs
 | .dT kvs=>kvs.length<=sizeLine/\(a == sysModules)=AD/\∃xs:List (List Key×AJ×AH),
   G1 (λ(p:List Key×V) (q:List Key×AJ×AH)=>p.1=q.1/\H q.2.1=AA (.tup (p.1.map kV))/\RelV p.2 q.2.2) kvs xs /\
   ∃o es ep,h.get? a=AA o/\o.ExactDict/\o.data=.dict es ep/\es.toList=xs.map (entryOfKey (tupleKind (yV P w)))/\(xs.map (·.1)).Nodup
 | .set S n=>h.SetOf (intKind P w) a S n
 | .ins C dx fs=>H dx=AA (.own a)/\fs.length<=1000/\dx≠a/\h.get? a=AA (By C dx) /\
   ∃mA,h.Ns1 dx mA/\(∀f,ybv (fs.lookup f) (mA f))/\Fe mA (fs.map (·.1))
 | .own _=>∃o,h.get? a=AA o
 | .xd fs=>∃mA,h.Ns1 a mA/\∀f,ybv (fs.lookup f) (mA f)
 | .rng lo hi=>∃t u v,h.get? a=AA { cls:=.type "range",data:=.fields #[.int lo t,.int hi u,.int 1 v] }
 | .frz o u=>h.get? a=AA o/\yZ H h a u
 | .tbl ps=>h.get? a=AA { cls:=.none,data:=.fields ps }
 | .met f x=>h.get? a=AA (EQ (.ref f) (.ref x))
 | .ext φ=>φ h/\(∃o,h.get? a=AA o)/\∀h1 h2:BB,φ h1->(∀o,h1.get? a=AA o->h2.get? a=AA o)->φ h2
def HOk (H:Hp)(h:BB):Prop:=∀a o,H a=AA o->yZ P w H h a o
end
section
variable {P:A4}{w:Af}{H H':Hp}{h h':BB}{a:AJ}{o:HO}
theorem yZ.lt (x:yZ P w H h a o):a<h.objs.size:=by
 cases o with
 |lst xs=>obtain⟨_,_,_,_,e⟩:=x;exact AY e
 |tup xs=>obtain⟨_,_,_,p⟩:=x;exact p.lt
 |dK kvs=>obtain⟨_,_,_,_,o,_,_,e,_⟩:=x;exact AY e
 |dT kvs=>obtain⟨_,_,_,_,o,_,_,e,_⟩:=x;exact AY e
 |set S n=>obtain⟨o,_,_,_,e,_⟩:=x;exact AY e
 |ins C dx fs=>obtain⟨_,_,_,e,_⟩:=x;exact AY e
 |own y=>obtain⟨_,e⟩:=x;exact AY e
 |xd fs=>obtain⟨_,⟨_,_,_,e,_⟩,_⟩:=x;exact AY e
 |rng lo hi=>obtain⟨_,_,_,e⟩:=x;exact AY e
 |frz ob u=>obtain⟨e,_⟩:=x;exact AY e
 |tbl ps=>exact AY (show h.get? a=AA _ from x)
 |met f y=>exact AY (show h.get? a=AA _ from x)
 |ext φ=>obtain⟨_,⟨_,e⟩,_⟩:=x;exact AY e
theorem Paired.mapP {α β:Type}{F G:α->β->Prop}:∀{l₁:List α} {l₂:List β},G1 F l₁ l₂->(∀a b,F a b->G a b)->G1 G l₁ l₂
 |_,_,.nil,_=>.nil
 |_,_,.cons r t,f=>.cons (f _ _ r) (Paired.mapP t f)
theorem yZ.stay (x:yZ P w H h a o)(k:∀b u,(b=a \/ H b=AA (.own a))->h.get? b=AA u->h'.get? b=AA u)
  (ho:∀b,H b=AA (.own a)->H' b=AA (.own a)) (ht:∀b xs,H b=AA (.tup xs)->H' b=AA (.tup xs)):yZ P w H' h' a o:=by
 induction o with
 |lst xs=>obtain⟨z,its,n,r,e⟩:=x;exact⟨z,its,n,r,k _ _ (.inl rfl) e⟩
 |tup xs=>obtain⟨z,its,r,ob,e,c⟩:=x;exact⟨z,its,r,ob,k _ _ (.inl rfl) e,c⟩
 |dK kvs=>obtain⟨z,y,vs,r,ob,es,ep,e,c⟩:=x;exact⟨z,y,vs,r,ob,es,ep,k _ _ (.inl rfl) e,c⟩
 |dT kvs =>
  obtain⟨z,y,xs,r,ob,es,ep,e,c⟩:=x
  exact⟨z,y,xs,Paired.mapP r λp q z=>⟨z.1,ht _ _ z.2.1,z.2.2⟩,ob,es,ep,k _ _ (.inl rfl) e,c⟩
 |set S n=>obtain⟨ob,es,ep,t,e,c⟩:=x;exact⟨ob,es,ep,t,k _ _ (.inl rfl) e,c⟩
 |ins C dx fs =>
  obtain⟨d,z,ne,e,mA,⟨od,es,ep,e2,c⟩,r⟩:=x
  exact⟨ho _ d,z,ne,k _ _ (.inl rfl) e,mA,⟨od,es,ep,k _ _ (.inr d) e2,c⟩,r⟩
 |own y=>obtain⟨ob,e⟩:=x;exact⟨ob,k _ _ (.inl rfl) e⟩
 |xd fs=>obtain⟨mA,⟨od,es,ep,e,c⟩,r⟩:=x;exact⟨mA,⟨od,es,ep,k _ _ (.inl rfl) e,c⟩,r⟩
 |rng lo hi=>obtain⟨t,u,v,e⟩:=x;exact⟨t,u,v,k _ _ (.inl rfl) e⟩
 |frz ob u ih=>obtain⟨e,q⟩:=x;exact⟨k _ _ (.inl rfl) e,ih q⟩
 |tbl ps =>
  have e:h.get? a=AA { cls:=.none,data:=.fields ps }:=x
  show h'.get? a=AA { cls:=.none,data:=.fields ps }
  exact k a _ (.inl rfl) e
 |met f y =>
  have e:h.get? a=AA (EQ (.ref f) (.ref y)):=x
  show h'.get? a=AA (EQ (.ref f) (.ref y))
  exact k a _ (.inl rfl) e
 |ext φ=>obtain⟨p,⟨o,e⟩,st⟩:=x;exact⟨st _ _ p λo q=>k _ _ (.inl rfl) q,⟨o,k _ _ (.inl rfl) e⟩,st⟩
theorem HOk.lt (x:HOk P w H h)(e:H a=AA o):a<h.objs.size:=(x a o e).lt
theorem HOk.fresh (x:HOk P w H h)(e:h.objs.size<=a):H a=none:=by
 cases q:H a with
 |none=>rfl
 |some u=>exact absurd (A3 (x.lt q) e) (Cu _)
theorem HOk.kept (x:HOk P w H h)(k:∀b u,h.get? b=AA u->h'.get? b=AA u):HOk P w H h':=λa o e =>
 (x a o e).stay (λb u _ q=>k b u q) (λ_ q=>q) λ_ _ q=>q
theorem HOk.laid (x:HOk P w H h)(k:∀b u,h.get? b=AA u->h'.get? b=AA u)(hp:h.objs.size<=a)(new:yZ P w (upd H a o) h' a o):HOk P w (upd H a o) h':=λb u e=>by
 have hn:=x.fresh hp
 by_cases hb:b=a
 .subst hb;rw[zp]at e;cases e;exact new
 .rw[zj hb]at e
  exact(x b u e).stay (λc v _ q=>k c v q) (λc q=>by rw[zj (zl q hn)];exact q) λc xs q=>by rw[zj (zl q hn)];exact q
end
def Rd (H:Hp)(a:AJ)(u:HO):Prop:=H a=AA u \/ ∃o,H a=AA (.frz o u)
theorem Rd.of {H:Hp}{a:AJ}{u:HO}(h:H a=AA u):Rd H a u:=.inl h
theorem Rd.ok {P:A4}{w:Af}{H:Hp}{h:BB}{a:AJ}{u:HO}(r:Rd H a u)(x:HOk P w H h):yZ P w H h a u:=by
 rcases r with r|⟨o,r⟩
 .exact x a u r
 .obtain⟨_,q⟩:=x a _ r
  exact q
def Mut:Option HO->Prop
 |some (.lst _)=>True
 |some (.dK _)=>True
 |some (.dT _)=>True
 |some (.set _ _)=>True
 |some (.ins _ _ _)=>True
 |some (.ext _)=>True
 |_=>False
section
variable {P:A4}{w:Af}{H:Hp}{h h':BB}{x e:AJ}{o':HO}
theorem HOk.write (ok:HOk P w H h)(mu:Mut (H x))(he:e=x \/ H e=AA (.own x))(k:∀b u,b≠e->h.get? b=AA u->h'.get? b=AA u)(heo:∃u,h'.get? e=AA u)
  (new:yZ P w (upd H x o') h' x o'):HOk P w (upd H x o') h':=λb u q=>by
 have nown:∀c y,H c=AA (.own y)->c≠x:=λc y r z=>by subst z;rw[r]at mu;exact mu
 have ntup:∀c xs,H c=AA (.tup xs)->c≠x:=λc xs r z=>by subst z;rw[r]at mu;exact mu
 by_cases hb:b=x
 .subst hb;rw[zp]at q;cases q;exact new
 .rw[zj hb]at q
  by_cases hbe:b=e
  .have q':H b=AA (.own x):=by
    rcases he with z|z
    .exact absurd (hbe.trans z) hb
    .rw[hbe];exact z
   rw[q]at q';cases q'
   obtain⟨v,hv⟩:=heo
   exact⟨v,by rw[hbe];exact hv⟩
  .refine(ok b u q).stay (λc v hc r=>k c v ?_ r) (λc r=>by rw[zj (nown c b r)];exact r) λc xs r=>by rw[zj (ntup c xs r)];exact r
   rcases hc with rfl|hc
   .exact hbe
   .rintro rfl
    rcases he with z|z
    .exact nown c b hc z
    .rw[hc]at z;cases z;exact hb rfl
end
structure Un (fs ex:List AJ)(H H':Hp)(h h':BB):Prop where
 keep:∀b o,h.get? b=AA o->H b=AE->b∉fs->b∉ex->h'.get? b=AA o
 slot:∀b o,h.get? b=AA o->H b=AE->b∈fs->b∉ex->∃sl,h'.get? b=AA { o with slots:=sl }
 free:∀b o,h.get? b=AA o->H b=AE->b∉ex->H' b=AE
 there:∀b o,h.get? b=AA o->b∉ex->∃o',h'.get? b=AA o'
 tups:∀b xs,H b=AA (.tup xs)->H' b=AA (.tup xs)
 frzs:∀b o u,H b=AA (.frz o u)->H' b=AA (.frz o u)
 tbls:∀b ps,H b=AA (.tbl ps)->∃more,H' b=AA (.tbl (ps++more))
section
variable {fs fs' ex ex':List AJ}{H H1 H2:Hp}{h h1 h2 h':BB}{a x e:AJ}{o:HO}
theorem Un.any (u:Un fs ex H H1 h h1){b:AJ}{ob:CB}(q:h.get? b=AA ob)(n:H b=AE)(hx:b∉ex):∃sl,h1.get? b=AA { ob with slots:=sl }:=by
 by_cases hb:b∈fs
 .exact u.slot b ob q n hb hx
 .exact⟨ob.slots,u.keep b ob q n hb hx⟩
theorem Un.kept (k:∀b u,h.get? b=AA u->h'.get? b=AA u):Un fs ex H H h h' :=
 ⟨λb ob q _ _ _=>k b ob q,λb ob q _ _ _=>⟨ob.slots,k b ob q⟩,λ_ _ _ n _=>n,λb ob q _=>⟨ob,k b ob q⟩,λ_ _ q=>q,λ_ _ _ q=>q,λ_ ps q=>⟨#[],by rw[q];simp⟩⟩
theorem Un.refl:Un fs ex H H h h:=Un.kept λ_ _ q=>q
theorem Un.laid (k:∀b u,h.get? b=AA u->h'.get? b=AA u)(hp:h.objs.size<=a)(hn:H a=AE):Un fs ex H (upd H a o) h h' where
 keep:=λb u q _ _ _=>k b u q
 slot:=λb u q _ _ _=>⟨u.slots,k b u q⟩
 free:=λb u q n _=>by rw[zj (An (A3 (AY q) hp))];exact n
 there:=λb u q _=>⟨u,k b u q⟩
 tups:=λb xs q=>by rw[zj (zl q hn)];exact q
 frzs:=λb u xs q=>by rw[zj (zl q hn)];exact q
 tbls:=λb ps q=>⟨#[],by rw[zj (zl q hn),q];simp⟩
theorem Un.write (mu:Mut (H x))(he:e=x \/ H e=AA (.own x))(k:∀b u,b≠e->h.get? b=AA u->h'.get? b=AA u)(heo:∃u,h'.get? e=AA u):Un fs ex H (upd H x o) h h':=by
 have hx:∀b,H b=AE->b≠x:=λb n z=>by subst z;rw[n]at mu;exact mu
 have hb:∀b,H b=AE->b≠e:=λb n z=>by
  subst z
  rcases he with r|r
  .exact hx b n r
  .rw[n]at r;cases r
 have hm:∀b u,H b=AA u->¬Mut (AA u)->b≠x:=λb u q nm z=>by subst z;rw[q]at mu;exact nm mu
 refine⟨λb u q n _ _=>k b u (hb b n) q,λb u q n _ _=>⟨u.slots,k b u (hb b n) q⟩,λb u q n _=>by rw[zj (hx b n)];exact n,λb u q _=>?_,
  λb xs q=>by rw[zj (hm b _ q λz=>z)];exact q,λb u xs q=>by rw[zj (hm b _ q λz=>z)];exact q,λb ps q=>⟨#[],by rw[zj (hm b _ q λz=>z),q];simp⟩⟩
 by_cases hbe:b=e
 .subst hbe;exact heo
 .exact⟨u,k b u hbe q⟩
end
def trk (h:BB)(H:Hp):List Addr:=(C2 h.objs.size).filter λa=>(H a).isSome
def yck (h:BB)(H:Hp):Heap:=Cz h (trk h H)
theorem zgH (h:BB)(H:Hp):(yck h H).objs.size=h.objs.size:=PySem.W.hideAll_size _ _
theorem zi2 {h:BB}{H:Hp}{b:AJ}{o:CB}(e:h.get? b=AA o)(n:H b=AE):(yck h H).get? b=AA o :=
 FQ _ e λhm=>by
  have q:(H b).isSome=true:=(GU.mp hm).2
  rw[n]at q;simp at q
theorem zlW {h:BB}{H:Hp}{b:AJ}{o:CB}(e:(yck h H).get? b=AA o):h.get? b=AA o/\H b=none:=by
 have e':h.get? b=AA o:=F7 (trk h H) e
 refine⟨e',?_⟩
 cases q:H b with
 |none=>rfl
 |some x =>
  have hm:b∈trk h H:=GU.mpr ⟨FB.mpr (AY e'),by simp[q]⟩
  have z:(yck h H).get? b=none:=PySem.W.hideAll_none (trk h H) hm
  rw[z]at e;cases e
structure Mod (K:AG)(mg:AR->Option AH)(base:BB):Prop where
 kin:K.In base
 glob:base.Ns mainGlobals mg
 blt:∃mb,base.Ns builtinsNs mb/\∀x:AR,x ≠ "__name__"->mb x=bootBuiltins x
 nolimit:base.NoLimit
structure Cx where
 prog:A4
 w:Af
 K:AG
 mg:AR->Option AH
 base:BB
 A:Ar
 N:List AR
 s₀:AK
 H₀:Hp
 env:Env
 outer:List Env
 stack:List Env
 ex:List AJ
 fn:AR->Bool
 calm:Bool
 pn:List (AJ×CB)
 xe:AH->AK->Prop
def frs (l:List Env):List Addr:=l.filterMap (·.frame)
abbrev Cx.fs (X:Cx):List Addr:=frs X.outer
def Vis (sc:Bi)(x:AR):Prop:=sc.names.lookup x=AA .local \/ sc.names.lookup x=AA .cell \/ sc.names.lookup x=AA .free
def Loc (sc:Bi)(x:AR):Prop:=sc.names.lookup x=AA .local \/ sc.names.lookup x=AA .cell
def Look (env:Env)(h:BB)(m:AR->Option AH)(x:AR)(u:AH):Prop :=
 (env.kindOf x=AA .local/\m x=AA u) \/ ((env.kindOf x=AA .cell \/ env.kindOf x=AA .free)/\∃c,env.cells.lookup x=AA c/\h.IsCell c (AA u))
structure Cx.Ok (X:Cx):Prop where
 mod:Mod X.K X.mg X.base
 kind:X.env.scope.kind=.function
 glob:X.env.globals=mainGlobals
 blt:X.env.builtins=builtinsNs
 above:X.s₀.heap.objs.size<=X.env.locals
 inj:∀x y c,X.env.cells.lookup x=AA c->X.env.cells.lookup y=AA c->x=y
 has:∀x,(X.env.kindOf x=AA .cell \/ X.env.kindOf x=AA .free)->∃c,X.env.cells.lookup x=AA c
 cab:∀x c,X.fn x=AC->X.env.cells.lookup x=AA c->X.s₀.heap.objs.size<=c
 hd:X.calm=AC->X.A.handled=AE
 frames:X.A.frames=AA X.stack
 stk:X.stack=X.outer \/ (X.stack=X.env::X.outer/\X.env.frame=AA X.env.locals)
 exf:∀b∈X.ex,b≠X.env.locals/\∀x c,X.env.cells.lookup x=AA c->c≠b
 bs:∀b o,X.base.get? b=AA o->X.s₀.heap.get? b=AA o/\X.H₀ b=AE
 bsz:X.base.objs.size<=X.s₀.heap.objs.size
 noex:∀b o,X.base.get? b=AA o->b∉X.ex
 exfs:∀b∈X.ex,b∉X.fs
 funs:X.s₀.heap.FunFrames X.base X.outer
 frf:∀b∈X.fs,X.H₀ b=AE
structure Inv (X:Cx)(pins:List (AJ×CB))(σ:List (Option V))(H:Hp)(s:AK):Prop where
 ok:X.Ok
 os:s.os=X.s₀.os
 bare:D0 s.gens
 base:Un X.fs X.ex X.H₀ H X.s₀.heap s.heap
 loc:∃m,s.heap.Ns X.env.locals m/\∀(i:Nat) (x:AR) (v:V),X.N[i]?=AA x->σ[i]?=AA (AA v)->Vis X.env.scope x->∃u,RelV v u/\Look X.env s.heap m x u
 cell:∀x c,X.env.cells.lookup x=AA c->∃v,s.heap.IsCell c v
 free:H X.env.locals=AE
 freeC:∀x c,X.env.cells.lookup x=AA c->H c=AE
 pin:∀p∈X.pn++pins,s.heap.get? p.1=AA p.2/\H p.1=AE/\p.1≠X.env.locals/\p.1∉X.fs/\∀v,p.2.data ≠ .cell v
 hok:HOk X.prog X.w H s.heap
 len:σ.length=X.N.length
section
variable {X:Cx}{pins:List (AJ×CB)}{σ:List (Option V)}{H H':Hp}{s:AK}{h':BB}
theorem Cx.Ok.nofr (ok:X.Ok){b:AJ}{o:CB}(e:X.base.get? b=AA o):b∉X.fs:=λhb=>by
 have:=(ok.funs.mem hb).1
 rw[e]at this;cases this
theorem Inv.bs (I:Inv X pins σ H s):∀b o,X.base.get? b=AA o->s.heap.get? b=AA o/\H b=none:=λb o e =>
 ⟨I.base.keep b o (I.ok.bs b o e).1 (I.ok.bs b o e).2 (I.ok.nofr e) (I.ok.noex b o e),I.base.free b o (I.ok.bs b o e).1 (I.ok.bs b o e).2 (I.ok.noex b o e)⟩
theorem Inv.bk (I:Inv X pins σ H s):∀b o,X.base.get? b=AA o->s.heap.get? b=AA o:=λb o e=>(I.bs b o e).1
theorem Inv.mod (I:Inv X pins σ H s):Mod X.K X.mg X.base:=I.ok.mod
theorem Inv.kIn (I:Inv X pins σ H s):X.K.In s.heap:=I.ok.mod.kin.keeps I.bk
theorem Inv.lt (I:Inv X pins σ H s):X.env.locals<s.heap.objs.size:=let ⟨_,hn,_⟩:=I.loc;hn.lt
theorem Inv.sz (I:Inv X pins σ H s):X.s₀.heap.objs.size<=s.heap.objs.size:=BZ I.ok.above (Ff I.lt)
theorem Inv.nofs (I:Inv X pins σ H s){a:AJ}(h:s.heap.objs.size<=a):a∉X.fs:=λhb=>by
 obtain⟨_,o,ho,_⟩:=I.ok.funs.mem hb
 exact absurd (A3 (AY ho) (BZ I.sz h)) (Cu _)
theorem Inv.cne (I:Inv X pins σ H s):∀x c,X.env.cells.lookup x=AA c->c≠X.env.locals:=λx c e z=>by
 obtain⟨v,o,ho,hd⟩:=I.cell x c e
 obtain⟨m,⟨o',es,ep,ho',hd',_⟩,_⟩:=I.loc
 rw[z,ho']at ho;cases ho;rw[hd']at hd;cases hd
theorem Inv.funs (I:Inv X pins σ H s):s.heap.FunFrames X.base X.outer:=by
 have all:∀(l:List Env),(∀b∈frs l,b∈X.fs)->X.s₀.heap.FunFrames X.base l->s.heap.FunFrames X.base l:=by
  intro l
  induction l with
  |nil=>intro _ _;trivial
  |cons env r ih =>
   intro hs hl
   obtain⟨hk,⟨L,o,hf,hn,ho,hd⟩,hr⟩:=hl
   have hL:L∈X.fs:=hs L (by unfold frs;rw[Bn,hf];exact Ai)
   obtain⟨sl,e⟩:=I.base.slot L o ho (I.ok.frf L hL) hL λz=>I.ok.exfs L z hL
   exact⟨hk,⟨L,_,hf,hn,e,hd⟩,ih (λb hb=>hs b (by unfold frs;rw[Bn,hf];exact AS _ hb)) hr⟩
 exact all X.outer (λ_ hb=>hb) I.ok.funs
theorem Inv.stack (I:Inv X pins σ H s):s.heap.FunFrames X.base X.stack:=by
 rcases I.ok.stk with e|⟨e,hf⟩
 .rw[e];exact I.funs
 .rw[e]
  obtain⟨m,hn,_⟩:=I.loc
  refine .cons (by rw[I.ok.kind];decide) hf hn ?_ I.funs
  exact Heap.get?_none_of_le (BZ I.ok.bsz I.ok.above)
theorem Inv.stkSub (I:Inv X pins σ H s):∀b∈frs X.stack,b∈X.env.locals::X.fs:=λb hb=>by
 rcases I.ok.stk with e|⟨e,hf⟩
 .rw[e]at hb;exact AS _ hb
 .rw[e]at hb
  unfold frs at hb
  rw[Bn,hf]at hb
  exact hb
theorem Inv.stkFree (I:Inv X pins σ H s):∀b∈frs X.stack,H b=none:=λb hb=>by
 rcases AU.mp (I.stkSub b hb)with e|hb
 .rw[e];exact I.free
 .obtain⟨_,o,ho,_⟩:=I.ok.funs.mem hb
  exact I.base.free b o ho (I.ok.frf b hb) λz=>I.ok.exfs b z hb
theorem Inv.step {g':Array GenState}{t':Nat}{d':Drawn}{ch:List AJ}(I:Inv X pins σ H s)
  (hch:∀b∈ch,(b∈X.ex \/ X.s₀.heap.objs.size<=b)/\b≠X.env.locals/\(∀x c,X.env.cells.lookup x=AA c->c≠b)/\∀p∈X.pn++pins,p.1≠b)
  (keep:∀b o,b≠X.env.locals->b∉X.fs->b∉ch->s.heap.get? b=AA o->H b=AE->h'.get? b=AA o)
  (slot:∀b o,b≠X.env.locals->b∈X.fs->b∉ch->s.heap.get? b=AA o->H b=AE->∃sl,h'.get? b=AA { o with slots:=sl }) (free:∀b o,b∉ch->s.heap.get? b=AA o->H b=AE->H' b=AE)
  (there:∀b o,b∉ch->s.heap.get? b=AA o->∃o',h'.get? b=AA o')
  (tups:∀b xs,H b=AA (.tup xs)->H' b=AA (.tup xs)) (frzs:∀b o u,H b=AA (.frz o u)->H' b=AA (.frz o u)) (tbls:∀b ps,H b=AA (.tbl ps)->∃more,H' b=AA (.tbl (ps++more)))
  (ns:∀m,s.heap.Ns X.env.locals m->h'.Ns X.env.locals m) (hok:HOk X.prog X.w H' h') (hg:D0 g') :
  Inv X pins σ H' { s with heap:=h',gens:=g',drawn:=d',toks:=t' }:=by
 have neL:∀b o,X.s₀.heap.get? b=AA o->b≠X.env.locals:=λb o e=>An (A3 (AY e) I.ok.above)
 have neC:∀b o,X.s₀.heap.get? b=AA o->b∉X.ex->b∉ch:=λb o e hx hb=>by
  rcases (hch b hb).1 with z|z
  .exact hx z
  .exact absurd (A3 (AY e) z) (Cu _)
 have cellK:∀x c,X.env.cells.lookup x=AA c->∀v,s.heap.IsCell c v->h'.IsCell c v:=λx c e v ⟨o,ho,hd⟩=>by
  have nch:c∉ch:=λz=>(hch c z).2.2.1 x c e rfl
  by_cases hc:c∈X.fs
  .obtain⟨sl,q⟩:=slot c o (I.cne x c e) hc nch ho (I.freeC x c e)
   exact⟨_,q,hd⟩
  .exact⟨o,keep c o (I.cne x c e) hc nch ho (I.freeC x c e),hd⟩
 refine⟨I.ok,I.os,hg,⟨λb o e n hb hx=>?_,λb o e n hb hx=>?_,λb o e n hx=>?_,λb o e hx=>?_,λb xs e=>tups b xs (I.base.tups b xs e),λb o xs e=>frzs b o xs (I.base.frzs b o xs e),λb ps e=>?_⟩,?_,λx c e=>?_,?_,λx c e=>?_,λp hp=>?_,hok,I.len⟩
 .exact keep b o (neL b o e) hb (neC b o e hx) (I.base.keep b o e n hb hx) (I.base.free b o e n hx)
 .obtain⟨sl,e1⟩:=I.base.slot b o e n hb hx
  obtain⟨sl',e2⟩:=slot b _ (neL b o e) hb (neC b o e hx) e1 (I.base.free b o e n hx)
  exact⟨sl',e2⟩
 .obtain⟨o',e1⟩:=I.base.there b o e hx
  exact free b o' (neC b o e hx) e1 (I.base.free b o e n hx)
 .obtain⟨o',e1⟩:=I.base.there b o e hx
  exact there b o' (neC b o e hx) e1
 .obtain⟨m1,e1⟩:=I.base.tbls b ps e
  obtain⟨m2,e2⟩:=tbls b _ e1
  exact⟨m1++m2,by rw[e2,Dt]⟩
 .obtain⟨m,hn,hl⟩:=I.loc
  refine⟨m,ns m hn,λi x v e1 e2 e3=>?_⟩
  obtain⟨u,r,l⟩:=hl i x v e1 e2 e3
  refine⟨u,r,?_⟩
  rcases l with l|⟨k,c,e,z⟩
  .exact .inl l
  .exact .inr ⟨k,c,e,cellK x c e _ z⟩
 .obtain⟨v,z⟩:=I.cell x c e
  exact⟨v,cellK x c e v z⟩
 .obtain⟨m,⟨o,_,_,ho,_⟩,_⟩:=I.loc
  exact free _ o (λz=>(hch _ z).2.1 rfl) ho I.free
 .obtain⟨v,o,ho,hd⟩:=I.cell x c e
  exact free c o (λz=>(hch c z).2.2.1 x c e rfl) ho (I.freeC x c e)
 .obtain⟨e,n,ne,nf,d⟩:=I.pin p hp
  have nch:p.1∉ch:=λz=>(hch p.1 z).2.2.2 p hp rfl
  exact⟨keep p.1 p.2 ne nf nch e n,free p.1 p.2 nch e n,ne,nf,d⟩
theorem Inv.un {t':Nat}(I:Inv X pins σ H s)(u:Un X.fs [] H H' s.heap h')(hok:HOk X.prog X.w H' h'):Inv X pins σ H' { s with heap:=h',toks:=t' }:=by
 obtain⟨m,⟨o,es,ep,ho,r⟩,_⟩:=id I.loc
 obtain⟨sl,hL⟩:=u.any ho I.free (by simp)
 exact I.step (g':=s.gens) (d':=s.drawn) (ch:=[]) (λ_ z=>nomatch z) (λb o _ hb _ e n=>u.keep b o e n hb (by simp)) (λb o _ hb _ e n=>u.slot b o e n hb (by simp)) (λb o _ e n=>u.free b o e n (by simp)) (λb o _ e=>u.there b o e (by simp)) u.tups u.frzs u.tbls (λm' hm=>by
  obtain⟨o',es',ep',ho',r'⟩:=hm
  rw[ho]at ho';cases ho'
  exact⟨_,es',ep',hL,r'⟩) hok I.bare
theorem Inv.call {g':Array GenState}{t':Nat}{d':Drawn}{ch:List AJ}(I:Inv X pins σ H s)(u:Un (frs X.stack) ch H H' s.heap h')(hok:HOk X.prog X.w H' h')(hg:D0 g')
  (hch:∀b∈ch,(b∈X.ex \/ X.s₀.heap.objs.size<=b)/\b≠X.env.locals/\(∀x c,X.env.cells.lookup x=AA c->c≠b)/\∀p∈X.pn++pins,p.1≠b) :
  Inv X pins σ H' { s with heap:=h',gens:=g',drawn:=d',toks:=t' }:=by
 obtain⟨m,⟨o,es,ep,ho,r⟩,_⟩:=id I.loc
 obtain⟨sl,hL⟩:=u.any ho I.free λz=>(hch _ z).2.1 rfl
 exact I.step (ch:=ch) hch (λb o hL hb hc e n=>u.keep b o e n (λz=>(AU.mp (I.stkSub b z)).elim hL hb) hc) (λb o _ _ hc e n=>u.any e n hc) (λb o hc e n=>u.free b o e n hc) (λb o hc e=>u.there b o e hc) u.tups u.frzs u.tbls (λm' hm=>by
  obtain⟨o',es',ep',ho',r'⟩:=hm
  rw[ho]at ho';cases ho'
  exact⟨_,es',ep',hL,r'⟩) hok hg
theorem Inv.turned {t':Nat}{it:AJ}(I:Inv X pins σ H s)(k:∀b o,b≠it->s.heap.get? b=AA o->h'.get? b=AA o)(hn:H it=AE)(hL:it≠X.env.locals)
  (h1:it∈X.ex \/ X.s₀.heap.objs.size<=it) (h2:∀x c,X.env.cells.lookup x=AA c->c≠it) (h3:∀p∈X.pn++pins,p.1≠it):Inv X pins σ H { s with heap:=h',toks:=t' }:=by
 have nit:∀b u,H b=AA u->b≠it:=λb u e z=>by rw[z,hn]at e;cases e
 refine I.step (g':=s.gens) (d':=s.drawn) (ch:=[it]) (λb hb=>?_) (λb o _ _ hc e _=>k b o (λz=>hc (by simp[z])) e) (λb o _ _ hc e _=>⟨o.slots,k b o (λz=>hc (by simp[z])) e⟩) (λ_ _ _ _ n=>n)
  (λb o hc e=>⟨o,k b o (λz=>hc (by simp[z])) e⟩) (λ_ _ e=>e) (λ_ _ _ e=>e) (λb ps e=>⟨#[],by rw[e];simp⟩) (λm hm=>?_) (λb u e=>?_) I.bare
 .have e:b=it:=by simpa using hb
  subst e
  exact⟨h1,hL,h2,h3⟩
 .obtain⟨o,es,ep,ho,r⟩:=hm
  exact⟨o,es,ep,k _ o (BG hL) ho,r⟩
 .refine(I.hok b u e).stay (λc v hc q=>k c v ?_ q) (λ_ q=>q) λ_ _ q=>q
  rcases hc with z|z
  .rw[z];exact nit b u e
  .exact nit c _ z
theorem Inv.tok (I:Inv X pins σ H s)(t:Nat):Inv X pins σ H { s with toks:=t }:=I.un (h':=s.heap) (t':=t) Un.refl I.hok
theorem Inv.kept {t':Nat}(I:Inv X pins σ H s)(k:∀b u,s.heap.get? b=AA u->h'.get? b=AA u):Inv X pins σ H { s with heap:=h',toks:=t' }:=I.un (Un.kept k) (I.hok.kept k)
theorem Inv.laid {a:AJ}{o:HO}{t':Nat}(I:Inv X pins σ H s)(k:∀b u,s.heap.get? b=AA u->h'.get? b=AA u)(hp:s.heap.objs.size<=a)(new:yZ X.prog X.w (upd H a o) h' a o) :
  Inv X pins σ (upd H a o) { s with heap:=h',toks:=t' }:=I.un (Un.laid k hp (I.hok.fresh hp)) (I.hok.laid k hp new)
theorem Inv.write {x e:AJ}{o:HO}{t':Nat}(I:Inv X pins σ H s)(mu:Mut (H x))(he:e=x \/ H e=AA (.own x))(k:∀b u,b≠e->s.heap.get? b=AA u->h'.get? b=AA u)(heo:∃u,h'.get? e=AA u)
  (new:yZ X.prog X.w (upd H x o) h' x o):Inv X pins σ (upd H x o) { s with heap:=h',toks:=t' }:=I.un (Un.write mu he k heo) (I.hok.write mu he k heo new)
theorem Inv.pins_of {pins':List (AJ×CB)}(I:Inv X pins σ H s)(h:∀p∈pins',s.heap.get? p.1=AA p.2/\H p.1=AE/\p.1≠X.env.locals/\p.1∉X.fs/\∀v,p.2.data ≠ .cell v):Inv X pins' σ H s :=
 ⟨I.ok,I.os,I.bare,I.base,I.loc,I.cell,I.free,I.freeC,λp hp=>(Ag.mp hp).elim (λz=>I.pin p (FC _ z)) (h p),I.hok,I.len⟩
theorem zfP {N:List AR}(hN:N.Nodup){i j:Nat}{x:AR}(a:N[i]?=AA x)(b:N[j]?=AA x):i=j:=by
 obtain⟨h1,e1⟩:=BK.mp a
 obtain⟨h2,e2⟩:=BK.mp b
 exact(List.getElem_inj hN).mp (e1.trans e2.symm)
theorem zhY {M:Model}{A:Ar}{E:AH->AK->Prop}{i:Nat}{x:AR}{v:V}{u:AH}{Q:Unit->AK->Prop}(I:Inv X pins σ H s)(hN:X.N.Nodup)(hi:X.N[i]?=AA x)(hx:Loc X.env.scope x)(r:RelV v u)
  (h:∀s',Inv X pins (σ.set i (AA v)) H s'->(∃a,C3 a s.heap s'.heap/\(a=X.env.locals \/ X.env.cells.lookup x=AA a))->Q () s') (hf:X.fn x=AC \/ X.env.scope.names.lookup x=AA .local:=by first|exact .inl rfl|exact .inr rfl|assumption):AZ M A (storeName X.env x u) Q E s:=by
 obtain⟨m,hn,hl⟩:=id I.loc
 have hcls:(X.env.scope.kind == .class || (X.env.scope.kind == .module && X.env.locals != X.env.globals))=false:=by rw[I.ok.kind];rfl
 have hiσ:i<σ.length:=by rw[I.len];exact(BK.mp hi).1
 have cne:=I.cne
 have tracked:∀{a:AJ} {h':BB},(∃o,s.heap.get? a=AA o/\H a=AE)->C3 a s.heap h'->HOk X.prog X.w H h':=λ{a h'} ha hs b ob e=>by
  obtain⟨_,_,hfree⟩:=ha
  refine(I.hok b ob e).stay (λc w' hc q=>(hs.2 c ?_).trans q) (λ_ q=>q) λ_ _ q=>q
  rintro rfl
  rcases hc with rfl|hc
  .rw[hfree]at e;cases e
  .rw[hfree]at hc;cases hc
 rcases hx with hk|hk
 .refine wpAny_storeName_local hk hn (λh' hn' hs=>?_) hcls
  obtain⟨oL,_,_,hoL,_⟩:=id hn
  refine h _ ⟨I.ok,I.os,I.bare,⟨λb o e n hb hx=>?_,λb o e n hb hx=>?_,I.base.free,λb o e hx=>?_,I.base.tups,I.base.frzs,I.base.tbls⟩,⟨_,hn',λj y v' e1 e2 e3=>?_⟩,λy c e=>?_,I.free,I.freeC,λp hp=>?_,tracked ⟨oL,hoL,I.free⟩ hs,by simpa using I.len⟩ ⟨_,hs,.inl rfl⟩
  .exact(hs.2 b (An (A3 (AY e) I.ok.above))).trans (I.base.keep b o e n hb hx)
  .obtain⟨sl,e1⟩:=I.base.slot b o e n hb hx
   exact⟨sl,(hs.2 b (An (A3 (AY e) I.ok.above))).trans e1⟩
  .obtain⟨o',e1⟩:=I.base.there b o e hx
   exact⟨o',(hs.2 b (An (A3 (AY e) I.ok.above))).trans e1⟩
  .by_cases hj:j=i
   .subst hj
    rw[hi]at e1;cases e1
    rw[A5 hiσ]at e2
    cases e2
    exact⟨u,r,.inl ⟨hk,by simp⟩⟩
   .rw[AO (BG hj)]at e2
    obtain⟨u',r',q⟩:=hl j y v' e1 e2 e3
    refine⟨u',r',?_⟩
    rcases q with⟨k,e⟩|⟨k,c,e,z⟩
    .refine .inl ⟨k,?_⟩
     have:y≠x:=λe=>hj (zfP hN e1 (e ▸ hi))
     simp[this,e]
    .exact .inr ⟨k,c,e,z.sameBut hs (cne y c e)⟩
  .obtain⟨w',z⟩:=I.cell y c e
   exact⟨w',z.sameBut hs (cne y c e)⟩
  .obtain⟨e,n,ne,nf,d⟩:=I.pin p hp
   exact⟨(hs.2 p.1 ne).trans e,n,ne,nf,d⟩
 .have hfn:X.fn x=true:=by
   rcases hf with z|z
   .exact z
   .rw[z]at hk;cases hk
  obtain⟨c,hc⟩:=I.ok.has x (.inl hk)
  obtain⟨w',z⟩:=I.cell x c hc
  refine wpAny_storeName_cell I.ok.kind hk hc z (λh' hc' hs=>?_)
  obtain⟨oc,hoc,hocd⟩:=id z
  refine h { s with heap:=h' } ⟨I.ok,I.os,I.bare,⟨λb o e n hb hx=>?_,λb o e n hb hx=>?_,I.base.free,λb o e hx=>?_,I.base.tups,I.base.frzs,I.base.tbls⟩,⟨m,hn.sameBut hs (BG (cne x c hc)),λj y v' e1 e2 e3=>?_⟩,λy c' e=>?_,I.free,I.freeC,λp hp=>?_,tracked ⟨oc,hoc,I.freeC x c hc⟩ hs,by simpa using I.len⟩ ⟨c,hs,.inr hc⟩
  .exact(hs.2 b (An (A3 (AY e) (I.ok.cab x c hfn hc)))).trans (I.base.keep b o e n hb hx)
  .obtain⟨sl,e1⟩:=I.base.slot b o e n hb hx
   exact⟨sl,(hs.2 b (An (A3 (AY e) (I.ok.cab x c hfn hc)))).trans e1⟩
  .obtain⟨o',e1⟩:=I.base.there b o e hx
   exact⟨o',(hs.2 b (An (A3 (AY e) (I.ok.cab x c hfn hc)))).trans e1⟩
  .by_cases hj:j=i
   .subst hj
    rw[hi]at e1;cases e1
    rw[A5 hiσ]at e2
    cases e2
    exact⟨u,r,.inr ⟨.inl hk,c,hc,hc'⟩⟩
   .rw[AO (BG hj)]at e2
    obtain⟨u',r',q⟩:=hl j y v' e1 e2 e3
    refine⟨u',r',?_⟩
    rcases q with q|⟨k,c',e,z'⟩
    .exact .inl q
    .refine .inr ⟨k,c',e,z'.sameBut hs ?_⟩
     rintro rfl
     exact hj (zfP hN e1 (I.ok.inj _ _ _ e hc ▸ hi))
  .by_cases hcc:c'=c
   .subst hcc;exact⟨_,hc'⟩
   .obtain⟨w2,z2⟩:=I.cell y c' e
    exact⟨w2,z2.sameBut hs hcc⟩
  .obtain⟨e,n,ne,nf,d⟩:=I.pin p hp
   refine⟨(hs.2 p.1 ?_).trans e,n,ne,nf,d⟩
   intro q
   rw[q,hoc]at e
   have q':oc=p.2:=AX e
   exact d w' (by rw[<- q'];exact hocd)
theorem zbD {M:Model}{A:Ar}{E:AH->AK->Prop}{i:Nat}{x:AR}{v:V}{u:AH}{Q:Unit->AK->Prop}(I:Inv X pins σ H s)(hN:X.N.Nodup)(hi:X.N[i]?=AA x)(hx:Loc X.env.scope x)(r:RelV v u)
  (h:∀s',Inv X pins (σ.set i (AA v)) H s'->Q () s') (hf:X.fn x=AC \/ X.env.scope.names.lookup x=AA .local:=by first|exact .inl rfl|exact .inr rfl|assumption):AZ M A (storeName X.env x u) Q E s :=
 zhY I hN hi hx r (λs' I' _=>h s' I') hf
theorem Inv.call' {s':AK}{ch:List AJ}(I:Inv X pins σ H s)(ho:s'.os=s.os)(u:Un (frs X.stack) ch H H' s.heap s'.heap)(hok:HOk X.prog X.w H' s'.heap)(hg:D0 s'.gens)
  (hch:∀b∈ch,(b∈X.ex \/ X.s₀.heap.objs.size<=b)/\b≠X.env.locals/\(∀x c,X.env.cells.lookup x=AA c->c≠b)/\∀p∈X.pn++pins,p.1≠b):Inv X pins σ H' s':=by
 obtain⟨h',g',d',t',o'⟩:=s'
 have e:o'=s.os:=ho
 subst e
 exact I.call (g':=g') (t':=t') (d':=d') u hok hg hch
end
abbrev XK:=AH->Option AJ->Hp->Prop
abbrev St:=List (Option V)
abbrev VK:=V->Hp->Prop
abbrev TE:=St->Hp->VK->Prop
abbrev TT:=St->Hp->(Bool->Hp->Prop)->Prop
abbrev TA:=St->Hp->(List V->Hp->Prop)->Prop
structure Ends where
 nx:St->Hp->Prop
 rt:VK
 bk:St->Hp->Prop:=λ_ _=>False
 ct:St->Hp->Prop:=λ_ _=>False
abbrev TS:=Ends->St->Hp->Prop
def EP (X:Cx)(pins:List (AJ×CB))(σ:St)(Q:VK)(u:AH)(s':AK):Prop:=∃v H',Inv X pins σ H' s'/\RelV v u/\Q v H'
def TP (X:Cx)(pins:List (AJ×CB))(σ:St)(Q:Bool->Hp->Prop)(b:Bool)(s':AK):Prop:=∃H',Inv X pins σ H' s'/\Q b H'
def AP (X:Cx)(pins:List (AJ×CB))(σ:St)(Q:List V->Hp->Prop)(us:List AH)(s':AK):Prop:=∃vs H',Inv X pins σ H' s'/\Vals vs us/\Q vs H'
def SP (X:Cx)(pins:List (AJ×CB))(D:Ends)(f:Flow)(s':AK):Prop :=
 match f with
 | .next=>∃σ' H',Inv X pins σ' H' s'/\D.nx σ' H'
 | .brk=>∃σ' H',Inv X pins σ' H' s'/\D.bk σ' H'
 | .cont=>∃σ' H',Inv X pins σ' H' s'/\D.ct σ' H'
 | .ret u=>∃v σ' H',Inv X pins σ' H' s'/\RelV v u/\D.rt v H'
def PE (X:Cx)(e:AV)(t:TE):Prop :=
 ∀(pins:List (AJ×CB)) (s:AK) (σ:St) (H:Hp) (Q:VK),Inv X pins σ H s->t σ H Q->AZ (model X.prog X.w) X.A (eval e X.env) (EP X pins σ Q) X.xe s
def PT (X:Cx)(e:AV)(t:TT):Prop :=
 ∀(pins:List (AJ×CB)) (s:AK) (σ:St) (H:Hp) (Q:Bool->Hp->Prop),Inv X pins σ H s->t σ H Q->AZ (model X.prog X.w) X.A (isTrue e X.env (eval e X.env)) (TP X pins σ Q) X.xe s
def PW (X:Cx)(e:AV)(t:TT):Prop :=
 ∀(whole:Gc AH) (pins:List (AJ×CB)) (s:AK) (σ:St) (H:Hp) (Q:Bool->Hp->Prop),Inv X pins σ H s->t σ H Q->AZ (model X.prog X.w) X.A (isTrue e X.env whole) (TP X pins σ Q) X.xe s
theorem PW.pt {X:Cx}{e:AV}{t:TT}(h:PW X e t):PT X e t:=h _
def PA (X:Cx)(es:List AV)(t:TA):Prop :=
 ∀(pos:CT) (pins:List (AJ×CB)) (s:AK) (σ:St) (H:Hp) (Q:List V->Hp->Prop),Inv X pins σ H s->t σ H Q->AZ (model X.prog X.w) X.A (spliced (backTo pos (starEach es X.env))) (AP X pins σ Q) X.xe s
def PS (X:Cx)(st:Bv)(t:TS):Prop :=
 ∀(pins:List (AJ×CB)) (s:AK) (σ:St) (H:Hp) (D:Ends),Inv X pins σ H s->t D σ H->AZ (model X.prog X.w) X.A (exec st X.env) (SP X pins D) X.xe s
def PSs (X:Cx)(st:List Bv)(t:TS):Prop :=
 ∀(pins:List (AJ×CB)) (s:AK) (σ:St) (H:Hp) (D:Ends),Inv X pins σ H s->t D σ H->AZ (model X.prog X.w) X.A (execs st X.env) (SP X pins D) X.xe s
theorem thn {α:Type}{t:Gc α}{Q Q':α->AK->Prop}{M:Model}{A:Ar}{E:AH->AK->Prop}{s:AK}(h:AZ M A t Q E s)(hQ:∀a s,Q a s->Q' a s):AZ M A t Q' E s:=CU h hQ λ_ _ x=>x
section
variable {X:Cx}
theorem bin {a b:AV}{ta tb:TE}(ha:PE X a ta)(hb:PE X b tb){pins:List (AJ×CB)}{s:AK}{σ:St}{H:Hp}{R:V->V->Hp->Prop}(I:Inv X pins σ H s)(h:ta σ H λx H1=>tb σ H1 λy H2=>R x y H2)
  {α:Type} {Q:α->AK->Prop} {f:AH->AH->Gc α}
  (hf:∀v u s2 x y H2,Inv X pins σ H2 s2->RelV x v->RelV y u->R x y H2->AZ (model X.prog X.w) X.A (f v u) Q X.xe s2) :
  AZ (model X.prog X.w) X.A (eval a X.env) (λv s₁=>AZ (model X.prog X.w) X.A (eval b X.env) (λu s₂=>AZ (model X.prog X.w) X.A (f v u) Q X.xe s₂) X.xe s₁) X.xe s:=by
 refine thn (ha pins s σ H _ I h) λv s1 ⟨x,H1,I1,r1,q1⟩=>?_
 refine thn (hb pins s1 σ H1 _ I1 q1) λu s2 ⟨y,H2,I2,r2,q2⟩=>?_
 exact hf v u s2 x y H2 I2 r1 r2 q2
def yfH (i:Nat):TE:=λσ H Q=>∃v,σ[i]?=AA (AA v)/\Q v H
def tC (v:V):TE:=λ_ H Q=>Q v H
theorem zjO {i:Nat}{x:AR}{pos:CT}(hN:X.N[i]?=AA x)(hv:Vis X.env.scope x)(hd:(x == ("__debug__":AR))=false:=by decide)(hcd:(x == ("__classdict__":AR))=false:=by decide):PE X (.Name x pos) (yfH i):=by
 intro pins s σ H Q I h
 obtain⟨v,e,h⟩:=h
 obtain⟨m,hn,hl⟩:=I.loc
 obtain⟨u,r,l⟩:=hl i x v hN e hv
 have fin:EP X pins σ Q u s:=⟨v,H,I,r,h⟩
 rcases l with⟨hk,hm⟩|⟨hk,c,hc,hcell⟩
 .exact G2 (FD I.ok.kind hk hn hm fin) hd
 .rcases hk with hk|hk
  .exact G2 (FR I.ok.kind hk hc hcell fin) hd
  .exact G2 (wpAny_loadName_free I.ok.kind hk hc hcell fin hcd) hd
theorem ydp {i j pos}:PE X (.Constant (.int i) j pos) (tC (.int i)):=λ_ _ _ H _ I h=>wpAny_Constant_int ⟨.int i,H,I.tok _,⟨_,rfl⟩,h⟩
theorem yeE {b j pos}:PE X (.Constant (.bool b) j pos) (tC (.bl b)):=λ_ _ _ H _ I h=>Constant_bool ⟨.bl b,H,I,rfl,h⟩
theorem ydi {j pos}:PE X (.Constant .none j pos) (tC .non):=λ_ _ _ H _ I h=>Constant_none ⟨.non,H,I,rfl,h⟩
theorem ydy {x j pos}:PE X (.Constant (.str x) j pos) (tC (.str x)):=λ_ _ _ H _ I h=>Calls.Constant_str ⟨.str x,H,I.tok _,⟨_,rfl⟩,h⟩
def Gl (X:Cx)(x:AR):Prop:=X.env.kindOf x=AA .globalImplicit
theorem zcX {E:AH->AK->Prop}{pins:List (AJ×CB)}{s:AK}{σ:St}{H:Hp}{x:AR}{u:AH}{pos:CT}{Q:AH->AK->Prop}(I:Inv X pins σ H s)(hg:Gl X x)(hm:X.mg x=AA u)(h:Q u s)
  (hd:(x == ("__debug__":AR))=false:=by decide):AZ (model X.prog X.w) X.A (eval (.Name x pos) X.env) Q E s :=
 Du I.ok.kind hg (Calls.loadGlobal_global (by rw[I.ok.glob];exact I.mod.glob.keeps I.bk) hm h) hd
theorem zdy {E:AH->AK->Prop}{pins:List (AJ×CB)}{s:AK}{σ:St}{H:Hp}{x:AR}{u:AH}{pos:CT}{Q:AH->AK->Prop}(I:Inv X pins σ H s)(hg:Gl X x)(hm:X.mg x=AE)(hv:bootBuiltins x=AA u)(h:Q u s)
  (hn:x ≠ "__name__":=by decide) (hd:(x == ("__debug__":AR))=false:=by decide):AZ (model X.prog X.w) X.A (eval (.Name x pos) X.env) Q E s:=by
 obtain⟨mb,h1,h2⟩:=I.mod.blt
 exact Du I.ok.kind hg (Calls.loadGlobal_builtin (by rw[I.ok.glob];exact I.mod.glob.keeps I.bk) hm (by rw[I.ok.blt];exact h1.keeps I.bk) ((h2 x hn).trans hv) h) hd
theorem zcP {x:AR}{v:V}{u:AH}{pos:CT}(hg:Gl X x)(hm:X.mg x=AA u)(r:RelV v u)(hd:(x == ("__debug__":AR))=false:=by decide):PE X (.Name x pos) (tC v) :=
 λ_ _ _ H _ I h=>zcX I hg hm ⟨v,H,I,r,h⟩ hd
theorem zl0 {x:AR}{v:V}{u:AH}{pos:CT}(hg:Gl X x)(hm:X.mg x=AE)(hv:bootBuiltins x=AA u)(r:RelV v u)(hn:x ≠ "__name__":=by decide)(hd:(x == ("__debug__":AR))=false:=by decide):PE X (.Name x pos) (tC v) :=
 λ_ _ _ H _ I h=>zdy I hg hm hv ⟨v,H,I,r,h⟩ hn hd
variable {a b:AV}{ta tb:TE}{pos:CT}
variable {tA tB':TT}{rest:List AV}
def yg0 (t u:TT):TT:=λσ H Q=>t σ H λc H1=>if c=AC then u σ H1 Q else Q AD H1
def tOr (t u:TT):TT:=λσ H Q=>t σ H λc H1=>if c=AC then Q AC H1 else u σ H1 Q
def yfQ (t:TT):TT:=λσ H Q=>t σ H λc H1=>Q (!c) H1
theorem zk9 (ha:PT X a tA):PW X (.BoolOp .And [a] pos) tA:=by
 intro wh pins s σ H Q I h
 refine isTrue_and (thn (ha pins s σ H Q I h) λc s1 e=>?_)
 cases c with
 |true=>exact isTrue_and_nil e
 |false=>exact e
theorem znA (ha:PT X a tA):PW X (.BoolOp .Or [a] pos) tA:=by
 intro wh pins s σ H Q I h
 refine isTrue_or (thn (ha pins s σ H Q I h) λc s1 e=>?_)
 cases c with
 |false=>exact isTrue_or_nil e
 |true=>exact e
theorem znK (ha:PT X a tA)(hb:PW X (.BoolOp .And (b::rest) pos) tB'):PW X (.BoolOp .And (a::b::rest) pos) (yg0 tA tB'):=by
 intro wh pins s σ H Q I h
 refine isTrue_and (thn (ha pins s σ H _ I h) λc s1 ⟨H1,I1,q1⟩=>?_)
 cases c with
 |true=>exact hb wh pins s1 σ H1 Q I1 q1
 |false=>exact⟨H1,I1,q1⟩
theorem zoV (ha:PT X a tA)(hb:PW X (.BoolOp .Or (b::rest) pos) tB'):PW X (.BoolOp .Or (a::b::rest) pos) (tOr tA tB'):=by
 intro wh pins s σ H Q I h
 refine isTrue_or (thn (ha pins s σ H _ I h) λc s1 ⟨H1,I1,q1⟩=>?_)
 cases c with
 |true=>exact⟨H1,I1,q1⟩
 |false=>exact hb wh pins s1 σ H1 Q I1 q1
theorem znl (ha:PT X a tA):PT X (.UnaryOp .Not a pos) (yfQ tA):=by
 intro pins s σ H Q I h
 exact isTrue_not (ha pins s σ H (λc H1=>Q (!c) H1) I h)
def yeL (ta tb:TE):TE:=λσ H Q=>ta σ H λx H1=>∃c,x=.bl c/\if c=AC then tb σ H1 Q else Q (.bl AD) H1
def ygN (ta tb:TE):TE:=λσ H Q=>ta σ H λx H1=>∃c,x=.bl c/\if c=AC then Q (.bl AC) H1 else tb σ H1 Q
def yd3 (ta:TE):TE:=λσ H Q=>ta σ H λx H1=>∃c,x=.bl c/\Q (.bl (!c)) H1
theorem znq {op}{t:TE}(h:PE X a t):PE X (.BoolOp op [a] pos) t:=λpins s σ H Q I hw=>BoolOp_one (h pins s σ H Q I hw)
theorem znE (ha:PE X a ta)(hb:PE X (.BoolOp .And (b::rest) pos) tb):PE X (.BoolOp .And (a::b::rest) pos) (yeL ta tb):=by
 intro pins s σ H Q I h
 refine BoolOp_and (thn (ha pins s σ H _ I h) λv s1 ⟨x,H1,I1,r1,q1⟩=>?_)
 obtain⟨c,rfl,q1⟩:=q1
 cases r1
 refine Ba ?_
 cases c with
 |true=>exact hb pins s1 σ H1 Q I1 q1
 |false=>exact⟨.bl AD,H1,I1,rfl,q1⟩
theorem zoL (ha:PE X a ta)(hb:PE X (.BoolOp .Or (b::rest) pos) tb):PE X (.BoolOp .Or (a::b::rest) pos) (ygN ta tb):=by
 intro pins s σ H Q I h
 refine BoolOp_or (thn (ha pins s σ H _ I h) λv s1 ⟨x,H1,I1,r1,q1⟩=>?_)
 obtain⟨c,rfl,q1⟩:=q1
 cases r1
 refine Ba ?_
 cases c with
 |false=>exact hb pins s1 σ H1 Q I1 q1
 |true=>exact⟨.bl AC,H1,I1,rfl,q1⟩
theorem zn7 (ha:PE X a ta):PE X (.UnaryOp .Not a pos) (yd3 ta):=by
 intro pins s σ H Q I h
 refine UnaryOp_ (thn (ha pins s σ H _ I h) λv s1 ⟨x,H1,I1,r1,q1⟩=>?_)
 obtain⟨c,rfl,q1⟩:=q1
 cases r1
 exact not_of (Ba ⟨.bl (!c),H1,I1,rfl,q1⟩)
def tIf (t:TT)(ta tb:TE):TE:=λσ H Q=>t σ H λc H1=>if c=AC then ta σ H1 Q else tb σ H1 Q
theorem ziv {c:AV}(hc:PT X c tA)(ha:PE X a ta)(hb:PE X b tb):PE X (.IfExp c a b pos) (tIf tA ta tb):=by
 intro pins s σ H Q I h
 refine wpAny_IfExp (thn (hc pins s σ H _ I h) λd s1 ⟨H1,I1,q1⟩=>?_)
 cases d with
 |true=>exact ha pins s1 σ H1 Q I1 q1
 |false=>exact hb pins s1 σ H1 Q I1 q1
end
def SqL (K:AG)(H:Hp)(a:AJ)(xs:List V):Prop :=
 Rd H a (.lst xs) \/
  ∃(o:CB) (its:Array AH) (n:Nat),K.lookup a=AA o/\o.cls=.type "list"/\o.dict=AE/\o.data=.seq its n/\its.size<=sizeLine/\Vals xs its.toList
def SqT (K:AG)(H:Hp)(a:AJ)(xs:List V):Prop :=
 Rd H a (.tup xs) \/
  ∃(o:CB) (its:Array AH) (n:Nat),K.lookup a=AA o/\o.cls=.type "tuple"/\o.data=.seq its n/\its.size<=sizeLine/\Vals xs its.toList
def ygL:AH->Option V
 | .none=>AA .non
 | .bool b=>AA (.bl b)
 | .int i _=>AA (.int i)
 | .str x _=>AA (.str x)
 | .bytes b _=>AA (.byt b)
 | .float b _=>AA (.flt b)
 | .ref a=>AA (.ref a)
 | .type n=>AA (.ty n)
 |_=>AE
theorem RelV.abs {x:V}{u:AH}(r:RelV x u):ygL u=AA x:=by
 cases x with
 |non=>cases r;rfl
 |bl _=>cases r;rfl
 |int _=>obtain⟨t,rfl⟩:=r;rfl
 |str _=>obtain⟨t,rfl⟩:=r;rfl
 |byt _=>obtain⟨t,rfl⟩:=r;rfl
 |flt _=>obtain⟨t,rfl⟩:=r;rfl
 |ref _=>cases r;rfl
 |ty _=>cases r;rfl
theorem RelV.inj {x y:V}{u:AH}(r:RelV x u)(q:RelV y u):x=y:=AX (r.abs.symm.trans q.abs)
theorem Vals.inj:∀{xs ys:List V} {us:List AH},Vals xs us->Vals ys us->xs=ys
 |_,_,_,.nil,.nil=>rfl
 |_,_,_,.cons r t,.cons r' t'=>by rw[r.inj r',Vals.inj t t']
section
variable {X:Cx}{pins:List (AJ×CB)}{σ:St}{H:Hp}{s:AK}{a:AJ}{xs ys:List V}
theorem SqL.of {K:AG}(h:H a=AA (.lst xs)):SqL K H a xs:=.inl (.inl h)
theorem Inv.list (I:Inv X pins σ H s)(h:SqL X.K H a xs):∃its:List AH,Vals xs its/\PlainL s.heap a its.toArray/\xs.length<=sizeLine:=by
 rcases h with h|⟨o,its,n,hk,hc,hd,hs,hz,r⟩
 .obtain⟨z,its,n,r,e⟩:=h.ok I.hok
  exact⟨its,r,⟨_,n,e,rfl,rfl,rfl⟩,z⟩
 .refine⟨its.toList,r,⟨o,n,I.kIn a o hk,hc,hd,by simpa using hs⟩,?_⟩
  have e:=r.length
  simp only[CC]at e
  omega
theorem Inv.tuple (I:Inv X pins σ H s)(h:SqT X.K H a xs):∃its:List AH,Vals xs its/\Gg s.heap a its.toArray/\xs.length<=sizeLine:=by
 rcases h with h|⟨o,its,n,hk,hc,hs,hz,r⟩
 .obtain⟨z,its,r,p⟩:=h.ok I.hok
  exact⟨its,r,p,z⟩
 .refine⟨its.toList,r,⟨o,I.kIn a o hk,hc,n,by simpa using hs⟩,?_⟩
  have e:=r.length
  simp only[CC]at e
  omega
theorem Inv.list_inj (I:Inv X pins σ H s)(h:SqL X.K H a xs)(h':SqL X.K H a ys):xs=ys:=by
 obtain⟨its,r,⟨o,n,e,_,_,d⟩,_⟩:=I.list h
 obtain⟨its',r',⟨o',n',e',_,_,d'⟩,_⟩:=I.list h'
 rw[e]at e';cases e'
 rw[d]at d'
 injection d' with d1 _
 have:its=its':=by simpa using congrArg Gk d1
 subst this
 exact r.inj r'
theorem Inv.tuple_inj (I:Inv X pins σ H s)(h:SqT X.K H a xs)(h':SqT X.K H a ys):xs=ys:=by
 obtain⟨its,r,⟨o,e,_,n,d⟩,_⟩:=I.tuple h
 obtain⟨its',r',⟨o',e',_,n',d'⟩,_⟩:=I.tuple h'
 rw[e]at e';cases e'
 rw[d]at d'
 injection d' with d1 _
 have:its=its':=by simpa using congrArg Gk d1
 subst this
 exact r.inj r'
end
section
variable {X:Cx}{pins:List (AJ×CB)}{σ:St}{H:Hp}{s:AK}{E:AH->AK->Prop}
end
section
variable {X:Cx}{st:Bv}{rest:List Bv}{t u:TS}{e:AV}{te:TE}{pos:CT}
def yeu:TS:=λD σ H=>D.nx σ H
def yfM (t u:TS):TS:=λD σ H=>t { D with nx:=u D } σ H
theorem ycK:PSs X [] yeu:=λ_ _ σ H _ I h=>D8 ⟨σ,H,I,h⟩
theorem zft (h1:PS X st t)(h2:PSs X rest u):PSs X (st::rest) (yfM t u):=by
 intro pins s σ H D I h
 refine Fy (thn (h1 pins s σ H { D with nx:=u D } I h) λf s1 q=>?_)
 cases f with
 |next =>
  obtain⟨σ',H',I',q⟩:=q
  exact h2 pins s1 σ' H' D I' q
 |ret v=>exact q
 |brk=>exact q
 |cont=>exact q
theorem zl1 (h1:PS X st t):PSs X [st] t:=by
 intro pins s σ H D I h
 refine Fy (thn (h1 pins s σ H D I h) λf s1 q=>?_)
 cases f with
 |next=>exact D8 q
 |ret v=>exact q
 |brk=>exact q
 |cont=>exact q
theorem Inv.quiet {pins:List (AJ×CB)}{σ:St}{H:Hp}{s:AK}(I:Inv X pins σ H s):interactive X.env=false:=by simp[interactive,I.ok.kind]
def yeN (te:TE):TS:=λD σ H=>te σ H λ_ H1=>D.nx σ H1
theorem zkV (he:PE X e te)(hs:swapsWith e AE pos.line X.env=pure false:=by rfl):PS X (.Expr e pos) (yeN te):=by
 intro pins s σ H D I h
 exact wpAny_Expr_any (thn (he pins s σ H _ I h) λv s1 ⟨x,H1,I1,r1,q1⟩=>⟨σ,H1,I1,q1⟩) I.quiet hs
def ygH (te:TE):TS:=λD σ H=>te σ H D.rt
theorem zkn (he:PE X e te):PS X (.Return (AA e) pos) (ygH te):=by
 intro pins s σ H D I h
 exact wpAny_Return_some (thn (he pins s σ H _ I h) λv s1 ⟨x,H1,I1,r1,q1⟩=>⟨x,σ,H1,I1,r1,q1⟩)
def yd4:TS:=λD _ H=>D.rt .non H
theorem ycZ:PS X (.Return AE pos) yd4:=λ_ _ σ H _ I h=>wpAny_Return_none ⟨.non,σ,H,I,rfl,h⟩
def yf7 (c:TT)(t u:TS):TS:=λD σ H=>c σ H λb H1=>if b=AC then t D σ H1 else u D σ H1
theorem zoE {c:AV}{a b:List Bv}{tc:TT}(hc:PT X c tc)(ha:PSs X a t)(hb:PSs X b u):PS X (.If c a b pos) (yf7 tc t u):=by
 intro pins s σ H D I h
 refine wpAny_If (thn (hc pins s σ H _ I h) λd s1 ⟨H1,I1,q1⟩=>?_)
 cases d with
 |true=>exact ha pins s1 σ H1 D I1 q1
 |false=>exact hb pins s1 σ H1 D I1 q1
end
abbrev TG:=V->St->Hp->(St->Hp->Prop)->Prop
abbrev TGs:=List V->St->Hp->(St->Hp->Prop)->Prop
def PG (X:Cx)(target:AV)(t:TG):Prop :=
 ∀(pins:List (AJ×CB)) (s:AK) (σ:St) (H:Hp) (v:V) (u:AH) (Q:St->Hp->Prop),Inv X pins σ H s->RelV v u->t v σ H Q ->
  AZ (model X.prog X.w) X.A (assign target X.env u) (λ_ s'=>∃σ' H',Inv X pins σ' H' s'/\Q σ' H') X.xe s
def PGs (X:Cx)(ts:List AV)(t:TGs):Prop :=
 ∀(pins:List (AJ×CB)) (s:AK) (σ:St) (H:Hp) (vs:List V) (us:List AH) (Q:St->Hp->Prop),Inv X pins σ H s->Vals vs us->t vs σ H Q ->
  AZ (model X.prog X.w) X.A (assignInOrder ((assignEach ts X.env).map (·.2)) us) (λ_ s'=>∃σ' H',Inv X pins σ' H' s'/\Q σ' H') X.xe s
abbrev yeP:=V->V->V->Hp->(Hp->Prop)->Prop
def ye9 (X:Cx)(t:yeP):Prop :=
 ∀(pins:List (AJ×CB)) (s:AK) (σ:St) (H:Hp) (o i v:V) (ov iv u:AH) (Q:Hp->Prop),Inv X pins σ H s->RelV o ov->RelV i iv->RelV v u->t o i v H Q ->
  AZ (model X.prog X.w) X.A (setItem ov iv u) (λ_ s'=>∃H',Inv X pins σ H' s'/\Q H') X.xe s
abbrev TIp:=V->V->Hp->VK->Prop
def PIp (X:Cx)(op:D6)(t:TIp):Prop :=
 ∀(pins:List (AJ×CB)) (s:AK) (σ:St) (H:Hp) (x y:V) (v u:AH) (Q:VK),Inv X pins σ H s->RelV x v->RelV y u->t x y H Q ->
  AZ (model X.prog X.w) X.A (inplaceOp op v u) (EP X pins σ Q) X.xe s
section
variable {X:Cx}{pos:CT}
def ydo (i:Nat):TG:=λv σ H Q=>Q (σ.set i (AA v)) H
theorem zhG {i:Nat}{x:AR}(hN:X.N.Nodup)(hi:X.N[i]?=AA x)(hx:Loc X.env.scope x)(hf:X.fn x=AC \/ X.env.scope.names.lookup x=AA .local:=by first|exact .inl rfl|exact .inr rfl|assumption):PG X (.Name x pos) (ydo i):=by
 intro pins s σ H v u Q I r h
 exact wpAny_assign_Name (zbD I hN hi hx r (λs' I'=>⟨_,H,I',h⟩) hf)
def ygD:TGs:=λvs σ H Q=>vs=[]/\Q σ H
def yeS (t:TG)(u:TGs):TGs:=λvs σ H Q=>∃v r,vs=v::r/\t v σ H λσ' H'=>u r σ' H' Q
theorem yc1:PGs X [] ygD:=by
 intro pins s σ H vs us Q I r h
 obtain⟨e,h⟩:=h
 subst e
 cases r
 exact Fg ⟨σ,H,I,h⟩
theorem ziF {e:AV}{es:List AV}{t:TG}{u:TGs}(h1:PG X e t)(h2:PGs X es u)
  (hs:(assignEach (e::es) X.env).map (·.2)=assign e X.env::(assignEach es X.env).map (·.2):=by rfl):PGs X (e::es) (yeS t u):=by
 intro pins s σ H vs us Q I r h
 obtain⟨v,vr,e1,h⟩:=h
 subst e1
 cases r with
 |cons r rr =>
  rw[hs]
  refine Dv (thn (h1 pins s σ H _ _ _ I r h) λ_ s1 ⟨σ1,H1,I1,q1⟩=>?_)
  exact h2 pins s1 σ1 H1 _ _ Q I1 rr q1
def ygi (K:AG)(n:Nat)(t:TGs):TG:=λv σ H Q=>∃a xs,v=.ref a/\SqT K H a xs/\xs.length=n/\t xs σ H Q
theorem zoa {es:List AV}{k:Nat}{t:TGs}{n:Nat}(hc:X.calm=AC)(h:PGs X es t)
  (hn:(assignEach es X.env).length=n:=by rfl) (hst:(assignEach es X.env).findIdx? (·.1)=none:=by rfl):PG X (.Tuple es k pos) (ygi X.K n t):=by
 intro pins s σ H v u Q I r hw
 obtain⟨a,xs,e1,hq,hl,hw⟩:=hw
 subst e1
 cases r
 obtain⟨its,rv,ht,hz⟩:=I.tuple hq
 refine assign_Tuple_tuple (I.ok.hd hc) ht (by simp[hn,<- hl,rv.length]) hst λh' hx=>?_
 have I1:Inv X pins σ H { s with heap:=h' }:=I.kept (t':=s.toks) λb o e=>hx b o (An (AY e)) e
 exact h pins _ σ H xs _ Q I1 (by simpa using rv) hw
def yfj (to ti:TE)(t:yeP):TG:=λv σ H Q=>to σ H λo H1=>ti σ H1 λi H2=>t o i v H2 λH3=>Q σ H3
theorem zjR {o i:AV}{to ti:TE}{t:yeP}(ho:PE X o to)(hi:PE X i ti)(hs:ye9 X t)
  (ha:∀v,assign (.Subscript o i pos) X.env v=(do
   let ov <- holding [v] (eval o X.env)
   let iv <- holding [v,ov] (eval i X.env)
   standAt pos
   holding [v,ov,iv] (setItem ov iv v)
   release [v,ov,iv] []):=by intro _;rfl):PG X (.Subscript o i pos) (yfj to ti t):=by
 intro pins s σ H v u Q I r h
 rw[ha]
 refine AI (Cv (thn (ho pins s σ H _ I h) λov s1 ⟨x,H1,I1,r1,q1⟩=>?_))
 refine AI (Cv (thn (hi pins s1 σ H1 _ I1 q1) λiv s2 ⟨y,H2,I2,r2,q2⟩=>?_))
 refine AI (EY (AI (Cv (thn (hs pins s2 σ H2 x y v ov iv u _ I2 r1 r2 r q2) λ_ s3 ⟨H3,I3,q3⟩=>?_))))
 exact wpAny_release ⟨σ,H3,I3,q3⟩
def yeZ (te:TE)(g:TG):TS:=λD σ H=>te σ H λx H1=>g x σ H1 D.nx
theorem zj6 {tg e:AV}{te:TE}{g:TG}(he:PE X e te)(hg:PG X tg g)(hs:swapsWithSole [tg] e pos.line X.env=pure false:=by rfl)(hw:swappedStores [tg] e X.env=pure none:=by rfl)
  (h1:(assignEach [tg] X.env).map (·.2)=[assign tg X.env]:=by rfl):PS X (.Assign [tg] e pos) (yeZ te g):=by
 intro pins s σ H D I h
 refine wpAny_Assign_stores (thn (he pins s σ H _ I h) λv s1 ⟨x,H1,I1,r1,q1⟩=>?_) hs hw
 rw[h1]
 exact thn (hg pins s1 σ H1 x v _ I1 r1 q1) λ_ s2 q=>q
theorem zjP {i:Nat}{x:AR}{e:AV}{te:TE}{pos':CT}(hN:X.N.Nodup)(hi:X.N[i]?=AA x)(hx:Loc X.env.scope x)(he:PE X e te)(hs:swapsWith e (AA (.Name x pos')) pos.line X.env=pure false:=by rfl)(hf:X.fn x=AC \/ X.env.scope.names.lookup x=AA .local:=by first|exact .inl rfl|exact .inr rfl|assumption) :
  PS X (.Assign [.Name x pos'] e pos) (yeZ te (ydo i)):=by
 intro pins s σ H D I h
 refine wpAny_Assign_Name (thn (he pins s σ H _ I h) λv s1 ⟨y,H1,I1,r1,q1⟩=>?_) hs
 exact zbD I1 hN hi hx r1 (λs2 I2=>⟨_,H1,I2,q1⟩) hf
def yfn (i j:Nat)(ta:TA):TS:=λD σ H=>ta σ H λvs H1=>∃v w,vs=[v,w]/\D.nx ((σ.set i (AA v)).set j (AA w)) H1
theorem zno {i j:Nat}{x y:AR}{a b:AV}{ta:TA}{px py pt:CT}{kt k2 pt2}(hc:X.calm=AC)(hN:X.N.Nodup)(hi:X.N[i]?=AA x)(hj:X.N[j]?=AA y)(hij:i≠j)
  (hx:X.env.scope.names.lookup x=AA .local) (hy:X.env.scope.names.lookup y=AA .local) (ha:PA X [a,b] ta)
  (hw:swappedStores [.Tuple [.Name x px,.Name y py] kt pt] (.Tuple [a,b] k2 pt2) X.env=pure (AA [x,y]))
  (hs:swapsWithSole [.Tuple [.Name x px,.Name y py] kt pt] (.Tuple [a,b] k2 pt2) pos.line X.env=pure false:=by rfl) :
  PS X (.Assign [.Tuple [.Name x px,.Name y py] kt pt] (.Tuple [a,b] k2 pt2) pos) (yfn i j ta):=by
 intro pins s σ H D I h
 rw[exec_Assign_arm]
 refine AI (EY ?_)
 rw[hs]
 refine AI (AQ ?_)
 rw[if_neg (by decide)]
 refine AI (Tuple_ (thn (ha _ pins s σ H _ I h) λus s1 ⟨vs,H1,I1,r1,q1⟩=>?_))
 obtain⟨v,w,e1,q1⟩:=q1
 subst e1
 obtain⟨u1,u2,rfl,rv,rw'⟩:∃u1 u2,us=[u1,u2]/\RelV v u1/\RelV w u2:=by
  cases r1 with
  |cons p q =>
   cases q with
   |cons p' q' =>
    cases q'
    exact⟨_,_,rfl,p,p'⟩
 refine BM ?_ (by show 2<=sizeLine;decide)
 have I2:Inv X pins σ H1 { s1 with heap:=s1.heap.push { cls:=.type "tuple",data:=.seq [u1,u2].toArray } }:=I1.kept (t':=s1.toks) λb o e=>AN _ e
 rw[hw]
 refine AI (AQ ?_)
 show AZ (model X.prog X.w) X.A (do rule "assign.swapped-stores";let items <- unpackItems (.ref s1.heap.objs.size) 2 AE;assignInOrder [λv=>bindName X.env y v,λv=>bindName X.env x v] items.reverse;pure Flow.next) _ _ _
 refine AI (Ee (AI (unpackItems_tuple (items:=#[u1,u2]) (I.ok.hd hc) (FO s1.heap _) λh' hx'=>?_)))
 have I3:=I2.kept (h':=h') (t':=s1.toks) λb o e=>hx' b o (An (AY e)) e
 show AZ _ _ (assignInOrder [λv=>bindName X.env y v,λv=>bindName X.env x v] [u2,u1] >>= λ_=>pure Flow.next) _ _ _
 refine AI (Dv (wpAny_bindName (zbD I3 hN hj (.inl hy) rw' (λs2 I4=>?_) (.inr hy))))
 refine Dv (wpAny_bindName (zbD I4 hN hi (.inl hx) rv (λs3 I5=>Fg (AQ ?_)) (.inr hx)))
 rw[Gd _ _ (BG hij)]at I5
 exact⟨_,H1,I5,q1⟩
def ygS (i:Nat)(te:TE)(ti:TIp):TS:=λD σ H=>∃x,σ[i]?=AA (AA x)/\te σ H λy H1=>ti x y H1 λz H2=>D.nx (σ.set i (AA z)) H2
theorem zke {i:Nat}{x:AR}{e:AV}{te:TE}{op:D6}{ti:TIp}{pos':CT}(hN:X.N.Nodup)(hi:X.N[i]?=AA x)(hx:Loc X.env.scope x)(he:PE X e te)(ho:PIp X op ti)(hf:X.fn x=AC \/ X.env.scope.names.lookup x=AA .local:=by first|exact .inl rfl|exact .inr rfl|assumption) :
  PS X (.AugAssign (.Name x pos') op e pos) (ygS i te ti):=by
 intro pins s σ H D I h
 obtain⟨v,e1,h⟩:=h
 obtain⟨m,hn,hl⟩:=I.loc
 have vis:Vis X.env.scope x:=by rcases hx with k|k;exact .inl k;exact .inr (.inl k)
 obtain⟨u,r,l⟩:=hl i x v hi e1 vis
 refine wpAny_AugAssign_Name ?_
 have go:AZ (model X.prog X.w) X.A (eval e X.env) (λw s₂=>AZ (model X.prog X.w) X.A (inplaceOp op u w) (λr s₃=>AZ (model X.prog X.w) X.A (storeName X.env x r) (λ_=>SP X pins D .next) X.xe s₃) X.xe s₂) X.xe s:=by
  refine thn (he pins s σ H _ I h) λw s1 ⟨y,H1,I1,r1,q1⟩=>?_
  refine thn (ho pins s1 σ H1 v y u w _ I1 r r1 q1) λz s2 ⟨zv,H2,I2,r2,q2⟩=>?_
  exact zbD I2 hN hi hx r2 (λs3 I3=>⟨_,H2,I3,q2⟩) hf
 rcases l with⟨hk,hm⟩|⟨hk,c,hc,hcell⟩
 .exact FD I.ok.kind hk hn hm go
 .rcases hk with hk|hk
  .exact FR I.ok.kind hk hc hcell go
  .rcases hx with k|k
   .have:X.env.scope.names.lookup x=AA .free:=hk
    rw[k]at this;cases this
   .have:X.env.scope.names.lookup x=AA .free:=hk
    rw[k]at this;cases this
def ipI (f:Int->Int->Int):TIp:=λx y H Q=>∃i j,x=.int i/\y=.int j/\Q (.int (f i j)) H
theorem zoo:PIp X .Add (ipI λi j=>i+j):=by
 intro pins s σ H x y v u Q I r1 r2 h
 obtain⟨i,j,e1,e2,q⟩:=h
 subst e1;subst e2
 obtain⟨t,rfl⟩:=r1
 obtain⟨t',rfl⟩:=r2
 exact GZ ⟨.int _,H,I.tok _,⟨_,rfl⟩,q⟩
end
section
variable {X:Cx}{pos:CT}
def ydK (c:TT)(tb:TS):TS:=λD σ H=>∃W:Nat->St->Hp->Prop,(∃m,W m σ H)/\∀m σ H,W m σ H ->
 c σ H λb H1=>if b=AC then ∃N:St->Hp->Prop,(∀σ' H',N σ' H'->∃m',m' < m/\W m' σ' H')/\tb { D with nx:=N,ct:=N,bk:=D.nx } σ H1 else D.nx σ H1
theorem ziT {c:AV}{body:List Bv}{tc:TT}{tb:TS}(hp:E6 (model X.prog X.w) X.A X.env X.xe)(hc:PT X c tc)(hb:PSs X body tb):PS X (.While c body [] pos) (ydK tc tb):=by
 intro pins s σ H D I h
 obtain⟨W,⟨m0,w0⟩,turn⟩:=h
 refine wpAny_While (codeAny_whileLoop (λn s'=>∃σ' H',Inv X pins σ' H' s'/\W n σ' H') ?_ m0 ⟨σ,H,I,w0⟩)
 rintro n s1 ⟨σ1,H1,I1,w1⟩
 refine CS hp (thn (hc pins s1 σ1 H1 _ I1 (turn n σ1 H1 w1)) λb s2 ⟨H2,I2,q2⟩=>?_)
 cases b with
 |true =>
  obtain⟨N,hN,q2⟩:=q2
  rw[if_pos rfl]
  refine CS hp (thn (hb pins s2 σ1 H2 _ I2 q2) λf s3 q3=>?_)
  cases f with
  |next =>
   obtain⟨σ3,H3,I3,n3⟩:=q3
   obtain⟨m',hm,w3⟩:=hN σ3 H3 n3
   exact⟨m',hm,σ3,H3,I3,w3⟩
  |cont =>
   obtain⟨σ3,H3,I3,n3⟩:=q3
   obtain⟨m',hm,w3⟩:=hN σ3 H3 n3
   exact⟨m',hm,σ3,H3,I3,w3⟩
  |brk=>exact q3
  |ret v=>exact q3
 |false =>
  rw[if_neg Az]
  exact D8 ⟨σ1,H2,I2,q2⟩
end
structure It where
 go:Nat->Hp->Prop
 yld:Nat->Hp->V->Hp->Prop
 stop:Nat->Hp->Prop
def ybw (X:Cx)(pins:List (AJ×CB))(H:Hp)(b:AJ):Prop :=
 H b=AE/\b≠X.env.locals/\b∉X.fs/\(b∈X.ex \/ X.s₀.heap.objs.size<=b)/\(∀x c,X.env.cells.lookup x=AA c->c≠b)/\∀p∈X.pn++pins,p.1≠b
theorem Inv.fpOk {X:Cx}{pins:List (AJ×CB)}{σ:St}{H H':Hp}{s:AK}{b:AJ}(I:Inv X pins σ H s)(hb:s.heap.objs.size<=b)(hn:H' b=AE):ybw X pins H' b:=by
 refine⟨hn,Ef (A3 I.lt hb),I.nofs hb,.inr (BZ I.sz hb),λx c e z=>?_,λp hp z=>?_⟩
 .obtain⟨v,q⟩:=I.cell x c e
  exact absurd (A3 q.lt (by rw[z];exact hb)) (Cu _)
 .exact absurd (A3 (AY (I.pin p hp).1) (by rw[z];exact hb)) (Cu _)
structure Turn (P:A4)(w:Af)(K:AG)(tg:AV)(J:It)(fp:List AJ)(it:AJ)(tn:Nat->BB->Prop):Prop where
 mem:it∈fp
 obj:∀i h,tn i h->∀b∈fp,∃o,h.get? b=AA o/\∀v,o.data ≠ .cell v
 keep:∀i h h',tn i h->(∀b∈fp,∀o,h.get? b=AA o->h'.get? b=AA o)->tn i h'
 item:∀(X:Cx),X.prog=P->X.w=w->X.K=K->X.calm=AC->∀(i:Nat) (pins:List (AJ×CB)) (s:AK) (σ:St) (H:Hp) (E:AH->AK->Prop),Inv X pins σ H s->(∀b∈fp,ybw X pins H b)->tn i s.heap->J.go i H ->
  AZ (model P w) X.A (pyNext (.ref it)) (λr s1=>∃u,r=AA u /\
   AZ (model P w) X.A (letOwnedTupleGo tg (.ref it) u) (λ_ s2=>∃x H',Inv X pins σ H' s2/\RelV x u/\J.yld i H x H'/\tn (i+1) s2.heap/\∀b∈fp,H' b=AE) E s1) E s
 done:∀(X:Cx),X.prog=P->X.w=w->X.K=K->X.calm=AC->∀(i:Nat) (pins:List (AJ×CB)) (s:AK) (σ:St) (H:Hp) (E:AH->AK->Prop),Inv X pins σ H s->(∀b∈fp,ybw X pins H b)->tn i s.heap->J.stop i H ->
  AZ (model P w) X.A (pyNext (.ref it)) (λr s1=>r=AE/\Inv X pins σ H s1) E s
 self:∀(A:Ar) (i:Nat) (s:AK) (Q:AH->AK->Prop) (E:AH->AK->Prop),tn i s.heap->Q (.ref it) s->AZ (model P w) A (pyIter (.ref it)) Q E s
abbrev TI:=St->Hp->(It->Hp->Prop)->Prop
def PIE (X:Cx)(pins:List (AJ×CB))(σ:St)(tg:AV)(R:It->Hp->Prop)(itv:AH)(s2:AK):Prop :=
 ∃(it:AJ) (fp:List AJ) (tn:Nat->BB->Prop) (J:It) (H':Hp),itv=.ref it/\Inv X pins σ H' s2/\Turn X.prog X.w X.K tg J fp it tn/\tn 0 s2.heap/\(∀b∈fp,ybw X pins H' b)/\R J H'
def PI (X:Cx)(tg iter:AV)(wi:TI):Prop :=
 ∀(pins:List (AJ×CB)) (s:AK) (σ:St) (H:Hp) (R:It->Hp->Prop),Inv X pins σ H s->wi σ H R ->
  AZ (model X.prog X.w) X.A (eval iter X.env) (λv s1=>AZ (model X.prog X.w) X.A (pyIter v) (PIE X pins σ tg R) X.xe s1) X.xe s
theorem zlb {M:Model}{A:Ar}{E:AH->AK->Prop}{s:AK}{tg:AV}{it:AJ}{u:AH}{o:CB}{n:String}{vs:Array AH}{Q:Unit->AK->Prop}(ho:s.heap.get? it=AA o)(hc:o.cls=.type n)(hd:o.data=.fields vs)
  (hn:["enumerate","zip","dict_itemiterator","dict_reverseitemiterator","odict_iterator","itertools.zip_longest","itertools.pairwise"].contains n=AD) (hQ:Q () s):AZ M A (letOwnedTupleGo tg (.ref it) u) Q E s:=by
 unfold letOwnedTupleGo
 cases tg <;> first
  | exact AQ hQ
  | (cases u <;> first
    | exact AQ hQ
    | (refine AI (wpAny_load ho ?_)
       rw[hc,hd]
       show AZ M A (if (["enumerate","zip","dict_itemiterator","dict_reverseitemiterator","odict_iterator","itertools.zip_longest","itertools.pairwise"].contains n && vs[0]? == AA (rawInt _))=AC then _ else _) Q E s
       rw[if_neg (by intro h;rw[hn,Bool.false_and]at h;cases h)]
       exact AQ hQ))
def Itl (K:AG)(a:AJ):It :=
 ⟨λi H=>∃xs x,SqL K H a xs/\xs[i]?=AA x,λi H x H'=>H'=H/\∀xs,SqL K H a xs->xs[i]?=AA x,λi H=>∃xs,SqL K H a xs/\xs.length<=i⟩
def Itt (K:AG)(a:AJ):It :=
 ⟨λi H=>∃xs x,SqT K H a xs/\xs[i]?=AA x,λi H x H'=>H'=H/\∀xs,SqT K H a xs->xs[i]?=AA x,λi H=>∃xs,SqT K H a xs/\xs.length<=i⟩
def Itr (lo:Int)(n:Nat):It:=⟨λi _=>i<n,λi H x H'=>H'=H/\x=.int (lo+i),λi _=>n<=i⟩
theorem zh0 {P:A4}{w:Af}{K:AG}{tg:AV}(a it:AJ):Turn P w K tg (Itl K a) [it] it (λi h=>h.IsListIter it a i) where
 mem:=by simp
 obj:=λi h st b hb=>by
  have e:b=it:=by simpa using hb
  subst e
  obtain⟨o,e,c,d⟩:=st
  exact⟨o,e,λv z=>by rw[d]at z;cases z⟩
 keep:=λi h h' st k=>st.at λo e=>k it (by simp) o e
 item:=by
  intro X hP hw hK hc i pins s σ H E I hf st hg
  subst hP hw hK
  obtain⟨xs,x,hq,hx⟩:=hg
  obtain⟨its,rv,p,hz⟩:=I.list hq
  obtain⟨u,hu,ru⟩:=rv.get hx
  obtain⟨f0,f1,f2,f3,f4,f5⟩:=hf it (by simp)
  refine wpAny_pyNext_list_item st p.isList (x:=u) (by simpa using hu) λh' st' sb=>?_
  have I1:Inv X pins σ H { s with heap:=h' }:=I.turned (t':=s.toks) (λb o hb e=>(sb.2 b hb).trans e) f0 f1 f3 f4 f5
  obtain⟨o,e,c,d⟩:=id st'
  exact⟨u,rfl,zlb (s:={ s with heap:=h' }) e c d (by decide) ⟨x,H,I1,ru,⟨rfl,λys hy=>by rw[I.list_inj hy hq];exact hx⟩,st',λb hb=>(hf b hb).1⟩⟩
 done:=by
  intro X hP hw hK hc i pins s σ H E I hf st hg
  subst hP hw hK
  obtain⟨xs,hq,hx⟩:=hg
  obtain⟨its,rv,p,hz⟩:=I.list hq
  obtain⟨f0,f1,f2,f3,f4,f5⟩:=hf it (by simp)
  have hl:=rv.length
  exact wpAny_pyNext_list_end (I.ok.hd hc) st p.isList (by simp;omega) λh' eb=>⟨rfl,I.turned (t':=s.toks) (λb o hb e=>eb b o hb e) f0 f1 f3 f4 f5⟩
 self:=λ_ _ _ _ _ st h=>wpAny_pyIter_listiter st h
theorem zge {P:A4}{w:Af}{K:AG}{tg:AV}(a it:AJ):Turn P w K tg (Itt K a) [it] it (λi h=>h.IsTupleIter it a i) where
 mem:=by simp
 obj:=λi h st b hb=>by
  have e:b=it:=by simpa using hb
  subst e
  obtain⟨o,e,c,d⟩:=st
  exact⟨o,e,λv z=>by rw[d]at z;cases z⟩
 keep:=λi h h' st k=>st.at λo e=>k it (by simp) o e
 item:=by
  intro X hP hw hK hc i pins s σ H E I hf st hg
  subst hP hw hK
  obtain⟨xs,x,hq,hx⟩:=hg
  obtain⟨its,rv,p,hz⟩:=I.tuple hq
  obtain⟨u,hu,ru⟩:=rv.get hx
  obtain⟨f0,f1,f2,f3,f4,f5⟩:=hf it (by simp)
  refine wpAny_pyNext_tuple_item st (show s.heap.IsTuple a its.toArray from p) (x:=u) (by simpa using hu) λh' st' sb=>?_
  have I1:Inv X pins σ H { s with heap:=h' }:=I.turned (t':=s.toks) (λb o hb e=>(sb.2 b hb).trans e) f0 f1 f3 f4 f5
  obtain⟨o,e,c,d⟩:=id st'
  exact⟨u,rfl,zlb (s:={ s with heap:=h' }) e c d (by decide) ⟨x,H,I1,ru,⟨rfl,λys hy=>by rw[I.tuple_inj hy hq];exact hx⟩,st',λb hb=>(hf b hb).1⟩⟩
 done:=by
  intro X hP hw hK hc i pins s σ H E I hf st hg
  subst hP hw hK
  obtain⟨xs,hq,hx⟩:=hg
  obtain⟨its,rv,p,hz⟩:=I.tuple hq
  obtain⟨f0,f1,f2,f3,f4,f5⟩:=hf it (by simp)
  have hl:=rv.length
  exact wpAny_pyNext_tuple_end (I.ok.hd hc) st (show s.heap.IsTuple a its.toArray from p) (by simp;omega) λh' eb=>⟨rfl,I.turned (t':=s.toks) (λb o hb e=>eb b o hb e) f0 f1 f3 f4 f5⟩
 self:=λ_ _ _ _ _ st h=>wpAny_pyIter_tupleiter st h
theorem zf9 {P:A4}{w:Af}{K:AG}{tg:AV}(it:AJ)(lo:Int)(n:Nat):Turn P w K tg (Itr lo n) [it] it (λi h=>IsRangeIter h it (lo+(i:Nat)*1) ((n:Int) - (i:Nat)) 1) where
 mem:=by simp
 obj:=λi h st b hb=>by
  have e:b=it:=by simpa using hb
  subst e
  exact⟨_,st,λv z=>by
   have z':Data.fields _=Data.cell v:=z
   cases z'⟩
 keep:=λi h h' st k=>k it (by simp) _ st
 item:=by
  intro X hP hw hK hc i pins s σ H E I hf st hg
  subst hP hw hK
  obtain⟨f0,f1,f2,f3,f4,f5⟩:=hf it (by simp)
  have W:=Walks.range (prog:=X.prog) (w:=X.w) (I.ok.hd hc) it lo 1 n
  refine W.item i s _ _ hg st λv h' tk hv st' kk=>?_
  obtain⟨t,rfl⟩:=hv
  have I1:Inv X pins σ H { s with heap:=h',toks:=tk }:=I.turned (λb o hb e=>kk b o (by simpa using hb) e) f0 f1 f3 f4 f5
  refine⟨_,rfl,zlb (s:={ s with heap:=h',toks:=tk }) (n:="range_iterator") st' rfl rfl (by decide) ⟨.int (lo+i),H,I1,⟨t,?_⟩,⟨rfl,rfl⟩,st',λb hb=>(hf b hb).1⟩⟩
  rw[Cd]
 done:=by
  intro X hP hw hK hc i pins s σ H E I hf st hg
  subst hP hw hK
  obtain⟨f0,f1,f2,f3,f4,f5⟩:=hf it (by simp)
  exact wpAny_pyNext_range_end (I.ok.hd hc) st (by have:n<=i:=hg;omega) λh' eb=>⟨rfl,I.turned (t':=s.toks) (λb o hb e=>eb b o hb e) f0 f1 f3 f4 f5⟩
 self:=λ_ _ _ _ _ st h=>wpAny_pyIter_rangeiter st h
section
variable {X:Cx}{tg:AV}
theorem zjy {pins:List (AJ×CB)}{σ:St}{H:Hp}{s:AK}{R:It->Hp->Prop}{E:AH->AK->Prop}{lo hi:Int}{t u v:HF}{tk:Nat}(I:Inv X pins σ H s)(h1:-(2^62)<=lo)(h2:lo<2^62)(h3:-(2^62)<=hi)(h4:hi<2^62)
  (q:R (Itr lo (hi - lo).toNat) H):AZ (model X.prog X.w) X.A (pyIter (.ref s.heap.objs.size)) (PIE X pins σ tg R) E { s with heap:=s.heap.push { cls:=.type "range",data:=.fields #[.int lo t,.int hi u,.int 1 v] },toks:=tk }:=by
 refine wpAny_pyIter_range (IsRange.new ..) (small_one h1 h2 h3 h4) ?_
 have I1:Inv X pins σ H { s with heap:=s.heap.push { cls:=.type "range",data:=.fields #[.int lo t,.int hi u,.int 1 v] },toks:=tk }:=I.kept λb o e=>AN _ e
 refine⟨(s.heap.push { cls:=.type "range",data:=.fields #[.int lo t,.int hi u,.int 1 v] }).objs.size,[(s.heap.push { cls:=.type "range",data:=.fields #[.int lo t,.int hi u,.int 1 v] }).objs.size],_,_,H,rfl,
  I1.kept (t':=tk) λb o e=>AN _ e,zf9 _ lo (hi - lo).toNat,?_,λb hb=>?_,q⟩
 .have e1:lo+((0:Nat):Int)*1=lo:=by simp
  have e2:(((hi - lo).toNat:Nat):Int) - ((0:Nat):Int)=Gh lo hi 1:=by rw[rangeSize_one];split <;> omega
  show IsRangeIter _ _ (lo+((0:Nat):Int)*1) ((((hi - lo).toNat:Nat):Int) - ((0:Nat):Int)) 1
  rw[e1,e2]
  exact A2 _ rfl
 .have e:b=(s.heap.push { cls:=.type "range",data:=.fields #[.int lo t,.int hi u,.int 1 v] }).objs.size:=by simpa using hb
  subst e
  exact I1.fpOk (AT _) (I1.hok.fresh (AT _))
def yeq (ta:TA):TI:=λσ H R=>ta σ H λvs H1=>∃j:Int,vs=[.int j]/\-(2^62)<=j/\j<2^62/\R (Itr 0 j.toNat) H1
theorem zgM {a:AV}{ta:TA}{p pos:CT}(hg:Gl X "range")(hm:X.mg "range"=AE)(ha:PA X [a] ta)(hs:starEach [a] X.env=[(AD,eval a X.env)]:=by rfl):PI X tg (.Call (.Name "range" p) [a] [] pos) (yeq ta):=by
 intro pins s σ H R I h
 refine Call_ (zdy I hg hm boot_range (CD (thn (ha pos pins s σ H _ I h) λus s1 ⟨vs,H1,I1,r1,q1⟩=>?_) hs rfl))
 obtain⟨j,e,q1,q2,q⟩:=q1
 subst e
 cases r1 with
 |cons r rr =>
  cases rr
  obtain⟨t,rfl⟩:=r
  exact call_range_1 (zjy I1 (by omega) (by omega) q1 q2 (by simpa using q))
def yfw (wi:TI)(g:TG)(tb:TS):TS:=λD σ H=>wi σ H λJ H1=>∃W:Nat->Nat->St->Hp->Prop,(∃m,W 0 m σ H1)/\∀i m σ H,W i m σ H ->
 (J.stop i H/\D.nx σ H) \/ (J.go i H/\∃N:St->Hp->Prop,(∀σ' H',N σ' H'->∃m',m' < m/\W (i+1) m' σ' H')/\∀x H',J.yld i H x H'->g x σ H' λσ2 H2=>tb { D with nx:=N,ct:=N,bk:=D.nx } σ2 H2)
def ybp (fp:List AJ)(h:BB):List (AJ×CB):=fp.filterMap λb=>(h.get? b).map λo=>(b,o)
theorem za9 {fp:List AJ}{h:BB}{b:AJ}{o:CB}(hb:b∈fp)(e:h.get? b=AA o):(b,o)∈ybp fp h:=Dw.mpr ⟨b,hb,by rw[e];rfl⟩
theorem zgS {fp:List AJ}{h:BB}{p:AJ×CB}(hp:p∈ybp fp h):p.1∈fp/\h.get? p.1=AA p.2:=by
 obtain⟨b,hb,e⟩:=Dw.mp hp
 cases q:h.get? b with
 |none=>rw[q]at e;cases e
 |some o =>
  rw[q]at e
  have e':(b,o)=p:=AX e
  subst e'
  exact⟨hb,q⟩
theorem Inv.pinned {pins:List (AJ×CB)}{σ:St}{H:Hp}{s:AK}{fp:List AJ}(I:Inv X pins σ H s)(hf:∀b∈fp,ybw X pins H b)(ho:∀b∈fp,∃o,s.heap.get? b=AA o/\∀v,o.data ≠ .cell v):Inv X (pins++ybp fp s.heap) σ H s :=
 I.pins_of λp hp=>(Ag.mp hp).elim (λz=>I.pin p (BH _ z)) λz=>by
  obtain⟨hb,e⟩:=zgS z
  obtain⟨f0,f1,f2,_⟩:=hf p.1 hb
  obtain⟨o,e',d⟩:=ho p.1 hb
  rw[e]at e';cases e'
  exact⟨e,f0,f1,f2,d⟩
theorem Inv.unpinned {pins pl:List (AJ×CB)}{σ:St}{H:Hp}{s:AK}(I:Inv X (pins++pl) σ H s):Inv X pins σ H s:=I.pins_of λp hp=>I.pin p (BH _ (FC _ hp))
theorem zmN {iter:AV}{body:List Bv}{wi:TI}{g:TG}{tb:TS}{pos:CT}(hp:E6 (model X.prog X.w) X.A X.env X.xe)(hc:X.calm=AC)(hi:PI X tg iter wi)(hg:PG X tg g)(hb:PSs X body tb)
  (hs:∀x,foldedSetIterable iter X.env x=pure x:=by intro _;rfl):PS X (.For tg iter body [] pos) (yfw wi g tb):=by
 intro pins s σ H D I h
 refine wpAny_For (thn (hi pins s σ H _ I h) λv s1 h1=>thn h1 λitv s2 h2=>?_) hs
 obtain⟨it,fp,tn,J,H2,e,I2,T,st2,f2,W,⟨m0,w0⟩,turn⟩:=h2
 subst e
 have stat:∀{H':Hp},(∀b∈fp,H' b=AE)->∀b∈fp,ybw X pins H' b:=λhn b hb=>⟨hn b hb,(f2 b hb).2⟩
 refine codeAny_forLoop_any (λn s'=>∃i σ' H',Inv X pins σ' H' s'/\tn i s'.heap/\(∀b∈fp,H' b=AE)/\W i n σ' H') ?_ m0 ⟨0,σ,H2,I2,st2,λb hb=>(f2 b hb).1,w0⟩
 rintro n s3 ⟨i,σ3,H3,I3,st3,fr3,w3⟩
 rcases turn i n σ3 H3 w3 with⟨stop,qn⟩|⟨go,N,hN,step⟩
 .refine CS hp (thn (T.done X rfl rfl rfl hc i pins s3 σ3 H3 X.xe I3 (stat fr3) st3 stop) λr s4 ⟨hr,I4⟩=>?_)
  subst hr
  exact D8 ⟨σ3,H3,I4,qn⟩
 .refine CS hp (thn (T.item X rfl rfl rfl hc i pins s3 σ3 H3 X.xe I3 (stat fr3) st3 go) λr s4 ⟨u,hr,h4⟩=>?_)
  subst hr
  refine CS hp (thn h4 λ_ s5 ⟨x,H5,I5,r5,y5,st5,fr5⟩=>?_)
  have I5':=I5.pinned (stat fr5) (T.obj _ _ st5)
  refine CS hp (thn (hg _ s5 σ3 H5 x u _ I5' r5 (step x H5 y5)) λ_ s6 ⟨σ6,H6,I6,q6⟩=>?_)
  refine CS hp (thn (hb _ s6 σ6 H6 _ I6 q6) λf s7 q7=>?_)
  have again:∀{σ7:St} {H7:Hp},Inv X (pins++ybp fp s5.heap) σ7 H7 s7->N σ7 H7->∃m,m<n/\∃i σ' H',Inv X pins σ' H' s7/\tn i s7.heap/\(∀b∈fp,H' b=AE)/\W i m σ' H':=λ{σ7 H7} I7 n7=>by
   obtain⟨m',hm,w7⟩:=hN σ7 H7 n7
   refine⟨m',hm,i+1,σ7,H7,I7.unpinned,T.keep _ _ _ st5 λb hb o e=>(I7.pin (b,o) (BH _ (BH _ (za9 hb e)))).1,λb hb=>?_,w7⟩
   obtain⟨o,e,d⟩:=T.obj _ _ st5 b hb
   exact(I7.pin (b,o) (BH _ (BH _ (za9 hb e)))).2.1
  cases f with
  |next=>obtain⟨σ7,H7,I7,n7⟩:=q7;exact again I7 n7
  |cont=>obtain⟨σ7,H7,I7,n7⟩:=q7;exact again I7 n7
  |brk=>obtain⟨σ7,H7,I7,q7⟩:=q7;exact⟨σ7,H7,I7.unpinned,q7⟩
  |ret v=>obtain⟨x7,σ7,H7,I7,r7,q7⟩:=q7;exact⟨x7,σ7,H7,I7.unpinned,r7,q7⟩
end
abbrev R2:=V->V->Hp->VK->Prop
def OpR (X:Cx)(f:AH->AH->Gc AH)(r:R2):Prop :=
 ∀(pins:List (AJ×CB)) (s:AK) (σ:St) (H:Hp) (x y:V) (v u:AH) (Q:VK),Inv X pins σ H s->RelV x v->RelV y u->r x y H Q ->
  AZ (model X.prog X.w) X.A (f v u) (EP X pins σ Q) X.xe s
def UnR (X:Cx)(f:AH->Gc AH)(r:V->Hp->VK->Prop):Prop :=
 ∀(pins:List (AJ×CB)) (s:AK) (σ:St) (H:Hp) (x:V) (v:AH) (Q:VK),Inv X pins σ H s->RelV x v->r x H Q ->
  AZ (model X.prog X.w) X.A (f v) (EP X pins σ Q) X.xe s
def yao (X:Cx)(f:AH)(r:List V->Hp->VK->Prop):Prop :=
 ∀(pins:List (AJ×CB)) (s:AK) (σ:St) (H:Hp) (xs:List V) (us:List AH) (Q:VK),Inv X pins σ H s->Vals xs us->r xs H Q ->
  AZ (model X.prog X.w) X.A (call f us) (EP X pins σ Q) X.xe s
def yfT (X:Cx)(r:V->Hp->(Bool->Hp->Prop)->Prop):Prop :=
 ∀(pins:List (AJ×CB)) (s:AK) (σ:St) (H:Hp) (x:V) (v:AH) (Q:Bool->Hp->Prop),Inv X pins σ H s->RelV x v->r x H Q ->
  AZ (model X.prog X.w) X.A (truthy v) (TP X pins σ Q) X.xe s
def tOp (r:R2)(ta tb:TE):TE:=λσ H Q=>ta σ H λx H1=>tb σ H1 λy H2=>r x y H2 Q
def tUn (r:V->Hp->VK->Prop)(ta:TE):TE:=λσ H Q=>ta σ H λx H1=>r x H1 Q
def rI (C:Int->Int->Prop)(g:Int->Int->V):R2:=λx y H Q=>∃i j,x=.int i/\y=.int j/\C i j/\Q (g i j) H
def rI0 (g:Int->Int->V):R2:=λx y H Q=>∃i j,x=.int i/\y=.int j/\Q (g i j) H
def rU (g:Int->V):V->Hp->VK->Prop:=λx H Q=>∃i,x=.int i/\Q (g i) H
section
variable {X:Cx}{a b c:AV}{ta tb tc:TE}{pos:CT}
theorem yeG (ha:PE X a ta)(hb:PE X b tb){pins:List (AJ×CB)}{s:AK}{σ:St}{H:Hp}{R:V->V->Hp->Prop}(I:Inv X pins σ H s)
  (h:ta σ H λx H1=>tb σ H1 λy H2=>R x y H2) {Q:AH->AK->Prop} {f:AH->AH->Gc AH}
  (hf:∀v u s2 x y H2,Inv X pins σ H2 s2->RelV x v->RelV y u->R x y H2->AZ (model X.prog X.w) X.A (f v u) Q X.xe s2) :
  AZ (model X.prog X.w) X.A (eval a X.env) (λv s₁=>AZ (model X.prog X.w) X.A (eval b X.env) (λu s₂=>AZ (model X.prog X.w) X.A (f v u) Q X.xe s₂) X.xe s₁) X.xe s:=by
 refine thn (ha pins s σ H _ I h) λv s1 ⟨x,H1,I1,r1,q1⟩=>?_
 refine thn (hb pins s1 σ H1 _ I1 q1) λu s2 ⟨y,H2,I2,r2,q2⟩=>?_
 exact hf v u s2 x y H2 I2 r1 r2 q2
theorem zox {op:D6}{r:R2}(ho:OpR X (binaryOp op) r)(ha:PE X a ta)(hb:PE X b tb):PE X (.BinOp a op b pos) (tOp r ta tb):=by
 intro pins s σ H Q I h
 exact wpAny_BinOp (yeG ha hb I h λv u s2 x y H2 I2 rx ry q=>ho pins s2 σ H2 x y v u Q I2 rx ry q)
theorem zoP {op:UnaryOp}{r:V->Hp->VK->Prop}(ho:UnR X (unaryOp op) r)(ha:PE X a ta):PE X (.UnaryOp op a pos) (tUn r ta):=by
 intro pins s σ H Q I h
 exact UnaryOp_ (thn (ha pins s σ H _ I h) λv s1 ⟨x,H1,I1,r1,q1⟩=>ho pins s1 σ H1 x v Q I1 r1 q1)
theorem opI {f:AH->AH->Gc AH}{C:Int->Int->Prop}{g:Int->Int->Int}
  (rule:∀(i j:Int) (t u:HF) (s:AK) (Q:AH->AK->Prop) (E:AH->AK->Prop),C i j->Q (.int (g i j) s.toks) { s with toks:=s.toks+1 }->AZ (model X.prog X.w) X.A (f (.int i t) (.int j u)) Q E s) :
  OpR X f (rI C λi j=>.int (g i j)):=by
 intro pins s σ H x y v u Q I rx ry h
 obtain⟨i,j,rfl,rfl,hc,q⟩:=h
 obtain⟨t,rfl⟩:=rx
 obtain⟨t',rfl⟩:=ry
 exact rule i j t t' s _ _ hc ⟨.int (g i j),H,I.tok _,⟨_,rfl⟩,q⟩
theorem ydJ {f:AH->AH->Gc AH}{g:Int->Int->Int}
  (rule:∀(i j:Int) (t u:HF) (s:AK) (Q:AH->AK->Prop) (E:AH->AK->Prop),Q (.int (g i j) s.toks) { s with toks:=s.toks+1 }->AZ (model X.prog X.w) X.A (f (.int i t) (.int j u)) Q E s) :
  OpR X f (rI0 λi j=>.int (g i j)):=by
 intro pins s σ H x y v u Q I rx ry h
 obtain⟨i,j,rfl,rfl,q⟩:=h
 obtain⟨t,rfl⟩:=rx
 obtain⟨t',rfl⟩:=ry
 exact rule i j t t' s _ _ ⟨.int (g i j),H,I.tok _,⟨_,rfl⟩,q⟩
theorem yd2 {f:AH->AH->Gc AH}{g:Int->Int->Bool}
  (rule:∀(i j:Int) (t u:HF) (s:AK) (Q:AH->AK->Prop) (E:AH->AK->Prop),Q (.bool (g i j)) s->AZ (model X.prog X.w) X.A (f (.int i t) (.int j u)) Q E s) :
  OpR X f (rI0 λi j=>.bl (g i j)):=by
 intro pins s σ H x y v u Q I rx ry h
 obtain⟨i,j,rfl,rfl,q⟩:=h
 obtain⟨t,rfl⟩:=rx
 obtain⟨t',rfl⟩:=ry
 exact rule i j t t' s _ _ ⟨.bl (g i j),H,I,rfl,q⟩
def ydW (i j:Int):Prop:=0<=j/\j<=1000000/\i.natAbs<2^64
def ydz (i j:Int):Prop:=(-(2^64)<i/\i<2^64) \/ (-(2^64)<j/\j<2^64)
theorem ydz.ok {i j:Int}(h:ydz i j):IntMulOk i j:=by
 rcases h with⟨h1,h2⟩|⟨h1,h2⟩
 .exact .of_left (intBits_le_64 h1 h2)
 .exact .of_right (intBits_le_64 h1 h2)
theorem zgr (k:Nat):(0:Int)<=2^k:=by
 rw[two_pow_cast]
 exact Int.natCast_nonneg _
theorem znP:OpR X (binaryOp .Add) (rI0 λi j=>.int (i+j)):=ydJ λ_ _ _ _ _ _ _ q=>add_int q
theorem zor:OpR X (binaryOp .Sub) (rI0 λi j=>.int (i - j)):=ydJ λ_ _ _ _ _ _ _ q=>sub_int q
theorem zmA:OpR X (binaryOp .Mult) (rI ydz λi j=>.int (i*j)):=opI λ_ _ _ _ _ _ _ hc q=>mul_int q hc.ok
theorem zmW:OpR X (binaryOp .Mod) (rI (λ_ j=>0<j) λi j=>.int (i%j)):=opI λi j _ _ _ _ _ hc q=>by
 have h1:(0:Int)<j:=hc
 exact mod_int' (by omega) (by rw[Int.fmod_eq_emod_of_nonneg i (by omega)];exact q)
theorem zos:OpR X (binaryOp .Pow) (rI ydW λi j=>.int (i^j.toNat)):=opI λ_ _ _ _ _ _ _ hc q=>pow_int_small hc.1 hc.2.1 hc.2.2 q
theorem zn3:OpR X (binaryOp .LShift) (rI ydW λi j=>.int (i*2^j.toNat)):=opI λ_ _ _ _ _ _ _ hc q=>lshift_int_small hc.1 hc.2.1 hc.2.2 q
theorem znD:OpR X (binaryOp .RShift) (rI (λ_ j=>0<=j) λi j=>.int (i / 2^j.toNat)):=opI λi j _ _ _ _ _ hc q =>
 rshift_int hc (by rw[Dx i (zgr _)];exact q)
theorem zm5:OpR X (binaryOp .BitAnd) (rI0 λi j=>.int (BS i j)):=ydJ λ_ _ _ _ _ _ _ q=>and_int q
theorem zoJ:OpR X (binaryOp .BitOr) (rI0 λi j=>.int (Bj i j)):=ydJ λ_ _ _ _ _ _ _ q=>or_int q
theorem zm7:OpR X (binaryOp .BitXor) (rI0 λi j=>.int (Bl i j)):=ydJ λ_ _ _ _ _ _ _ q=>xor_int q
theorem unI {f:AH->Gc AH}{g:Int->Int}
  (rule:∀(i:Int) (t:HF) (s:AK) (Q:AH->AK->Prop) (E:AH->AK->Prop),Q (.int (g i) s.toks) { s with toks:=s.toks+1 }->AZ (model X.prog X.w) X.A (f (.int i t)) Q E s) :
  UnR X f (rU λi=>.int (g i)):=by
 intro pins s σ H x v Q I rx h
 obtain⟨i,rfl,q⟩:=h
 obtain⟨t,rfl⟩:=rx
 exact rule i t s _ _ ⟨.int (g i),H,I.tok _,⟨_,rfl⟩,q⟩
theorem znV:UnR X (unaryOp .USub) (rU λi=>.int (-i)):=unI λ_ _ _ _ _ q=>neg_int q
theorem zhl:OpR X (binaryOp .Add) (λx y H Q=>∃i k,x=.int i/\y=.bl k/\Q (.int (i+b2i k)) H):=by
 intro pins s σ H x y v u Q I rx ry h
 obtain⟨i,k,rfl,rfl,q⟩:=h
 obtain⟨t,rfl⟩:=rx
 cases ry
 exact add_int_bool ⟨.int (i+b2i k),H,I.tok _,⟨_,rfl⟩,q⟩
end
section
variable {X:Cx}{a b c:AV}{ta tb tc:TE}{pos:CT}
theorem zhV {pins:List (AJ×CB)}{σ:St}{H:Hp}{s:AK}{Q:VK}{k k':Bool}(I:Inv X pins σ H s)(q:Q (.bl k) H)(e:k=k'):EP X pins σ Q (.bool k') s:=by
 subst e
 exact⟨.bl k,H,I,rfl,q⟩
theorem zo8:OpR X (compareOp .Lt) (rI0 λi j=>.bl (decide (i<j))):=yd2 λ_ _ _ _ _ _ _ q=>lt_int q
theorem zoz:OpR X (compareOp .LtE) (rI0 λi j=>.bl (decide (i<=j))):=yd2 λ_ _ _ _ _ _ _ q=>le_int q
theorem zo7:OpR X (compareOp .Gt) (rI0 λi j=>.bl (decide (j<i))):=yd2 λ_ _ _ _ _ _ _ q=>gt_int q
theorem zo3:OpR X (compareOp .GtE) (rI0 λi j=>.bl (decide (j<=i))):=yd2 λ_ _ _ _ _ _ _ q=>ge_int q
theorem zg2:OpR X (compareOp .Lt) (λx y H Q=>∃i j,x=.str i/\y=.str j/\Q (.bl (decide (i.cps.toList<j.cps.toList))) H):=by
 intro pins s σ H x y v u Q I rx ry h
 obtain⟨i,j,rfl,rfl,q⟩:=h
 obtain⟨t,rfl⟩:=rx
 obtain⟨t',rfl⟩:=ry
 exact lt_str (zhV I q rfl)
theorem zhZ:OpR X (compareOp .In) (λx y H Q=>∃i j,x=.str i/\y=.str j/\Q (.bl (!(E7 j i 0 j.length 1).isEmpty)) H):=by
 intro pins s σ H x y v u Q I rx ry h
 obtain⟨i,j,rfl,rfl,q⟩:=h
 obtain⟨t,rfl⟩:=rx
 obtain⟨t',rfl⟩:=ry
 exact in_str (zhV I q rfl)
theorem zhU {op:FW}{r:R2}(ho:OpR X (compareOp op) r)(ha:PE X a ta)(hb:PE X b tb)(hm:behindInMarks op b=AD):PE X (.Compare a [op] [b] pos) (tOp r ta tb):=by
 intro pins s σ H Q I h
 exact wpAny_Compare1 (yeG ha hb I h λv u s2 x y H2 I2 rx ry q=>ho pins s2 σ H2 x y v u Q I2 rx ry q) hm
def ydB (t:TE):TT:=λσ H Q=>t σ H λx H'=>∃k,x=.bl k/\Q k H'
theorem zlL {op:FW}{r:R2}(ho:OpR X (compareOp op) r)(ha:PE X a ta)(hb:PE X b tb)(hm:behindInMarks op b=AD):PT X (.Compare a [op] [b] pos) (ydB (tOp r ta tb)):=by
 intro pins s σ H Q I h
 refine wpAny_isTrue_Compare1 (thn (ha pins s σ H _ I h) λv s1 ⟨x,H1,I1,r1,q1⟩=>thn (hb pins s1 σ H1 _ I1 q1) λu s2 ⟨y,H2,I2,r2,q2⟩ =>
  thn (ho pins s2 σ H2 x y v u _ I2 r1 r2 q2) λc s3 ⟨z,H3,I3,r3,k,e,q3⟩=>?_) hm
 subst e
 cases r3
 exact Ba ⟨H3,I3,q3⟩
def ycC (r r':R2)(ta tb tc:TE):TE:=λσ H Q=>ta σ H λx H1=>tb σ H1 λy H2=>r x y H2 λz H3=>∃k,z=.bl k /\
 (if k=AC then tc σ H3 λw' H4=>r' y w' H4 Q else Q (.bl AD) H3)
theorem ziD {op op':FW}{r r':R2}(ho:OpR X (compareOp op) r)(ho':OpR X (compareOp op') r')(ha:PE X a ta)(hb:PE X b tb)(hc:PE X c tc)
  (hm:lastMarks [op,op'] [b,c]=false:=by ac_rfl):PE X (.Compare a [op,op'] [b,c] pos) (ycC r r' ta tb tc):=by
 intro pins s σ H Q I h
 refine Compare_chain (thn (ha pins s σ H _ I h) λv s1 ⟨x,H1,I1,r1,q1⟩=>chain_link (thn (hb pins s1 σ H1 _ I1 q1) λu s2 ⟨y,H2,I2,r2,q2⟩ =>
  thn (ho pins s2 σ H2 x y v u _ I2 r1 r2 q2) λd s3 ⟨z,H3,I3,r3,k,e,q3⟩=>?_)) hm
 subst e
 cases r3
 refine Ba ?_
 cases k with
 |false=>exact ite_ff ⟨.bl AD,H3,I3,rfl,q3⟩
 |true=>exact ite_tt (chain_last (thn (hc pins s3 σ H3 _ I3 q3) λw' s4 ⟨z',H4,I4,r4,q4⟩=>ho' pins s4 σ H4 y z' u w' Q I4 r2 r4 q4))
theorem zjD {op op':FW}{r r':R2}(ho:OpR X (compareOp op) r)(ho':OpR X (compareOp op') r')(ha:PE X a ta)(hb:PE X b tb)(hc:PE X c tc)
  (hm:lastMarks [op,op'] [b,c]=false:=by ac_rfl):PT X (.Compare a [op,op'] [b,c] pos) (ydB (ycC r r' ta tb tc)):=by
 intro pins s σ H Q I h
 refine isTrue_chain (thn (ha pins s σ H _ I h) λv s1 ⟨x,H1,I1,r1,q1⟩=>test_link (thn (hb pins s1 σ H1 _ I1 q1) λu s2 ⟨y,H2,I2,r2,q2⟩ =>
  thn (ho pins s2 σ H2 x y v u _ I2 r1 r2 q2) λd s3 ⟨z,H3,I3,r3,k,e,q3⟩=>?_)) hm
 subst e
 cases r3
 refine Ba ?_
 cases k with
 |false =>
  obtain⟨k',e',q'⟩:=q3
  cases e'
  exact ite_ff ⟨H3,I3,q'⟩
 |true =>
  refine ite_tt (test_last (thn (hc pins s3 σ H3 _ I3 q3) λw' s4 ⟨z',H4,I4,r4,q4⟩=>thn (ho' pins s4 σ H4 y z' u w' _ I4 r2 r4 q4) λd' s5 ⟨z2,H5,I5,r5,k2,e2,q5⟩=>?_))
  subst e2
  cases r5
  exact Ba ⟨H5,I5,q5⟩
def yeV (K:AG)(x:V)(H:Hp)(k:Bool):Prop :=
 match x with
 | .non=>k=AD
 | .bl b=>k=b
 | .int i=>k=(i != 0)
 | .str y=>y.length<=sizeLine/\k=((y.length:Int) != 0)
 | .byt y=>y.size<=sizeLine/\k=((y.size:Int) != 0)
 | .ref p=>(∃xs,SqL K H p xs/\k=!xs.isEmpty) \/ (∃xs,SqT K H p xs/\k=!xs.isEmpty) \/ ∃kvs,H p=AA (.dK kvs)/\k=!kvs.isEmpty
 |_=>False
theorem zgt {κ:Type}{kvs:List (κ×V)}{vs:List (κ×AH)}(r:KV kvs vs):(!vs.isEmpty)=!kvs.isEmpty:=by
 cases r <;> rfl
theorem zdA {xs:List V}{its:List AH}(r:Vals xs its):(!its.toArray.isEmpty)=!xs.isEmpty:=by
 cases r <;> simp
theorem yaU:(sizeLine:Nat)<2^63:=by rw[D7];decide
theorem znI:yfT X (λx H Q=>∃k,yeV X.K x H k/\Q k H):=by
 intro pins s σ H x v Q I rx h
 obtain⟨k,e,q⟩:=h
 have hl:=yaU
 have hs:sizeLine=16777216:=D7
 cases x with
 |non =>
  cases rx
  have e':k=false:=e
  subst e'
  exact truthy_none ⟨H,I,q⟩
 |bl b =>
  cases rx
  have e':k=b:=e
  subst e'
  exact Ba ⟨H,I,q⟩
 |int i =>
  obtain⟨t,rfl⟩:=rx
  have e':k=(i != 0):=e
  subst e'
  exact PySem.P.truthy_int ⟨H,I,q⟩
 |str y =>
  obtain⟨t,rfl⟩:=rx
  obtain⟨hy,e'⟩:y.length<=sizeLine/\k=((y.length:Int) != 0):=e
  subst e'
  exact PySem.P.truthy_str (by omega) ⟨H,I.tok _,q⟩
 |byt y =>
  obtain⟨t,rfl⟩:=rx
  obtain⟨hy,e'⟩:y.size<=sizeLine/\k=((y.size:Int) != 0):=e
  subst e'
  exact PySem.W.truthy_bytes (by omega) ⟨H,I.tok _,q⟩
 |ref p =>
  cases rx
  have e':(∃xs,SqL X.K H p xs/\k=!xs.isEmpty) \/ (∃xs,SqT X.K H p xs/\k=!xs.isEmpty) \/ ∃kvs,H p=AA (.dK kvs)/\k=!kvs.isEmpty:=e
  rcases e' with⟨xs,hx,e'⟩|⟨xs,hx,e'⟩|⟨kvs,hx,e'⟩
  .subst e'
   obtain⟨its,r,pl,hz⟩:=I.list hx
   have hlen:=r.length
   exact wpAny_truthy_list pl.isList (by simp only[AW];omega) ⟨H,I.tok _,by rw[zdA r];exact q⟩
  .subst e'
   obtain⟨its,r,pl,hz⟩:=I.tuple hx
   have hlen:=r.length
   exact truthy_tuple pl (by simp only[AW];omega) ⟨H,I.tok _,by rw[zdA r];exact q⟩
  .subst e'
   obtain⟨hz,hS,vs,r,m⟩:kvs.length<=sizeLine/\(p == sysModules)=AD/\∃vs,KV kvs vs/\s.heap.DictOf (yV X.prog X.w) p vs:=I.hok p _ hx
   have hlen:kvs.length=vs.length:=EX r
   exact wpAny_truthy_dict hS m (by omega) ⟨H,I.tok _,by rw[zgt r];exact q⟩
 |_=>exact(show False from e).elim
theorem ziy (ha:PE X a ta)(he:∀whole,isTrue a X.env whole=(do let v <- whole;standAt a.pos;holding [v] (truthy v))) :
  PT X a (λσ H Q=>ta σ H λx H'=>∃k,yeV X.K x H' k/\Q k H'):=by
 intro pins s σ H Q I h
 exact isTrue_plain (thn (ha pins s σ H _ I h) λv s1 ⟨x,H1,I1,r1,q1⟩=>znI pins s1 σ H1 x v Q I1 r1 q1) (he _)
theorem zgl:OpR X (binaryOp .Add) (λx y H Q=>∃i j,x=.str i/\y=.str j/\i.length+j.length<=sizeLine/\Q (.str (i++j)) H):=by
 intro pins s σ H x y v u Q I rx ry h
 obtain⟨i,j,rfl,rfl,hz,q⟩:=h
 obtain⟨t,rfl⟩:=rx
 obtain⟨t',rfl⟩:=ry
 exact add_str (λt' tk=>⟨.str (i++j),H,I.tok _,⟨_,rfl⟩,q⟩) hz
theorem vals1 {x:V}{us:List AH}(r:Vals [x] us):∃u,us=[u]/\RelV x u:=by
 cases r with
 |cons r1 r2=>cases r2;exact⟨_,rfl,r1⟩
theorem vals2 {x y:V}{us:List AH}(r:Vals [x,y] us):∃u w',us=[u,w']/\RelV x u/\RelV y w':=by
 cases r with
 |cons r1 r2 =>
  cases r2 with
  |cons r3 r4=>cases r4;exact⟨_,_,rfl,r1,r3⟩
theorem zhv (hc:X.calm=AC):yao X (.builtin "max") (λxs H Q=>∃i j,xs=[.int i,.int j]/\Q (.int (if j > i then j else i)) H):=by
 intro pins s σ H xs us Q I r h
 obtain⟨i,j,rfl,q⟩:=h
 obtain⟨u,w',rfl,⟨t,rfl⟩,⟨t',rfl⟩⟩:=vals2 r
 refine max_two_ints (I.ok.hd hc) λh' tk k=>⟨_,H,I.kept k,?_,q⟩
 by_cases hj:j > i
 .rw[if_pos hj,if_pos hj];exact⟨_,rfl⟩
 .rw[if_neg hj,if_neg hj];exact⟨_,rfl⟩
end
structure ycW (h:BB)(x dx C:AJ)(mA:AR->Option AH):Prop where
 obj:h.get? x=AA (By C dx)
 ns:h.Ns1 dx mA
 ne:dx≠x
theorem zha {h:BB}{dx:AJ}{mA:AR->Option AH}(n:h.Ns1 dx mA):∃od,h.get? dx=AA od/\∀name,Dy name od=AA (mA name):=by
 obtain⟨o,es,ep,ho,hd,hk,_,hm⟩:=n
 refine⟨o,ho,λname=>?_⟩
 have e:=hm name
 unfold nsFind findBy at e
 rw[<- Array.find?_toList]at e
 unfold Dy
 rw[hd]
 dsimp only
 split
 .rename_i y q
  rw[q]at e
  exact congrArg AA e
 .rename_i q
  rw[q]at e
  have a:es.toList.any (·.refKey)=false:=by
   rw[List.any_eq_false]
   intro y hy
   obtain⟨z,t,hkey⟩:=hk y (Array.mem_toList_iff.mp hy)
   simp[DictEntry.refKey,hkey]
  have a':¬es.toList.any (·.refKey)=true:=by rw[a];exact Az
  rw[if_neg a']
  exact congrArg AA e
theorem ycW.look {h:BB}{x dx C:AJ}{mA:AR->Option AH}(I:ycW h x dx C mA):∃od,PySem.W.InstAt h x (By C dx) C (AA od)/\∀name,Dy name od=AA (mA name) :=
 let ⟨od,ho,hl⟩:=zha I.ns
 ⟨od,⟨I.obj,rfl,rfl,ho⟩,hl⟩
section
variable {prog:A4}{w:Af}{A:Ar}{E:AH->AK->Prop}{s:AK}{K:AG}{x dx C f:AJ}{mA:AR->Option AH}{name:AR}{v:AH}
theorem zkB {expr:Bool}{Q:AH->AK->Prop}(X:K.In s.heap)(I:ycW s.heap x dx C mA)(hg:Co K C name=AC)(hh:DF K C=AC)
  (ha:Av K (.ref C) name=AA AE) (hv:mA name=AA v) (hv':Fz v=AC) (h:Q v { s with toks:=s.toks+1 }) :
  AZ (model prog w) A (getAttr (.ref x) name expr) Q E s:=by
 obtain⟨od,J,hl⟩:=I.look
 exact PySem.W.get_value X J (Di hg).1 (PySem.W.findObj_own hh ha rfl (by rw[hl,hv])) hv' h
theorem ziG {pl:Gc Bool}{Q:AH×List AH->AK->Prop}(X:K.In s.heap)(I:ycW s.heap x dx C mA)(hg:Co K C name=AC)
  (hf:Av K (.ref C) name=AA (AA (.ref f))) (ht:Cp K (.ref f)=AC) (hv:mA name=AE) (h:Q (.ref f,[.ref x]) s) :
  AZ (model prog w) A (getMethod (.ref x) name pl) Q E s:=by
 obtain⟨od,J,hl⟩:=I.look
 exact PySem.W.method_fn X J (Di hg).1 (Di hg).2 hf (beq_iff_eq.mp ht) (by show (Dy name od).map (·.isSome)=AA AD;rw[hl,hv];rfl) h
theorem zkt {ns:List AR}{Q:Unit->AK->Prop}(X:K.In s.heap)(I:ycW s.heap x dx C mA)
  (hs:Av K (.ref C) "__setattr__"=AA (AA (.builtin "object.__setattr__"))) (hp:ER K C=AC) (ht:Es K C name=AA AE) (hh:DF K C=AC)
  (hw:Fe mA ns) (hsz:ns.length<=sizeLine)
  (h:∀h',ycW h' x dx C (λy=>if y=name then AA v else mA y)->C3 dx s.heap h'->Q () { s with heap:=h',toks:=s.toks+2 }) :
  AZ (model prog w) A (setAttr (.ref x) name v) Q E s:=by
 obtain⟨od,J,hl⟩:=I.look
 refine PySem.W.set_plain X J hs (PySem.W.osa_open (s:={ s with toks:=s.toks+1 }) (r:=AE) X J hp ht λb=>?_)
 obtain⟨cd,hc,hd'⟩:=PySem.W.any_some hh
 have hx:s.heap.get? x=AA ⟨.ref C,AA dx,.plain,#[]⟩:=I.obj
 refine AI (AQ (AI (AI (wpAny_loadPart hx (AI (HG (s:={ s with toks:=s.toks+1 }) (PySem.W.looks_clsIn X hc) ?_))))))
 rw[hd']
 refine AQ (a:=AA dx) (AI (AQ (AI ?_)))
 refine wpAny_nsSet1 (s:={ s with toks:=s.toks+1 }) I.ns λh' hn2 hs2=>?_
 obtain⟨oD,esD,epD,hoD,hdD,hcD⟩:=hn2.count (HJ name v hw)
 refine AI (wpAny_lookBehind hoD (by rw[hdD];exact pastItsLine_dict (BZ hcD (by rw[A0];omega))) ?_)
 exact AQ (h _ ⟨(hs2.2 _ (BG I.ne)).trans I.obj,hn2,I.ne⟩ hs2)
theorem ziu {R:G3->AK->Prop}{vs:List AH}{kw:List (AR×AH)}(X:K.In s.heap)(hm:D9 K C=AC)
  (hi:Av K (.ref C) "__init__"=AA (AA (.ref f))) (hf:PySem.W.typeIn K (.ref f)=AA (.type "function"))
  (h:codeAny (model prog w) (A.under (.builtin "type.__call__" ⟨.ref C::vs,kw⟩)) (.call (.ref f) ⟨.ref (s.heap.objs.size+1)::vs,kw⟩) (PySem.W.InitBack (s.heap.objs.size+1) R)
   { s with heap:=(s.heap.push Bb).push (By C s.heap.objs.size) }) :
  codeAny (model prog w) A (.call (.ref C) ⟨vs,kw⟩) R s:=by
 obtain⟨hh,g,d,t,os⟩:=s
 exact PySem.W.make_core (PySem.W.makes_of X hm) (PySem.W.looks_findIn X hi) (λself=>PySem.W.bind_fn X self hf) (.inl rfl) h
end
def ya6 (f:AR)(v:V):List (AR×V)->List (AR×V)
 | []=>[(f,v)]
 | (g,x)::r=>if g=f then(g,v)::r else(g,x)::ya6 f v r
theorem zc1 (f g:AR)(v:V):∀fs:List (AR×V),(ya6 f v fs).lookup g=if g=f then AA v else fs.lookup g
 | []=>by
  show Bs g [(f,v)]=_
  by_cases h:g=f
  .have hb:(g == f)=true:=beq_iff_eq.mpr h
   simp only[Bs,hb,if_pos h]
  .have hb:(g == f)=false:=beq_eq_false_iff_ne.mpr h
   simp only[Bs,hb,if_neg h]
 | (k,x)::r=>by
  have ih:=zc1 f g v r
  rw[show ya6 f v ((k,x)::r)=(if k=f then(k,v)::r else(k,x)::ya6 f v r)from rfl]
  by_cases hk:k=f
  .rw[if_pos hk]
   by_cases h:g=k
   .have hb:(g == k)=true:=beq_iff_eq.mpr h
    simp only[Bs,hb,if_pos (h.trans hk)]
   .have hb:(g == k)=false:=beq_eq_false_iff_ne.mpr h
    simp only[Bs,hb,if_neg (λe:g=f=>h (e.trans hk.symm))]
  .rw[if_neg hk]
   by_cases h:g=k
   .have hb:(g == k)=true:=beq_iff_eq.mpr h
    simp only[Bs,hb,if_neg (λe:g=f=>hk (h.symm.trans e))]
   .have hb:(g == k)=false:=beq_eq_false_iff_ne.mpr h
    simp only[Bs,hb]
    exact ih
theorem zcF (f:AR)(v:V):∀fs:List (AR×V),f∈(ya6 f v fs).map (·.1)/\∀g,g∈fs.map (·.1)->g∈(ya6 f v fs).map (·.1)
 | []=>⟨by simp[ya6],λg h=>by simp at h⟩
 | (k,x)::r=>by
  obtain⟨i1,i2⟩:=zcF f v r
  rw[show ya6 f v ((k,x)::r)=(if k=f then(k,v)::r else(k,x)::ya6 f v r)from rfl]
  by_cases hk:k=f
  .rw[if_pos hk]
   subst hk
   exact⟨by simp,λg h=>by simpa using h⟩
  .rw[if_neg hk]
   refine⟨?_,λg h=>?_⟩
   .rw[AM]
    exact AS _ i1
   .rw[AM]at h ⊢
    rcases AU.mp h with e|e
    .exact AU.mpr (.inl e)
    .exact AS _ (i2 g e)
theorem zc9 (f:AR)(v:V):∀fs:List (AR×V),(ya6 f v fs).length<=fs.length+1
 | []=>by simp[ya6]
 | (k,x)::r=>by
  have ih:=zc9 f v r
  rw[show ya6 f v ((k,x)::r)=(if k=f then(k,v)::r else(k,x)::ya6 f v r)from rfl]
  by_cases hk:k=f
  .rw[if_pos hk,A0,A0];omega
  .rw[if_neg hk,A0,A0];omega
theorem ybv.some_of {v:V}{o:Option AH}(r:ybv (AA v) o):∃u,o=AA u/\RelV v u:=by
 cases o with
 |none=>exact(show False from r).elim
 |some u=>exact⟨u,rfl,r⟩
theorem ybv.none_of {o:Option AH}(r:ybv AE o):o=none:=by
 cases o with
 |none=>rfl
 |some u=>exact(show False from r).elim
theorem zhs {v:V}{u:AH}(r:RelV v u):Fz u=true:=by
 cases v with
 |non=>cases (show u=CK from r);rfl
 |bl b=>cases (show u=Ds b from r);rfl
 |int i=>obtain⟨t,e⟩:=(show ∃t,u=E1 i t from r);cases e;rfl
 |str x=>obtain⟨t,e⟩:=(show ∃t,u=Fx x t from r);cases e;rfl
 |byt b=>obtain⟨t,e⟩:=(show ∃t,u=Gz b t from r);cases e;rfl
 |flt b=>obtain⟨t,e⟩:=(show ∃t,u=HA b t from r);cases e;rfl
 |ref a=>cases (show u=Ae a from r);rfl
 |ty n=>cases (show u=F6 n from r);rfl
section
variable {P:A4}{w:Af}{H H':Hp}{h h':BB}{a C dx:AJ}{fs fs':List (AR×V)}
theorem zfl (hok:HOk P w H h)(e:H a=AA (.ins C dx fs)):∃mA,ycW h a dx C mA/\(∀f,ybv (fs.lookup f) (mA f))/\Fe mA (fs.map (·.1))/\fs.length<=1000/\H dx=AA (.own a):=by
 obtain⟨d,z,ne,ob,mA,n,r,q⟩:=(show yZ P w H h a (.ins C dx fs)from hok a _ e)
 exact⟨mA,⟨ob,n,ne⟩,r,q,z,d⟩
end
structure Cls (K:AG)(C:AJ):Prop where
 pg:Co K C GA=AC
 hd:DF K C=AC
 po:ER K C=AC
 sa:Av K (.ref C) "__setattr__"=AA (AA (.builtin "object.__setattr__"))
theorem Cls.get {K:AG}{C:AJ}(c:Cls K C)(f:AR):Co K C f=true:=c.pg
def yap (K:AG)(C:AJ)(f:AR):Prop:=Av K (.ref C) f=AA AE
theorem yap.taker {K:AG}{C:AJ}{f:AR}(n:yap K C f):Es K C f=AA none:=by
 unfold Es
 rw[show Av K (.ref C) f=AA AE from n]
 rfl
structure Con (K:AG)(C:AJ)(f:AR)(v:V)(u:AH):Prop where
 at_:Av K (.ref C) f=AA (AA u)
 rel:RelV v u
 get:PySem.W.specialIn K u "__get__"=AA AE
 cp:PySem.W.copiedNames.contains f=AD
structure Meth (K:AG)(C:AJ)(m:AR)(f:AJ):Prop where
 at_:Av K (.ref C) m=AA (AA (.ref f))
 fn:Cp K (.ref f)=AC
 kp:As K (.ref f)=AC
section
variable {X:Cx}{pins:List (AJ×CB)}{σ:St}{H:Hp}{s:AK}{a C dx:AJ}{fs:List (AR×V)}{f:AR}{v:V}{A:Ar}{E:AH->AK->Prop}
theorem zdz {b:Bool}{Q:AH->AK->Prop}(I:Inv X pins σ H s)(e:H a=AA (.ins C dx fs))(c:Cls X.K C)(n:yap X.K C f)(l:fs.lookup f=AA v)
  (h:∀u s',Inv X pins σ H s'->RelV v u->Q u s'):AZ (model X.prog X.w) A (getAttr (.ref a) f b) Q E s:=by
 obtain⟨mA,O,r,_,_,_⟩:=zfl I.hok e
 obtain⟨u,hu,ru⟩:=ybv.some_of (v:=v) (o:=mA f) (by rw[<- l];exact r f)
 exact zkB I.kIn O (c.get f) c.hd n hu (zhs ru) (h u _ (I.tok _) ru)
theorem zdu {m:AR}{g:AJ}{pl:Gc Bool}{Q:AH×List AH->AK->Prop}(I:Inv X pins σ H s)(e:H a=AA (.ins C dx fs))(c:Cls X.K C)(k:Meth X.K C m g)(l:fs.lookup m=AE)
  (h:Q (.ref g,[.ref a]) s):AZ (model X.prog X.w) A (getMethod (.ref a) m pl) Q E s:=by
 obtain⟨mA,O,r,_,_,_⟩:=zfl I.hok e
 have hn:mA m=none:=ybv.none_of (by rw[<- l];exact r m)
 exact ziG I.kIn O (c.get m) k.at_ k.fn hn h
theorem zdr {y:V}{u:AH}{Q:Unit->AK->Prop}(I:Inv X pins σ H s)(e:H a=AA (.ins C dx fs))(c:Cls X.K C)(n:yap X.K C f)(hl:fs.length<1000)(ry:RelV y u)
  (h:∀s',Inv X pins σ (upd H a (.ins C dx (ya6 f y fs))) s'->Q () s'):AZ (model X.prog X.w) A (setAttr (.ref a) f u) Q E s:=by
 obtain⟨mA,O,r,wi,_,ho⟩:=zfl I.hok e
 have hz:(fs.map (·.1)).length<=sizeLine:=by rw[Ap,D7];omega
 refine zkt I.kIn O c.sa c.po n.taker c.hd wi hz λh' O' sb=>h _ ?_
 have hd:∃o,h'.get? dx=AA o:=let ⟨o,_,_,e',_⟩:=O'.ns;⟨o,e'⟩
 refine I.write (x:=a) (e:=dx) (by rw[e];exact C4) (.inr ho) (λb q hb z=>(sb.2 b hb).trans z) hd ?_
 refine⟨by rw[zj O.ne];exact ho,?_,O.ne,O'.obj,_,O'.ns,λg=>?_,λg hg=>?_⟩
 .have:=zc9 f y fs;omega
 .show ybv ((ya6 f y fs).lookup g) (if g=f then AA u else mA g)
  rw[zc1]
  by_cases q:g=f
  .rw[if_pos q,if_pos q];exact ry
  .rw[if_neg q,if_neg q];exact r g
 .by_cases q:g=f
  .rw[q];exact(zcF f y fs).1
  .refine(zcF f y fs).2 g (wi g λz=>hg ?_)
   show (if g=f then AA u else mA g)=AE
   rw[if_neg q];exact z
theorem Inv.made (I:Inv X pins σ H s):Inv X pins σ (upd (upd H s.heap.objs.size (.own (s.heap.objs.size+1))) (s.heap.objs.size+1) (.ins C s.heap.objs.size []))
  { s with heap:=(s.heap.push Bb).push (By C s.heap.objs.size) }:=by
 have e1:(s.heap.push Bb).get? s.heap.objs.size=AA Bb:=A2 s.heap rfl
 have e2:((s.heap.push Bb).push (By C s.heap.objs.size)).get? (s.heap.objs.size+1)=AA (By C s.heap.objs.size):=by
  have:=A2 (s.heap.push Bb) (o:=By C s.heap.objs.size) rfl
  rwa [Bt]at this
 have e3:(s.heap.push Bb).Ns s.heap.objs.size (λ_=>AE):=⟨Bb,#[],_,e1,rfl,(λe he=>absurd he (by simp)),λ_=>rfl⟩
 have I1:=I.laid (a:=s.heap.objs.size) (o:=.own (s.heap.objs.size+1)) (h':=s.heap.push Bb) (t':=s.toks) (λb u q=>AN _ q) (AT _) ⟨_,e1⟩
 refine I1.laid (a:=s.heap.objs.size+1) (o:=.ins C s.heap.objs.size []) (t':=s.toks) (λb u q=>AN _ q) (Gm (Bt _ _)) ?_
 have ne:s.heap.objs.size≠s.heap.objs.size+1:=An (GB _)
 refine⟨by rw[zj ne,zp],DD _,ne,e2,λ_=>AE,(Heap.Ns1.of_empty e3).at λo q=>AN _ q,λ_=>C4,λy hy=>absurd rfl hy⟩
theorem zk8 {prog:A4}{w:Af}{env:Env}{e:AV}{f:AR}{pos:CT}{s:AK}{Q:AH->AK->Prop}(hb:attributeBase e f env (eval e env)=eval e env)
  (h:AZ (model prog w) A (eval e env) (λo s₁=>AZ (model prog w) A (getAttr o f AC) Q E s₁) E s):AZ (model prog w) A (eval (.Attribute e f pos) env) Q E s :=
 Attribute_any_ h (by rw[arm_eval_Attribute,hb])
end
def ygq (K:AG)(ta:TE)(f:AR):TE:=λσ H Q=>ta σ H λx H1=>∃a C dx fs v,x=.ref a/\H1 a=AA (.ins C dx fs)/\Cls K C/\yap K C f/\fs.lookup f=AA v/\Q v H1
def yfF (K:AG)(ta tv:TE)(f:AR):TS:=λD σ H=>tv σ H λy H1=>ta σ H1 λx H2=>∃a C dx fs,x=.ref a/\H2 a=AA (.ins C dx fs)/\Cls K C/\yap K C f/\fs.length<1000 /\
 D.nx σ (upd H2 a (.ins C dx (ya6 f y fs)))
def yfl (X:Cx)(op:D6)(rd:V->V->Hp->VK->Prop):Prop :=
 ∀(pins:List (AJ×CB)) (s:AK) (σ:St) (H:Hp) (x y:V) (u v:AH) (Q:VK),Inv X pins σ H s->RelV x u->RelV y v->rd x y H Q->AZ (model X.prog X.w) X.A (inplaceOp op u v) (EP X pins σ Q) X.xe s
def ycM (K:AG)(ta tv:TE)(rd:V->V->Hp->VK->Prop)(f:AR):TS:=λD σ H=>ta σ H λx H1=>∃a C dx fs v,x=.ref a/\H1 a=AA (.ins C dx fs)/\Cls K C/\yap K C f/\fs.lookup f=AA v /\
 tv σ H1 λy H2=>rd v y H2 λz H3=>∃dx' fs',H3 a=AA (.ins C dx' fs')/\fs'.length<1000/\D.nx σ (upd H3 a (.ins C dx' (ya6 f z fs')))
section
variable {X:Cx}{o e value:AV}{f:AR}{pos pos' tpos:CT}{ta tv:TE}
theorem zop (he:PE X e ta)(hb:attributeBase e f X.env (eval e X.env)=eval e X.env):PE X (.Attribute e f pos) (ygq X.K ta f):=by
 intro pins s σ H Q I h
 refine zk8 hb (thn (he pins s σ H _ I h) λu s1 ⟨x,H1,I1,rx,a,C,dx,fs,v,ex,ea,c,n,l,q⟩=>?_)
 subst ex
 obtain rfl:u=Ae a:=rx
 exact zdz I1 ea c n l λu' s2 I2 ru=>⟨v,H1,I2,ru,q⟩
theorem zmt (ha:PE X o ta)(hv:PE X value tv)(hs:swapsWith value (AA (.Attribute o f pos')) pos.line X.env=pure AD):PS X (.Assign [.Attribute o f pos'] value pos) (yfF X.K ta tv f):=by
 intro pins s σ H D I h
 refine plainObj_wpAny_Assign_Attribute (thn (hv pins s σ H _ I h) λu s1 ⟨y,H1,I1,ry,q⟩=>thn (ha pins s1 σ H1 _ I1 q) λov s2 ⟨x,H2,I2,rx,a,C,dx,fs,ex,ea,c,n,l,q2⟩=>?_) hs
 subst ex
 obtain rfl:ov=Ae a:=rx
 exact zdr I2 ea c n l ry λs3 I3=>⟨σ,_,I3,q2⟩
theorem zhp {op:D6}{rd:V->V->Hp->VK->Prop}(ha:PE X o ta)(hv:PE X value tv)(hop:yfl X op rd):PS X (.AugAssign (.Attribute o f tpos) op value pos) (ycM X.K ta tv rd f):=by
 intro pins s σ H D I h
 refine wpAny_AugAssign_AttributeAny (thn (ha pins s σ H _ I h) λov s1 ⟨x,H1,I1,rx,a,C,dx,fs,v,ex,ea,c,n,l,q⟩=>?_)
 subst ex
 obtain rfl:ov=Ae a:=rx
 refine zdz I1 ea c n l λu s2 I2 ru=>thn (hv pins s2 σ H1 _ I2 q) λw3 s3 ⟨y,H2,I3,ry,q3⟩=>thn (hop pins s3 σ H2 v y u w3 _ I3 ru ry q3) λw4 s4 ⟨z,H3,I4,rz,dx',fs',ea',l',q4⟩=>?_
 exact zdr I4 ea' c n l' rz λs5 I5=>⟨σ,_,I5,q4⟩
def ygk:V->V->Hp->VK->Prop:=λx y H Q=>∃i j,x=.int i/\y=.int j/\Q (.int (i+j)) H
theorem zn4:yfl X .Add ygk:=by
 rintro pins s σ H x y u v Q I rx ry ⟨i,j,rfl,rfl,q⟩
 obtain⟨t,rfl⟩:=(show ∃t,u=E1 i t from rx)
 obtain⟨t',rfl⟩:=(show ∃t',v=E1 j t' from ry)
 exact GZ ⟨.int (i+j),H,I.tok _,⟨_,rfl⟩,q⟩
end
section
variable {X:Cx}{pins:List (AJ×CB)}{σ:St}{H:Hp}{s:AK}{A:Ar}{E:AH->AK->Prop}{Q:AH->AK->Prop}{c:AH}{b:Bool}
end
structure yar (k:Nat)(A:Ar):Prop where
 hd:A.handled=AE
 dp:A.depth+3*k+5<recursionLimit
 un:A.units+16*k+200<cLine
theorem yar.mono {j k:Nat}{A:Ar}(r:yar k A)(h:j<=k):yar j A:=⟨r.hd,by have:=r.dp;omega,by have:=r.un;omega⟩
theorem yar.deeper {k:Nat}{A:Ar}(r:yar (k+1) A)(env:Env):yar k (A.deeper env) :=
 ⟨r.hd,by have:=r.dp;show A.depth+1+3*k+5<_;omega,by have:=r.un;show A.units+3+16*k+200<_;omega⟩
theorem zgb {A:Ar}{C:AJ}{us:List AH}{kw:List (AR×AH)}:(A.under (.builtin "type.__call__" ⟨.ref C::us,kw⟩)).depth=A.depth+1:=by
 first|rfl|simp[Fh,Code.weight,Code.isCreation,Code.isGuard,Code.isCaller,HB,Fi,guardIds]
theorem zgk {A:Ar}{C:AJ}{us:List AH}{kw:List (AR×AH)}:(A.under (.builtin "type.__call__" ⟨.ref C::us,kw⟩)).units=A.units+1:=by
 first|rfl|simp[Fh,Code.cUnits,HB,Fi]
theorem yar.make {k:Nat}{A:Ar}(r:yar (k+1) A)(C:AJ)(us:List AH)(kw:List (AR×AH)):yar k (A.under (.builtin "type.__call__" ⟨.ref C::us,kw⟩)) :=
 ⟨r.hd,by have:=r.dp;rw[zgb];omega,by have:=r.un;rw[zgk];omega⟩
theorem yar.depth {k:Nat}{A:Ar}(r:yar k A):A.depth<recursionLimit:=by have:=r.dp;omega
theorem yar.units {k:Nat}{A:Ar}(r:yar k A):A.units+64<cLine:=by have:=r.un;omega
def ydr:TA:=λ_ H Q=>Q [] H
def ydw (ta:TE)(tr:TA):TA:=λσ H Q=>ta σ H λx H1=>tr σ H1 λxs H2=>Q (x::xs) H2
section
variable {X:Cx}{e:AV}{es:List AV}{te:TE}{t:TA}{pos:CT}
theorem ybr:PA X [] ydr:=λ_ _ _ _ H Q I h=>Fj ⟨[],H,I,.nil,h⟩
theorem zbr (ha:PE X e te)(hr:PA X es t)(hs:starEach (e::es) X.env=(AD,eval e X.env)::starEach es X.env:=by rfl):PA X (e::es) (ydw te t):=by
 intro pos pins s σ H Q I h
 rw[hs]
 show AZ _ _ (spliced ((AD,eval e X.env)::backTo pos (starEach es X.env))) _ _ s
 refine Dz (thn (ha pins s σ H _ I h) λu s1 ⟨x,H1,I1,r1,q1⟩=>?_)
 exact thn (hr pos pins s1 σ H1 _ I1 q1) λus s2 ⟨xs,H2,I2,r2,q2⟩=>⟨x::xs,H2,I2,.cons r1 r2,q2⟩
def yfZ (t:TA):TE:=λσ H Q=>t σ H λxs H1=>xs.length<=sizeLine/\∀p,H1 p=AE->Q (.ref p) (upd H1 p (.tup xs))
def yfL (t:TA):TE:=λσ H Q=>t σ H λxs H1=>xs.length<=sizeLine/\∀p,H1 p=AE->Q (.ref p) (upd H1 p (.lst xs))
theorem zmM {x1}(h:PA X es t):PE X (.Tuple es x1 pos) (yfZ t):=by
 intro pins s σ H Q I hq
 refine wpAny_Tuple_spliced (thn (h pos pins s σ H _ I hq) λus s1 ⟨xs,H1,I1,r,z,q⟩=>⟨by rw[<- r.length];exact z,?_⟩)
 have hf:H1 s1.heap.objs.size=none:=I1.hok.fresh (AT _)
 refine⟨.ref s1.heap.objs.size,upd H1 s1.heap.objs.size (.tup xs),I1.laid (t':=s1.toks) (λb u e=>AN _ e) (AT _) ?_,rfl,q _ hf⟩
 exact⟨z,us,r,⟨_,A2 _ rfl,rfl,_,rfl⟩⟩
theorem zjQ (h:PA X es t):PE X (.List es pos) (yfL t):=by
 intro pins s σ H Q I hq
 refine wpAny_List_spliced (thn (h pos pins s σ H _ I hq) λus s1 ⟨xs,H1,I1,r,z,q⟩=>⟨by rw[<- r.length];exact z,?_⟩)
 have hf:H1 s1.heap.objs.size=none:=I1.hok.fresh (AT _)
 refine⟨.ref s1.heap.objs.size,upd H1 s1.heap.objs.size (.lst xs),I1.laid (t':=s1.toks) (λb u e=>AN _ e) (AT _) ?_,rfl,q _ hf⟩
 exact⟨z,us,0,r,A2 _ rfl⟩
end
abbrev Sp:=List V->Hp->VK->XK->Prop
abbrev CXT:=List Env->Hp->AK->XK->AH->AK->Prop
structure yc2 (P:A4)(w:Af)(K:AG)(mg:AR->Option AH)(base:BB)(A:Ar)(outer:List Env)(s:AK)(H:Hp):Prop where
 frames:A.frames=AA outer
 mod:Mod K mg base
 bs:∀b o,base.get? b=AA o->s.heap.get? b=AA o/\H b=AE
 bsz:base.objs.size<=s.heap.objs.size
 funs:s.heap.FunFrames base outer
 frf:∀b∈frs outer,H b=AE
 hok:HOk P w H s.heap
 bare:D0 s.gens
def CE (outer:List Env)(P:A4)(w:Af)(H:Hp)(s:AK)(Q:VK)(u:AH)(s':AK):Prop :=
 ∃v H',s'.os=s.os/\D0 s'.gens/\Un (frs outer) [] H H' s.heap s'.heap/\HOk P w H' s'.heap/\RelV v u/\Q v H'
def CR (CX:CXT)(outer:List Env)(P:A4)(w:Af)(H:Hp)(s:AK)(Q:VK)(E:XK)(r:G3)(s':AK):Prop :=
 match r with
 | .ok (.ret u)=>CE outer P w H s Q u s'
 | .ok _=>False
 | .error e=>CX outer H s E e s'
structure yaJ (P:A4)(w:Af)(K:AG)(mg:AR->Option AH)(base:BB)(CX:CXT)(k:Nat)(f:AJ)(fd:BC)(ps:List AR)(sp:Sp):Prop where
 len:∀vs H Q E,sp vs H Q E->vs.length=ps.length
 run:∀(A:Ar) (outer:List Env) (s:AK) (H:Hp) (args:Args) (us:List AH) (vs:List V) (Q:VK) (E:XK),yar k A->yc2 P w K mg base A outer s H->FP s fd args (ps.zip us)->Vals vs us->sp vs H Q E ->
  codeAny (model P w) A (.call (.ref f) args) (CR CX outer P w H s Q E) s
theorem yaJ.imp {P:A4}{w:Af}{K:AG}{mg:AR->Option AH}{base:BB}{CX:CXT}{k:Nat}{f:AJ}{fd:BC}{ps:List AR}{sp sp':Sp}(F:yaJ P w K mg base CX k f fd ps sp)
  (h:∀vs H Q E,sp' vs H Q E->sp vs H Q E):yaJ P w K mg base CX k f fd ps sp' :=
 ⟨λvs H Q E q=>F.len vs H Q E (h _ _ _ _ q),λA outer s H args us vs Q E hr he hb hv hs=>F.run A outer s H args us vs Q E hr he hb hv (h _ _ _ _ hs)⟩
theorem yc2.make {P:A4}{w:Af}{K:AG}{mg:AR->Option AH}{base:BB}{A:Ar}{outer:List Env}{s:AK}{H:Hp}(e:yc2 P w K mg base A outer s H)(C:AJ)(us:List AH)(kw:List (AR×AH)) :
  yc2 P w K mg base (A.under (.builtin "type.__call__" ⟨.ref C::us,kw⟩)) outer s H:=⟨by first|exact e.frames|(simpa [Fh,Code.envs,Fi,pushEnvs] using e.frames),e.mod,e.bs,e.bsz,e.funs,e.frf,e.hok,e.bare⟩
section
variable {X:Cx}{pins:List (AJ×CB)}{σ:St}{H:Hp}{s s':AK}
theorem Inv.env0 (I:Inv X pins σ H s):yc2 X.prog X.w X.K X.mg X.base X.A X.stack s H :=
 ⟨I.ok.frames,I.ok.mod,I.bs,BZ I.ok.bsz I.sz,I.stack,I.stkFree,I.hok,I.bare⟩
theorem Inv.after {Q:VK}{u:AH}(I:Inv X pins σ H s)(h:CE X.stack X.prog X.w H s Q u s'):EP X pins σ Q u s':=by
 obtain⟨v,H',os,bare,un,hok,r,q⟩:=h
 obtain⟨hh,g,d,t,os'⟩:=s'
 obtain rfl:os'=s.os:=os
 exact⟨v,H',I.call (h':=hh) (g':=g) (d':=d) (t':=t) (ch:=[]) un hok bare (λb z=>absurd z (by simp)),r,q⟩
end
def yew (C:AJ)(sp:Sp)(dvs:List V)(E:XK)(t:TA):TE:=λσ H Q=>t σ H λvs H1=>∀x dx,H1 x=AE->H1 dx=AE->dx≠x ->
 sp (.ref x::(vs++dvs)) (upd (upd H1 dx (.own x)) x (.ins C dx [])) (λv H2=>v=.non/\Q (.ref x) H2) E
def Binds (K:AG)(fd:BC)(ps:List AR)(ds:List AH):Prop :=
 ∀(s:AK) (us:List AH),K.In s.heap->(us++ds).length=ps.length->FP s fd ⟨us,[]⟩ (ps.zip (us++ds))
theorem Binds.all {K:AG}{fd:BC}{ps:List AR}(h:∀us:List AH,us.length=ps.length->bindArgs fd ⟨us,[]⟩=pure (ps.zip us)):Binds K fd ps []:=λs us _ hl=>by
 rw[Ah]at hl ⊢
 exact .of_eq (h us hl)
def ybK (CX:CXT)(X:Cx)(E:XK):Prop:=∀(pins:List (AJ×CB)) (σ:St) (H:Hp) (s:AK) (e:AH) (s':AK),Inv X pins σ H s->CX X.stack H s E e s'->X.xe e s'
section
variable {X:Cx}{CX:CXT}{k:Nat}{f C:AJ}{fd:BC}{ps:List AR}{sp:Sp}{dvs:List V}{ds:List AH}{E:XK}{x m:AR}{p pos apos:CT}{e o:AV}{es:List AV}{ta:TE}{t:TA}
structure Mk (K:AG)(C f:AJ):Prop where
 makes:D9 K C=AC
 init:Av K (.ref C) "__init__"=AA (AA (.ref f))
 fn:Cp K (.ref f)=AC
 kp:As K (.ref C)=AC
theorem zjl {pins:List (AJ×CB)}{σ:St}{H:Hp}{s:AK}{Q:VK}{us:List AH}{vs:List V}(M:Mk X.K C f)(F:yaJ X.prog X.w X.K X.mg X.base CX k f fd ps sp)(hr:yar (k+1) X.A)(hb:Binds X.K fd ps ds)(hd:Vals dvs ds)
  (hx:ybK CX X E) (I:Inv X pins σ H s) (r:Vals vs us)
  (h:∀x dx,H x=AE->H dx=AE->dx≠x->sp (.ref x::(vs++dvs)) (upd (upd H dx (.own x)) x (.ins C dx [])) (λv H2=>v=.non/\Q (.ref x) H2) E) :
  AZ (model X.prog X.w) X.A (call (.ref C) us) (EP X pins σ Q) X.xe s:=by
 have hq:=h (s.heap.objs.size+1) s.heap.objs.size (I.hok.fresh (Cf _)) (I.hok.fresh (AT _)) (An (GB _))
 have I2:=Inv.made (C:=C) I
 have r2:Vals (V.ref (s.heap.objs.size+1)::(vs++dvs)) (Ae (s.heap.objs.size+1)::(us++ds)):=.cons rfl (r.append hd)
 have hl:(Ae (s.heap.objs.size+1)::us++ds).length=ps.length:=by
  have e:=r2.length
  rw[F.len _ _ _ _ hq]at e
  exact e.symm
 refine G4 (ziu (f:=f) I.kIn M.makes M.init (beq_iff_eq.mp M.fn) (Dm (F.run _ X.stack _ _ ⟨Ae (s.heap.objs.size+1)::us,[]⟩ (Ae (s.heap.objs.size+1)::(us++ds)) _ _ E (hr.make C us [])
  (I2.env0.make C us []) (hb _ (Ae (s.heap.objs.size+1)::us) I2.kIn hl) r2 hq) λr s' hq'=>?_))
 cases r with
 |error e=>exact hx pins σ _ _ e s' I2 hq'
 |ok fl =>
  cases fl with
  |ret u =>
   obtain⟨v,H',I3,rv,ev,q3⟩:=I2.after hq'
   subst ev
   exact⟨rv,⟨V.ref (s.heap.objs.size+1),H',I3,rfl,q3⟩⟩
  |next=>exact Bf hq'
  |brk=>exact Bf hq'
  |cont=>exact Bf hq'
theorem zlJ (M:Mk X.K C f)(F:yaJ X.prog X.w X.K X.mg X.base CX k f fd ps sp)(hr:yar (k+1) X.A)(hg:Gl X x)(hm:X.mg x=AA (.ref C))(hb:Binds X.K fd ps ds)(hd:Vals dvs ds)(hx:ybK CX X E)
  (ha:PA X (e::es) t) (hdb:(x == ("__debug__":AR))=false:=by decide) (he:starEach (e::es) X.env=(AD,eval e X.env)::starEach es X.env:=by rfl) (hpl:(backTo pos (starEach es X.env)).any (·.1)=false:=by rfl) :
  PE X (.Call (.Name x p) (e::es) [] pos) (yew C sp dvs E t):=by
 intro pins s σ H Q I h
 refine B4 (zcX I hg hm ?_ hdb)
 refine DC (h₀:=X.base) I.ok.mod.kin M.kp (thn (ha pos pins s σ H _ I h) λus s1 ⟨vs,H1,I1,r,q⟩=>⟨I1.kIn,?_⟩) he hpl
 exact zjl M F hr hb hd hx I1 r q
end
def PK (X:Cx)(kws:List CW)(t:TA):Prop :=
 ∀(pos:CT) (pins:List (AJ×CB)) (s:AK) (σ:St) (H:Hp) (Q:List V->Hp->Prop),Inv X pins σ H s->t σ H Q->AZ (model X.prog X.w) X.A (evalAll ((backToKw pos (keywordEach kws X.env)).map (·.2))) (AP X pins σ Q) X.xe s
section
variable {X:Cx}{CX:CXT}{k:Nat}{f C:AJ}{fd:BC}{ps ks:List AR}{sp:Sp}{E:XK}{x m:AR}{p pos apos kpos:CT}{e o:AV}{es:List AV}{kws:List CW}{te ta:TE}{t tk:TA}{nm:Option AR}
theorem ydd:PK X [] ydr:=λ_ _ _ _ H Q I h=>wpAny_evalAll_nil ⟨[],H,I,.nil,h⟩
theorem zlc (ha:PE X e te)(hr:PK X kws t):PK X (⟨nm,e,kpos⟩ :: kws) (ydw te t):=by
 intro pos pins s σ H Q I h
 show AZ _ _ (evalAll ((do let v <- eval e X.env;standAt pos;pure v)::(backToKw pos (keywordEach kws X.env)).map (·.2))) _ _ s
 refine wpAny_evalAll_cons (AI (thn (ha pins s σ H _ I h) λu s1 ⟨x,H1,I1,r1,q1⟩=>AI (EY (AQ ?_))))
 exact thn (hr pos pins s1 σ H1 _ I1 q1) λus s2 ⟨xs,H2,I2,r2,q2⟩=>⟨x::xs,H2,I2,.cons r1 r2,q2⟩
structure ybH (K:AG)(fd:BC)(ps ks:List AR)(g:List AH->List AH->List AH)(gV:List V->List V->List V):Prop where
 to:∀(s:AK) (us ws:List AH),K.In s.heap->(g us ws).length=ps.length->FP s fd ⟨us,ks.zip ws⟩ (ps.zip (g us ws))
 rel:∀{vs:List V} {us:List AH} {zs:List V} {ws:List AH},Vals vs us->Vals zs ws->Vals (gV vs zs) (g us ws)
variable {g:List AH->List AH->List AH}{gV:List V->List V->List V}
end
structure ybc (N P:List AR)(sc:Bi):Prop where
 kind:sc.kind=.function
 co:sc.isCoroutine=AD
 gen:sc.isGenerator=AD
 nd:N.Nodup
 pre:N.take P.length=P
 par:∀x∈P,sc.names.lookup x=AA .local \/ sc.names.lookup x=AA .cell
 nofree:∀y∈sc.names,y.2 ≠ .free
theorem zeB {kindOf:AR->Option DG}{x:AR}:∀{binds:List (AR×AH)} {m:AR->Option AH},(∀v,(x,v)∉binds)->bindL kindOf binds m x=m x
 | [],_,_=>rfl
 | (n,v)::r,m,h=>by
  unfold bindL
  rw[zeB λw hw=>h w (AS _ hw)]
  split
  .have:x≠n:=by rintro rfl;exact h v Ai
   simp[this]
  .rfl
theorem zer {kindOf:AR->Option DG}{x:AR}:∀{binds:List (AR×AH)} {m:AR->Option AH},(∀v,(x,v)∉binds)->bindC kindOf binds m x=m x
 | [],_,_=>rfl
 | (n,v)::r,m,h=>by
  unfold bindC
  rw[zer λw hw=>h w (AS _ hw)]
  split
  .rfl
  .have:x≠n:=by rintro rfl;exact h v Ai
   simp[this]
theorem zen {kindOf:AR->Option DG}{x:AR}{v:AH}:∀{P:List AR} {vs:List AH} {i:Nat} {m:AR->Option AH},P.Nodup->P[i]?=AA x->vs[i]?=AA v->kindOf x=AA .local ->
  bindL kindOf (P.zip vs) m x=AA v
 | [],_,_,_,_,h,_,_=>by simp at h
 |_::_,[],_,_,_,_,h,_=>by simp at h
 |p::P,w::vs,0,m,nd,h1,h2,hk=>by
  simp at h1 h2;subst h1;subst h2
  show bindL kindOf ((p,w)::P.zip vs) m p=_
  unfold bindL
  rw[zeB λv hv=>(Da.mp nd).1 (Et hv).1,if_pos hk]
  simp
 |p::P,w::vs,i+1,m,nd,h1,h2,hk=>by
  show bindL kindOf ((p,w)::P.zip vs) m x=_
  unfold bindL
  exact zen (i:=i) (Da.mp nd).2 (by simpa using h1) (by simpa using h2) hk
theorem zeI {kindOf:AR->Option DG}{x:AR}{v:AH}:∀{P:List AR} {vs:List AH} {i:Nat} {m:AR->Option AH},P.Nodup->P[i]?=AA x->vs[i]?=AA v->kindOf x≠AA .local ->
  bindC kindOf (P.zip vs) m x=AA v
 | [],_,_,_,_,h,_,_=>by simp at h
 |_::_,[],_,_,_,_,h,_=>by simp at h
 |p::P,w::vs,0,m,nd,h1,h2,hk=>by
  simp at h1 h2;subst h1;subst h2
  show bindC kindOf ((p,w)::P.zip vs) m p=_
  unfold bindC
  rw[zer λv hv=>(Da.mp nd).1 (Et hv).1,if_neg hk]
  simp
 |p::P,w::vs,i+1,m,nd,h1,h2,hk=>by
  show bindC kindOf ((p,w)::P.zip vs) m x=_
  unfold bindC
  exact zeI (i:=i) (Da.mp nd).2 (by simpa using h1) (by simpa using h2) hk
def start (N:List AR)(vs:List V):St:=vs.map AA++Aw (N.length - vs.length) AE
def yaZ (CX:CXT)(P:A4)(w:Af)(K:AG)(mg:AR->Option AH)(base:BB)(N:List AR)(qual:AR)(scope:Bi)(f:AJ)(cd:AH)(A:Ar)(outer:List Env)(s:AK)(H:Hp)(E:XK):Cx where
 prog:=P
 w:=w
 K:=K
 mg:=mg
 base:=base
 A:=A.deeper (envOfC qual scope s.heap.objs.size f cd)
 N:=N
 s₀:=s
 H₀:=H
 env:=envOfC qual scope s.heap.objs.size f cd
 outer:=outer
 stack:=envOfC qual scope s.heap.objs.size f cd::outer
 ex:=[]
 calm:=AC
 fn:=λ_=>AC
 pn:=[]
 xe:=λe s'=>AZ (model P w) (A.deeper (envOfC qual scope s.heap.objs.size f cd)) (leaving (envOfC qual scope s.heap.objs.size f cd) e) (λ_ s''=>CX outer H s E e s'') (λe' s''=>CX outer H s E e' s'') s'
theorem zfx {sc:Bi}{n:Nat}{x:AR}(h:sc.names.lookup x=AA .cell):∃c,(cellsFrom n sc.names []).lookup x=AA c:=by
 have q:=Eg sc.names n [] (.inl h)
 exact Au.mp q
theorem zhe {CX:CXT}{P:A4}{w:Af}{K:AG}{mg:AR->Option AH}{base:BB}{N ps:List AR}{qual:AR}{scope:Bi}{f:AJ}{cd:AH}{A:Ar}{outer:List Env}{s s1:AK}{H:Hp}{E:XK}{us:List AH}{vs:List V}
  (S:ybc N ps scope) (hd:A.handled=AE) (e0:yc2 P w K mg base A outer s H) (hl:vs.length=ps.length) (r:Vals vs us)
  (x:InCallC s s.heap.objs.size (bindL (envOfC qual scope s.heap.objs.size f cd).kindOf (ps.zip us) λ_=>AE) (cellsFrom (s.heap.objs.size+1) scope.names []) (bindC (envOfC qual scope s.heap.objs.size f cd).kindOf (ps.zip us) λ_=>AE) s1) :
  Inv (yaZ CX P w K mg base N qual scope f cd A outer s H E) [] (start N vs) H s1:=by
 have hpl:ps.length<=N.length:=by have:=congrArg C0 S.pre;rw[E8]at this;omega
 obtain⟨h1,tk,rfl,hk⟩:=x.done
 have noA:∀b:AJ,b∉(yaZ CX P w K mg base N qual scope f cd A outer s H E).ex:=λb z=>absurd (show b∈([]:List AJ)from z) (by simp)
 refine⟨⟨e0.mod,S.kind,rfl,rfl,AT _,λy z c h1 h2=>?_,λy hy=>?_,λy c _ h=>?_,λ_=>hd,Around.frames_deeper e0.frames,.inr ⟨rfl,rfl⟩,λb z=>absurd z (noA b),e0.bs,e0.bsz,λb _ _=>noA b,λb z=>absurd z (noA b),e0.funs,e0.frf⟩,
  rfl,e0.bare,Un.kept hk,⟨_,x.toInCall.ns,λi y v h1 h2 h3=>?_⟩,λy c h=>⟨_,x.cell y c h⟩,e0.hok.fresh (AT _),λy c h=>?_,λp hp=>absurd (show p∈([]:List (AJ×CB))from hp) (by simp),e0.hok.kept hk,?_⟩
 .exact name_of_addr x.apart (CY h1) (CY h2)
 .have hy:scope.names.lookup y=AA .cell \/ scope.names.lookup y=AA .free:=hy
  rcases hy with hy|hy
  .exact zfx hy
  .exact absurd rfl (S.nofree _ (CY hy))
 .exact Ff (x.above y c (CY h))
 .have hi:i<vs.length:=by
   unfold start at h2
   by_cases hi:i<vs.length
   .exact hi
   .rw[Ao (by simpa using hi)]at h2
    rw[E9]at h2
    split at h2 <;> cases h2
  have ha:vs[i]?=AA v:=by
   unfold start at h2
   rw[Ac (by simpa using hi),Bm]at h2
   cases e:vs[i]? with
   |none=>rw[e]at h2;cases h2
   |some a=>rw[e]at h2;cases h2;rfl
  obtain⟨u,hu,rv⟩:=r.get ha
  have hp:ps[i]?=AA y:=by
   rw[<- S.pre,List.getElem?_take_of_lt (by omega)];exact h1
  have ndP:ps.Nodup:=by rw[<- S.pre];exact S.nd.sublist (List.take_sublist _ _)
  refine⟨u,rv,?_⟩
  rcases S.par y (A1 hp)with k|k
  .exact .inl ⟨k,zen ndP hp hu k⟩
  .obtain⟨c,e⟩:=zfx (n:=s.heap.objs.size+1) k
   refine .inr ⟨.inl k,c,e,?_⟩
   have q:=x.cell y c e
   rw[zeI ndP hp hu (by show scope.names.lookup y≠_;rw[k];decide)]at q
   exact q
 .exact e0.hok.fresh (Ff (x.above y c (CY h)))
 .unfold start
  show _=N.length
  rw[A7,Ap,List.length_replicate]
  omega
theorem zpa {CX:CXT}{P:A4}{w:Af}{K:AG}{mg:AR->Option AH}{base:BB}{k:Nat}{f:AJ}{name qual:AR}{params:Arguments}{body:List Bv}{scope:Bi}{dV kV doc pm cdv ct oc:AH}{an od:Option AJ}
  {osl:Array (Option AH)} {N ps:List AR} {sp:Sp} (lk:K.lookup f=AA ⟨oc,od,.func (B7 name qual params body scope dV kV doc pm an cdv ct),osl⟩) (hcd:CL K cdv qual=AC) (S:ybc N ps scope)
  (len:∀vs H Q E,sp vs H Q E->vs.length=ps.length)
  (hbody:∀(A:Ar) (outer:List Env) (s:AK) (H:Hp) (vs:List V) (Q:VK) (E:XK),yar k (A.deeper (envOfC qual scope s.heap.objs.size f cdv))->sp vs H Q E ->
   ∃t,PSs (yaZ CX P w K mg base N qual scope f cdv A outer s H E) body t/\t { nx:=λ_ H'=>Q .non H',rt:=Q } (start N vs) H) :
  yaJ P w K mg base CX (k+1) f (B7 name qual params body scope dV kV doc pm an cdv ct) ps sp:=by
 refine⟨len,λA outer s H args us vs Q E hr e0 hb r hsp=>?_⟩
 have hl:=len _ _ _ _ hsp
 have KX:K.In s.heap:=e0.mod.kin.keeps λb o e=>(e0.bs b o e).1
 have lim:s.heap.NoLimit:=e0.mod.nolimit.keeps λb o e=>(e0.bs b o e).1
 have hkind:∀y∈ps.zip us,scope.names.lookup y.1=AA .local \/ (scope.names.lookup y.1=AA .cell/\((cellsFrom (s.heap.objs.size+1) scope.names []).lookup y.1).isSome=AC):=λ⟨n,v⟩ hy=>by
  rcases S.par n (Et hy).1 with q|q
  .exact .inl q
  .exact .inr ⟨q,Eg _ _ _ (.inl q)⟩
 refine codeAny_call_function hr.depth (KX _ _ lk) rfl S.co S.gen rfl (PySem.W.codeRec_of KX hcd) (hb _ _ _ _ ?_)
 refine wpAny_newFunctionEnv_cells S.kind hkind λenv he s1 x=>?_
 subst he
 refine⟨lim.keeps x.toInCall.keep,codeAny_func ?_⟩
 obtain⟨t,ht,hq⟩:=hbody A outer s H vs Q E (hr.deeper _) hsp
 have I:Inv (yaZ CX P w K mg base N qual scope f cdv A outer s H E) [] (start N vs) H s1:=zhe S hr.hd e0 hl r x
 refine CU (ht [] s1 (start N vs) H _ I hq) (λfl s' hs=>?_) λe s' hs=>hs
 have fin:∀{σ':St} {H':Hp} {v:V} {u:AH},Inv (yaZ CX P w K mg base N qual scope f cdv A outer s H E) [] σ' H' s'->RelV v u->Q v H'->CE outer P w H s Q u s' :=
  λ{σ' H' v u} J rv q=>⟨v,H',J.os,J.bare,J.base,J.hok,rv,q⟩
 cases fl with
 |ret u =>
  obtain⟨v,σ',H',J,rv,q⟩:=hs
  exact fin J rv q
 |next =>
  obtain⟨σ',H',J,q⟩:=hs
  exact fin (v:=V.non) (u:=CK) J rfl q
 |brk =>
  obtain⟨_,_,_,q⟩:=hs
  exact Bf q
 |cont =>
  obtain⟨_,_,_,q⟩:=hs
  exact Bf q
section
variable {X:Cx}{x:AR}{p pos:CT}{e:AV}{es:List AV}{t:TA}{id T:String}{r:List V->Hp->VK->Prop}
def tCB (r:List V->Hp->VK->Prop)(t:TA):TE:=λσ H Q=>t σ H λvs H1=>r vs H1 Q
theorem zfJ (hc:yao X (.builtin id) r)(hg:Gl X x)(hm:X.mg x=AE)(hv:bootBuiltins x=AA (.builtin id))(ha:PA X (e::es) t)(hn:x ≠ "__name__":=by decide)(hdb:(x == ("__debug__":AR))=false:=by decide)
  (he:starEach (e::es) X.env=(AD,eval e X.env)::starEach es X.env:=by rfl) (hpl:(backTo pos (starEach es X.env)).any (·.1)=false:=by rfl):PE X (.Call (.Name x p) (e::es) [] pos) (tCB r t):=by
 intro pins s σ H Q I h
 refine B4 (zdy I hg hm hv ?_ hn hdb)
 exact GE (thn (ha pos pins s σ H _ I h) λus s1 ⟨vs,H1,I1,r1,q1⟩=>hc pins s1 σ H1 vs us Q I1 r1 q1) he hpl
theorem zho (hc:yao X (.type T) r)(hg:Gl X x)(hm:X.mg x=AE)(hv:bootBuiltins x=AA (.type T))(ha:PA X (e::es) t)(hn:x ≠ "__name__":=by decide)(hdb:(x == ("__debug__":AR))=false:=by decide)
  (he:starEach (e::es) X.env=(AD,eval e X.env)::starEach es X.env:=by rfl) (hpl:(backTo pos (starEach es X.env)).any (·.1)=false:=by rfl):PE X (.Call (.Name x p) (e::es) [] pos) (tCB r t):=by
 intro pins s σ H Q I h
 refine B4 (zdy I hg hm hv ?_ hn hdb)
 exact CD (thn (ha pos pins s σ H _ I h) λus s1 ⟨vs,H1,I1,r1,q1⟩=>hc pins s1 σ H1 vs us Q I1 r1 q1) he hpl
end
end L2
namespace HT
open PySem PyProof.Rows
section
open PySem.SeqAt
open PySem.AutoSeq1 (wpAny_loadPart')
open PySem.MeetsSeq PySem.MeetsSeq2 PySem.MeetsSeq3
end
section
variable {prog:A4}{w:Af}{A:Ar}{E:AH->AK->Prop}{s:AK}
theorem cat_tup {t b:AJ}{vs ws:List AH}{Q:AH->AK->Prop}(ht:Gg s.heap t vs.toArray)(hb:Gg s.heap b ws.toArray)(hv:vs≠[])
  (h1:ws=[]->Q (.ref t) s) (h2:ws≠[]->Q (.ref s.heap.objs.size) { s with heap:=s.heap.push { cls:=.type "tuple",data:=.seq (vs++ws).toArray } })
  (hsz:vs.length+ws.length<=sizeLine):AZ (model prog w) A (binaryOp .Add (.ref t) (.ref b)) Q E s:=by
 obtain⟨⟨cls,dd,data,sl⟩,ho,hc,n,hd⟩:=id ht
 obtain⟨⟨cls2,dd2,data2,sl2⟩,ho2,hc2,n2,hd2⟩:=id hb
 simp only at hc hd hc2 hd2
 subst hc hd hc2 hd2
 have e:vs.toArray++ws.toArray=(vs++ws).toArray:=by simp
 by_cases hw:ws=[]
 .exact Fk ⟨_,ho,rfl⟩ ⟨_,ho2,rfl⟩ Ea FX DH DE (Cw _ _)
   (tuple_addW1 t b vs.toArray ws.toArray n n2 dd dd2 sl sl2 (by simpa using hv) (by simp[hw])) ⟨ho,ho2,h1 hw⟩
 .refine Fk ⟨_,ho,rfl⟩ ⟨_,ho2,rfl⟩ Ea FX DH DE (Cw _ _)
   (tuple_addW2 t b vs.toArray ws.toArray n n2 dd dd2 sl sl2 (by simpa using hv) (by simpa using hw) (by rw[AW,AW];exact hsz)) ⟨ho,ho2,?_⟩
  rw[e]
  exact h2 hw
def sIx (n d:Nat):Option Int->Nat
 |none=>d
 |some v=>if v<0 then(v+(n:Int)).toNat else min v.toNat n
theorem sIx_le (n d:Nat)(hd:d<=n)(o:Option Int):sIx n d o<=n:=by
 cases o with
 |none=>exact hd
 |some v =>
  show (if v<0 then(v+(n:Int)).toNat else min v.toNat n)<=n
  by_cases hv:v<0
  .rw[if_pos hv];omega
  .rw[if_neg hv];exact Nat.min_le_right _ _
theorem zhQ (v:Int)(n d:Nat):(if v<0 then max (v+(n:Int)) 0 else min v (n:Int))=((sIx n d (AA v):Nat):Int):=by
 show (if v<0 then max (v+(n:Int)) 0 else min v (n:Int))=(((if v<0 then(v+(n:Int)).toNat else min v.toNat n):Nat):Int)
 by_cases hv:v<0
 .simp only[if_pos hv];omega
 .simp only[if_neg hv];omega
theorem zgf (lo hi:Option Int)(n:Nat):Cr lo hi 1 (n:Int)=(((sIx n 0 lo:Nat):Int),((sIx n n hi:Nat):Int)):=by
 have h1:¬((1:Int)<0):=by omega
 unfold Cr
 simp only[h1,if_false]
 refine Prod.ext ?_ ?_
 .cases lo with
  |none=>rfl
  |some v=>exact zhQ v n 0
 .cases hi with
  |none=>rfl
  |some v=>exact zhQ v n n
theorem zgh (i j:Nat):BU (i:Int) (j:Int) 1=j - i:=by
 unfold BU
 have h1:(1:Int) > 0:=by omega
 simp only[h1,if_true,Dn]
 split <;> omega
theorem zdf {v:AH}{o:Option Int}{Q:Option Int->AK->Prop}(p:Eh v o)(h:Q o s):AZ (model prog w) A (GV v) Q E s:=by
 cases p with
 |none=>exact EA h
 |int i t=>exact slicePart_int h
theorem sliceApplied_gen {sl:AJ}{vl vu:AH}{lo hi:Option Int}{n:Nat}{Q:Int×Int×Nat->AK->Prop}(hs:s.heap.IsSliceOf sl vl vu .none)(pl:Eh vl lo)(pu:Eh vu hi)
  (h:Q (((sIx n 0 lo:Nat):Int),1,sIx n n hi - sIx n 0 lo) s):AZ (model prog w) A (CM (.ref sl) (pure (n:Int))) Q E s:=by
 obtain⟨os,hos,hcs,hds⟩:=id hs
 unfold CM EK
 refine AI (AI (BN hos hds (x:=vl) rfl (AI (BN hos hds (x:=vu) rfl (AI (BN hos hds (x:=.none) rfl (AQ ?_)))))))
 refine AI (EA ?_)
 show AZ _ _ (if ((1:Int) == 0)=AC then _ else _) _ _ s
 rw[if_neg (by decide)]
 refine AI (zdf pl (AI (zdf pu (AI (AQ ?_)))))
 show AZ _ _ (match Cr lo hi 1 (n:Int)with|(lo,hi)=>pure (lo,(1:Int),BU lo hi 1)) _ _ s
 rw[zgf lo hi n]
 show AZ _ _ (pure (((sIx n 0 lo:Nat):Int),(1:Int),BU ((sIx n 0 lo:Nat):Int) ((sIx n n hi:Nat):Int) 1)) _ _ s
 rw[zgh]
 exact AQ h
theorem zit (xs:Array AH)(i k:Nat):((C2 k).filterMap λ(m:Nat)=>xs[((i:Int)+(m:Int)*1).toNat]?).toArray=((xs.toList.drop i).take k).toArray:=by
 have e:(λ(m:Nat)=>xs[((i:Int)+(m:Int)*1).toNat]?)=λm=>xs[i+m]?:=by
  funext m
  have:((i:Int)+(m:Int)*1).toNat=i+m:=by omega
  rw[this]
 rw[e]
 have:=pick_run xs i k
 rw[List.filterMap_map]at this
 have e2:((λx=>xs[x]?) ∘ λx=>i+x)=λm=>xs[i+m]?:=rfl
 rw[e2]at this
 rw[this]
theorem getItem_tuple_cut {t sl:AJ}{items:Array AH}{vl vu:AH}{lo hi:Option Int}{Q:AH->AK->Prop}(ht:Gg s.heap t items)(hs:s.heap.IsSliceOf sl vl vu .none)(pl:Eh vl lo)(pu:Eh vu hi)
  (hw:¬(sIx items.size 0 lo=0/\sIx items.size items.size hi=items.size))
  (h:Q (.ref s.heap.objs.size) { s with heap:=s.heap.push { cls:=.type "tuple",data:=.seq ((items.toList.drop (sIx items.size 0 lo)).take (sIx items.size items.size hi - sIx items.size 0 lo)).toArray } })
  (hsz:items.size<=sizeLine):AZ (model prog w) A (getItem (.ref t) (.ref sl)) Q E s:=by
 have htake:sizeOk (.seq ((items.toList.drop (sIx items.size 0 lo)).take (sIx items.size items.size hi - sIx items.size 0 lo)).toArray):=by
  show ((items.toList.drop (sIx items.size 0 lo)).take (sIx items.size items.size hi - sIx items.size 0 lo)).toArray.size<=sizeLine
  rw[AW,E8,GF,CC]
  omega
 have hj:sIx items.size items.size hi<=items.size:=sIx_le _ _ (AT _) hi
 obtain⟨os,hos,hcs,hds⟩:=id hs
 have hTs:s.TypeIs (.ref sl) "slice":=⟨os,hos,hcs⟩
 unfold getItem
 try with_reducible refine Cv ?_
 first|refine AI (AQ ?_)|skip
 refine AI (ES ht.typeIs (by decide) ?_)
 refine AI (B1 (name:=AF "__getitem__") ht.typeIs Ab
  (CG Ab ht.typeIs Dj ?_ (EB _ _)))
 show AZ _ _ (Cg (.ref t) >>= _) _ _ s
 refine AI (EL ht ?_)
 refine AI (Ei hTs ?_)
 rw[if_pos (by decide)]
 refine AI (sliceApplied_gen hs pl pu ?_)
 have hno:¬((((sIx items.size 0 lo:Nat):Int) == 0 && (1:Int) == 1 && (sIx items.size items.size hi - sIx items.size 0 lo) == items.size)=AC):=by
  intro q
  rw[AL,AL]at q
  have q1:((sIx items.size 0 lo:Nat):Int)=0:=eq_of_beq q.1.1
  have q2:sIx items.size items.size hi - sIx items.size 0 lo=items.size:=eq_of_beq q.2
  exact hw ⟨by omega,by omega⟩
 show AZ _ _ (if (((sIx items.size 0 lo:Nat):Int) == 0 && (1:Int) == 1 && (sIx items.size items.size hi - sIx items.size 0 lo) == items.size)=AC then _ else _) _ _ s
 rw[if_neg hno,zit]
 first
  | exact AI (m:=BQ _) (BM (AQ ⟨_,rfl,AQ h⟩) htake)
  | exact AI (m:=BQ _) (BM (AI (AQ (AQ ⟨_,rfl,AQ h⟩))) htake)
  | exact AI (AI (m:=BQ _) (BM (AQ (AQ ⟨_,rfl,AQ h⟩)) htake))
  | exact AI (AI (m:=BQ _) (BM (AQ ⟨_,rfl,AQ h⟩) htake))
end
end HT
namespace L2
open PySem PySem.Spec PyProof.Rows
abbrev TO:=St->Hp->(Option Int->Hp->Prop)->Prop
def PO (X:Cx)(e:Option AV)(t:TO):Prop :=
 ∀(pins:List (AJ×CB)) (s:AK) (σ:St) (H:Hp) (Q:Option Int->Hp->Prop),Inv X pins σ H s->t σ H Q ->
  AZ (model X.prog X.w) X.A (evalPart e X.env) (λu s'=>∃o H',Inv X pins σ H' s'/\Eh u o/\Q o H') X.xe s
def ycU:TO:=λ_ H Q=>Q AE H
theorem zde {ns:List Int}:∀{us:List AH},Vals (ns.map V.int) us->Ej us ns:=by
 induction ns with
 |nil=>intro us r;rw[A6]at r;cases r;exact .nil
 |cons n ns ih =>
  intro us r
  rw[AM]at r
  cases r with
  |cons r1 r2 =>
   obtain⟨t,e⟩:=r1
   subst e
   exact .cons n t (ih r2)
section
variable {X:Cx}{e:AV}{te:TE}{lo hi:Option AV}{tl th:TO}{pos p2:CT}
theorem zls:PO X AE ycU:=by
 intro pins s σ H Q I h
 rw[FY]
 exact AQ ⟨AE,H,I,.none,h⟩
def SlR (X:Cx)(r:V->Option Int->Option Int->Hp->VK->Prop):Prop :=
 ∀(pins:List (AJ×CB)) (s:AK) (σ:St) (H:Hp) (x:V) (v vl vu:AH) (lo hi:Option Int) (sl:AJ) (Q:VK),Inv X pins σ H s->RelV x v->s.heap.IsSliceOf sl vl vu .none->Eh vl lo->Eh vu hi->r x lo hi H Q ->
  ∃T id,typeLookup (.type T) "__getitem__"=pure (AA (.builtin id))/\s.TypeIs v T/\AZ (model X.prog X.w) X.A (getItem v (.ref sl)) (EP X pins σ Q) X.xe s
def tSl (r:V->Option Int->Option Int->Hp->VK->Prop)(te:TE)(tl th:TO):TE:=λσ H Q=>te σ H λx H1=>tl σ H1 λl H2=>th σ H2 λu H3=>r x l u H3 Q
theorem zjv {r:V->Option Int->Option Int->Hp->VK->Prop}(hr:SlR X r)(he:PE X e te)(hl:PO X lo tl)(hu:PO X hi th):PE X (.Subscript e (.Slice lo hi AE p2) pos) (tSl r te tl th):=by
 intro pins s σ H Q I h
 refine F8 (thn (he pins s σ H _ I h) λv s1 ⟨x,H1,I1,r1,q1⟩=>?_)
 refine wpAny_Slice (thn (hl pins s1 σ H1 _ I1 q1) λvl s2 ⟨l,H2,I2,pl,q2⟩=>thn (hu pins s2 σ H2 _ I2 q2) λvu s3 ⟨u,H3,I3,pu,q3⟩=>?_)
 rw[FY]
 refine AQ ?_
 have I4:Inv X pins σ H3 { s3 with heap:=s3.heap.push { cls:=.type "slice",data:=.fields #[vl,vu,.none] } }:=I3.kept (t':=s3.toks) λb ob q=>AN _ q
 obtain⟨T,id,hT,ht,hg⟩:=hr pins { s3 with heap:=s3.heap.push { cls:=.type "slice",data:=.fields #[vl,vu,.none] } } σ H3 x v vl vu l u s3.heap.objs.size Q I4 r1 (EC ..) pl pu q3
 show AZ (model X.prog X.w) X.A (subscriptTail e (.Slice lo hi AE p2) v (.ref s3.heap.objs.size)) (EP X pins σ Q) X.xe { s3 with heap:=s3.heap.push { cls:=.type "slice",data:=.fields #[vl,vu,.none] } }
 exact G5 (ops:=[.ref s3.heap.objs.size,v]) ht hT hg (by ac_rfl)
def ycy (xs:List V)(lo hi:Option Int):List V:=(xs.drop (HT.sIx xs.length 0 lo)).take (HT.sIx xs.length xs.length hi - HT.sIx xs.length 0 lo)
theorem zda (xs:List V)(lo hi:Option Int):(ycy xs lo hi).length<=xs.length:=by
 unfold ycy
 rw[E8,GF]
 omega
def yfA (K:AG):V->Option Int->Option Int->Hp->VK->Prop:=λx lo hi H Q=>∃a xs,x=.ref a/\SqT K H a xs /\
 ¬(HT.sIx xs.length 0 lo=0/\HT.sIx xs.length xs.length hi=xs.length)/\∀p,H p=AE->Q (.ref p) (upd H p (.tup (ycy xs lo hi)))
theorem zmR:SlR X (yfA X.K):=by
 intro pins s σ H x v vl vu lo hi sl Q I rx hs pl pu h
 obtain⟨a,xs,rfl,hx,hw,q⟩:=h
 cases rx
 obtain⟨its,r,ht,hz⟩:=I.tuple hx
 have hlen:its.toArray.size=xs.length:=by rw[AW];exact r.length.symm
 refine⟨"tuple",_,Ab.lookup,ht.typeIs,?_⟩
 refine HT.getItem_tuple_cut ht hs pl pu (by rw[hlen];exact hw) ?_ (by rw[hlen];exact hz)
 rw[hlen]
 refine⟨.ref s.heap.objs.size,_,I.laid (t':=s.toks) (o:=.tup (ycy xs lo hi)) (λb ob q=>AN _ q) (AT _) ?_,rfl,q _ (I.hok.fresh (AT _))⟩
 exact⟨BZ (zda xs lo hi) hz,_,(r.drop (HT.sIx xs.length 0 lo)).take (HT.sIx xs.length xs.length hi - HT.sIx xs.length 0 lo),FO _ _⟩
def yeb (K:AG):R2:=λx y H Q=>∃a b xs ys,x=.ref a/\y=.ref b/\SqT K H a xs/\SqT K H b ys/\xs≠[]/\xs.length+ys.length<=sizeLine /\
 (ys=[]->Q (.ref a) H)/\(ys≠[]->∀p,H p=AE->Q (.ref p) (upd H p (.tup (xs++ys))))
theorem Vals.nil_iff {xs:List V}{us:List AH}(r:Vals xs us):us=[] ↔ xs=[]:=by
 cases r with
 |nil=>simp
 |cons _ _=>simp
theorem zlm:OpR X (binaryOp .Add) (yeb X.K):=by
 intro pins s σ H x y v u Q I rx ry h
 obtain⟨a,b,xs,ys,rfl,rfl,ha,hb,hx,hz,q1,q2⟩:=h
 cases rx
 cases ry
 obtain⟨its,r1,p1,_⟩:=I.tuple ha
 obtain⟨its2,r2,p2,_⟩:=I.tuple hb
 refine HT.cat_tup p1 p2 (λz=>hx (r1.nil_iff.mp z)) (λz=>⟨.ref a,H,I,rfl,q1 (r2.nil_iff.mp z)⟩) (λz=>?_) (by rw[<- r1.length,<- r2.length];exact hz)
 refine⟨.ref s.heap.objs.size,_,I.laid (t':=s.toks) (o:=.tup (xs++ys)) (λb ob q=>AN _ q) (AT _) ?_,rfl,q2 (λw=>z (r2.nil_iff.mpr w)) _ (I.hok.fresh (AT _))⟩
 exact⟨by rw[A7];exact hz,_,r1.append r2,FO _ _⟩
end
def ixN (n:Nat)(i:Int):Option Nat:=if 0<=i then(if i<n then AA i.toNat else AE)else if -(n:Int)<=i then AA (i+n).toNat else AE
def atI {α:Type}(xs:List α)(i:Int):Option α:=(ixN xs.length i).bind λj=>xs[j]?
theorem zii {n:Nat}{i:Int}{j:Nat}(h:ixN n i=AA j):seqIndex? i n=AA j/\j<n/\-(n:Int)<=i/\i<n:=by
 unfold ixN at h
 by_cases h0:0<=i
 .rw[if_pos h0]at h
  by_cases h1:i<n
  .rw[if_pos h1]at h
   have e:i.toNat=j:=AX h
   exact⟨by rw[GS h0 h1,e],by omega,by omega,h1⟩
  .rw[if_neg h1]at h;cases h
 .rw[if_neg h0]at h
  by_cases h1:-(n:Int)<=i
  .rw[if_pos h1]at h
   have e:(i+n).toNat=j:=AX h
   exact⟨by rw[seqIndex_neg (by omega) h1,e],by omega,h1,by omega⟩
  .rw[if_neg h1]at h;cases h
theorem zfh {α:Type}{xs:List α}{i:Int}{v:α}(h:atI xs i=AA v):∃j,seqIndex? i xs.length=AA j/\xs[j]?=AA v/\j<xs.length/\-(xs.length:Int)<=i/\i<xs.length:=by
 unfold atI at h
 cases e:ixN xs.length i with
 |none=>rw[e]at h;cases h
 |some j =>
  rw[e]at h
  obtain⟨h1,h2,h3,h4⟩:=zii e
  exact⟨j,h1,h,h2,h3,h4⟩
def ybB (b:AV):Prop:=∀o i,subscripted b AD o i=operate [o,i] (getItem o i)
def IxR (X:Cx)(r:R2):Prop :=
 ∀(value slice:AV) (pins:List (AJ×CB)) (s:AK) (σ:St) (H:Hp) (x y:V) (v u:AH) (Q:VK),Inv X pins σ H s->RelV x v->RelV y u->r x y H Q ->
  subscripted slice AD v u=operate [v,u] (getItem v u)->AZ (model X.prog X.w) X.A (subscriptTail value slice v u) (EP X pins σ Q) X.xe s
def MtR (X:Cx)(id:String)(r:V->List V->Hp->VK->Prop):Prop :=
 ∀(pins:List (AJ×CB)) (s:AK) (σ:St) (H:Hp) (x:V) (xs:List V) (v:AH) (us:List AH) (Q:VK),Inv X pins σ H s->RelV x v->Vals xs us->r x xs H Q ->
  AZ (model X.prog X.w) X.A (call (.builtin id) (v::us)) (EP X pins σ Q) X.xe s
section
variable {X:Cx}{a b:AV}{ta tb:TE}{pos:CT}
theorem IxR.or {r r':R2}(h:IxR X r)(h':IxR X r'):IxR X (λx y H Q=>r x y H Q \/ r' x y H Q):=by
 intro value slice pins s σ H x y v u Q I rx ry q hs
 rcases q with q|q
 .exact h value slice pins s σ H x y v u Q I rx ry q hs
 .exact h' value slice pins s σ H x y v u Q I rx ry q hs
theorem zoM {r:R2}(hr:IxR X r)(ha:PE X a ta)(hb:PE X b tb)(hs:ybB b):PE X (.Subscript a b pos) (tOp r ta tb):=by
 intro pins s σ H Q I h
 exact F8 (yeG ha hb I h λv u s2 x y H2 I2 rx ry q=>hr a b pins s2 σ H2 x y v u Q I2 rx ry q (hs _ _))
def yff (K:AG):R2:=λx y H Q=>∃p xs i v,x=.ref p/\y=.int i/\SqL K H p xs/\atI xs i=AA v/\Q v H
def yfa (K:AG):R2:=λx y H Q=>∃p xs i v,x=.ref p/\y=.int i/\SqT K H p xs/\atI xs i=AA v/\Q v H
def yfq:R2:=λx y H Q=>∃z i c,x=.str z/\y=.int i/\z.length<=sizeLine/\atI z.cps.toList i=AA c/\Q (.str ⟨#[c]⟩) H
theorem yc0:IxR X (yff X.K):=by
 intro value slice pins s σ H x y v u Q I rx ry h hs
 obtain⟨p,xs,i,z,rfl,rfl,hq,he,q⟩:=h
 cases rx
 obtain⟨t,rfl⟩:=ry
 obtain⟨its,r,pl,hz⟩:=I.list hq
 obtain⟨j,h1,h2,h3,h4,h5⟩:=zfh he
 obtain⟨w,ew,rw'⟩:=r.get h2
 have hl:=r.length
 have hn:=yaU
 have fin:EP X pins σ Q w s:=⟨z,H,I,rw',q⟩
 by_cases h0:0<=i
 .have hj:i.toNat=j:=by
   rw[GS h0 h5]at h1
   exact AX h1
  exact item_listR pl.isList h0 (by omega) (by rw[hj];simpa using ew) fin hs
 .have hj:(i+(its.toArray.size:Int)).toNat=j:=by
   rw[seqIndex_neg (by omega) h4]at h1
   rw[AW,<- hl]
   exact AX h1
  exact Ek (x:=w) pl.isList.typeIs ET.lookup
   (wpAny_getItem_list_neg (Q:=λr s'=>r=w/\EP X pins σ Q r s') pl.isList (by omega) (by rw[AW] <;> omega) (by omega) (by rw[hj];simpa using ew) ⟨rfl,fin⟩) hs
theorem ydc:IxR X (yfa X.K):=by
 intro value slice pins s σ H x y v u Q I rx ry h hs
 obtain⟨p,xs,i,z,rfl,rfl,hq,he,q⟩:=h
 cases rx
 obtain⟨t,rfl⟩:=ry
 obtain⟨its,r,pl,hz⟩:=I.tuple hq
 obtain⟨j,h1,h2,h3,h4,h5⟩:=zfh he
 obtain⟨w,ew,rw'⟩:=r.get h2
 have hl:=r.length
 have hn:=yaU
 have fin:EP X pins σ Q w s:=⟨z,H,I,rw',q⟩
 exact Ek (x:=w) pl.typeIs Ab.lookup
  (getItem_tuple (j:=j) (Q:=λr s'=>r=w/\EP X pins σ Q r s') pl (by omega) (by omega) (by rw[AW,<- hl];exact h1) (by simpa using ew) ⟨rfl,fin⟩) hs
theorem zmY:IxR X yfq:=by
 intro value slice pins s σ H x y v u Q I rx ry h hs
 obtain⟨z,i,c,rfl,rfl,hz,he,q⟩:=h
 obtain⟨t,rfl⟩:=rx
 obtain⟨t',rfl⟩:=ry
 obtain⟨j,h1,h2,h3,h4,h5⟩:=zfh he
 have hl:z.cps.toList.length=z.length:=by simp[Str.length]
 rw[hl]at h1 h4 h5
 have hn:=yaU
 exact G5 (G6 s z t) slot_str_getitem.lookup (getItem_str (c:=c) (by
  have e1:decide (i < -(2^63:Int))=false:=decide_eq_false (by omega)
  have e2:decide (i ≥ 2^63)=false:=decide_eq_false (by omega)
  rw[e1,e2,Ge]) (by rw[h1];simpa using h2) ⟨.str ⟨#[c]⟩,H,I.tok _,⟨_,rfl⟩,q⟩) hs
def rIx (K:AG):R2:=λx y H Q=>yff K x y H Q \/ yfa K x y H Q \/ yfq x y H Q
theorem zfF:IxR X (rIx X.K):=yc0.or (ydc.or zmY)
theorem zgo (its:List AH)(n j:Nat)(u:AH):El (·.setIfInBounds j u) { cls:=.type "list",data:=.seq its.toArray n }={ cls:=.type "list",data:=.seq (its.set j u).toArray n }:=by
 simp[El]
theorem Inv.lst {pins:List (AJ×CB)}{σ:St}{H:Hp}{s:AK}{p:AJ}{xs:List V}(I:Inv X pins σ H s)(h:H p=AA (.lst xs)) :
  ∃(its:List AH) (n:Nat),Vals xs its/\s.heap.get? p=AA { cls:=.type "list",data:=.seq its.toArray n }/\xs.length<=sizeLine:=by
 obtain⟨z,its,n,r,e⟩:=I.hok p _ h
 exact⟨its,n,r,e,z⟩
theorem Inv.lstUpd {pins:List (AJ×CB)}{σ:St}{H:Hp}{s:AK}{p:AJ}{xs ys:List V}{its its':List AH}{n n':Nat}{f:CB->CB}(I:Inv X pins σ H s)(h:H p=AA (.lst xs))
  (ho:s.heap.get? p=AA { cls:=.type "list",data:=.seq its.toArray n }) (hf:f { cls:=.type "list",data:=.seq its.toArray n }={ cls:=.type "list",data:=.seq its'.toArray n' }) (r:Vals ys its') (hz:ys.length<=sizeLine) (t:Nat) :
  Inv X pins σ (upd H p (.lst ys)) { s with heap:=s.heap.update p f,toks:=t }:=by
 have e:(s.heap.update p f).get? p=AA { cls:=.type "list",data:=.seq its'.toArray n' }:=by
  rw[Ey f ho (by rw[hf] <;> rfl),hf]
 refine I.write (x:=p) (e:=p) (by rw[h];trivial) (.inl rfl) (λb u hb q=>(DI _ _ (BG hb)).trans q) ⟨_,e⟩ ?_
 exact⟨hz,its',n',r,e⟩
def ydt:V->V->V->Hp->(Hp->Prop)->Prop:=λo i v H Q=>∃p xs k j,o=.ref p/\i=.int k/\H p=AA (.lst xs)/\ixN xs.length k=AA j/\Q (upd H p (.lst (xs.set j v)))
theorem zfw:ye9 X ydt:=by
 intro pins s σ H o i v ov iv u Q I ro ri rv h
 obtain⟨p,xs,k,j,rfl,rfl,hp,hj,q⟩:=h
 cases ro
 obtain⟨t,rfl⟩:=ri
 obtain⟨its,n,r,ho,hz⟩:=I.lst hp
 obtain⟨h1,h2,h3,h4⟩:=zii hj
 have hl:=r.length
 have hn:=yaU
 have I':Inv X pins σ (upd H p (.lst (xs.set j v))) { s with heap:=s.heap.update p (El (·.setIfInBounds j u)) } :=
  I.lstUpd hp ho (zgo its n j u) (r.set rv j) (by rw[B6];exact hz) s.toks
 by_cases h0:0<=k
 .have hk:k.toNat=j:=by
   rw[GS h0 h4]at h1
   exact AX h1
  exact PySem.W.ki_setAt ho h0 (by omega) (by rw[AW,<- hl];exact h4) (by rw[hk];exact⟨_,I',q⟩)
 .have hk:(k+(its.toArray.size:Int)).toNat=j:=by
   rw[seqIndex_neg (by omega) h3]at h1
   rw[AW,<- hl]
   exact AX h1
  exact PySem.W.ki_setBack ho (by omega) (by rw[AW,<- hl];exact h3) (by omega) (by rw[hk];exact⟨_,I',q⟩)
theorem zeX (lo hi:Option Int)(n:Nat):(sliceBounds lo hi AE n).1=((HT.sIx n 0 lo:Nat):Int)/\(sliceBounds lo hi AE n).2.1=((HT.sIx n n hi:Nat):Int)/\(sliceBounds lo hi AE n).2.2=1:=by
 refine⟨?_,?_,rfl⟩
 .cases lo with
  |none=>simp[sliceBounds,HT.sIx]
  |some i =>
   simp only[sliceBounds,HT.sIx,GG,show (1:Int) > 0 by decide,if_true]
   by_cases h:i<0
   .simp only[h,if_true] <;> omega
   .simp only[h,if_false] <;> omega
 .cases hi with
  |none=>simp[sliceBounds,HT.sIx]
  |some i =>
   simp only[sliceBounds,HT.sIx,GG,show (1:Int) > 0 by decide,if_true]
   by_cases h:i<0
   .simp only[h,if_true] <;> omega
   .simp only[h,if_false] <;> omega
theorem zdX (its:List AH)(lo hi:Option Int):slicePick its.toArray lo hi AE=((its.drop (HT.sIx its.length 0 lo)).take (HT.sIx its.length its.length hi - HT.sIx its.length 0 lo)).toArray:=by
 obtain⟨h1,h2,h3⟩:=zeX lo hi its.toArray.size
 unfold slicePick
 rw[h1,h2,h3]
 simp only[sliceRange_one,pick_run,AW] <;> rfl
def ygc (K:AG):V->Option Int->Option Int->Hp->VK->Prop:=λx lo hi H Q=>∃a xs,x=.ref a/\SqL K H a xs/\∀p,H p=AE->Q (.ref p) (upd H p (.lst (ycy xs lo hi)))
theorem zhR:SlR X (ygc X.K):=by
 intro pins s σ H x v vl vu lo hi sl Q I rx hs pl pu h
 obtain⟨a,xs,rfl,hx,q⟩:=h
 cases rx
 obtain⟨its,r,ht,hz⟩:=I.list hx
 have hlen:=r.length
 refine⟨"list",_,ET.lookup,ht.isList.typeIs,?_⟩
 refine EZ ht.isList hs pl pu .none (by simp) ?_ (by rw[AW] <;> omega)
 rw[zdX,<- hlen]
 refine⟨.ref s.heap.objs.size,_,I.laid (t':=s.toks) (o:=.lst (ycy xs lo hi)) (λb ob q=>AN _ q) (AT _) ?_,rfl,q _ (I.hok.fresh (AT _))⟩
 exact⟨BZ (zda xs lo hi) hz,_,0,(r.drop (HT.sIx xs.length 0 lo)).take (HT.sIx xs.length xs.length hi - HT.sIx xs.length 0 lo),A2 _ rfl⟩
def ya7:V->Bool
 | .non=>AC
 | .bl _=>AC
 | .int _=>AC
 | .str _=>AC
 |_=>AD
def eqV:V->V->Bool
 | .non,.non=>AC
 | .bl a,.bl b=>a == b
 | .bl a,.int b=>(if a then 1 else 0) == b
 | .int a,.bl b=>a == (if b then 1 else 0)
 | .int a,.int b=>a == b
 | .str a,.str b=>a == b
 |_,_=>AD
theorem zoi {A:Ar}{s:AK}{y x:V}{u v:AH}(ry:RelV y u)(rx:RelV x v)(fy:ya7 y=AC)(fx:ya7 x=AC):HH A s u v (eqV y x):=by
 cases y with
 |non =>
  cases ry
  cases x with
  |non=>cases rx;exact SeqAt.EqAt.same _
  |bl b=>cases rx;exact SeqAt.EqAt.none_bool b
  |int b=>obtain⟨t,rfl⟩:=rx;exact SeqAt.EqAt.none_int b t
  |str b=>obtain⟨t,rfl⟩:=rx;exact SeqAt.EqAt.none_str b t
  |_=>exact absurd (show AD=AC from fx) Az
 |bl a =>
  cases ry
  cases x with
  |non=>cases rx;exact SeqAt.EqAt.bool_none a
  |bl b=>cases rx;exact SeqAt.EqAt.bool_bool a b
  |int b=>obtain⟨t,rfl⟩:=rx;exact SeqAt.EqAt.bool_int a b t
  |str b=>obtain⟨t,rfl⟩:=rx;exact SeqAt.EqAt.bool_str a b t
  |_=>exact absurd (show AD=AC from fx) Az
 |int a =>
  obtain⟨t',rfl⟩:=ry
  cases x with
  |non=>cases rx;exact SeqAt.EqAt.int_none a t'
  |bl b=>cases rx;exact SeqAt.EqAt.int_bool a t' b
  |int b=>obtain⟨t,rfl⟩:=rx;exact SeqAt.EqAt.int_int a t' b t
  |str b=>obtain⟨t,rfl⟩:=rx;exact F4 a t' b t
  |_=>exact absurd (show AD=AC from fx) Az
 |str a =>
  obtain⟨t',rfl⟩:=ry
  cases x with
  |non=>cases rx;exact SeqAt.EqAt.str_none a t'
  |bl b=>cases rx;exact SeqAt.EqAt.str_bool a t' b
  |int b=>obtain⟨t,rfl⟩:=rx;exact F5 a t' b t
  |str b=>obtain⟨t,rfl⟩:=rx;exact SeqAt.EqAt.str_str a t' b t
  |_=>exact absurd (show AD=AC from fx) Az
 |_=>exact absurd (show AD=AC from fy) Az
def eqU (x:V)(u:AH):Bool:=match u with
 | .none=>eqV .non x
 | .bool b=>eqV (.bl b) x
 | .int i _=>eqV (.int i) x
 | .str z _=>eqV (.str z) x
 |_=>AD
theorem zj3 {x y:V}{u:AH}(r:RelV y u)(f:ya7 y=AC):eqU x u=eqV y x:=by
 cases y with
 |non=>cases r;rfl
 |bl b=>cases r;rfl
 |int i=>obtain⟨t,rfl⟩:=r;rfl
 |str z=>obtain⟨t,rfl⟩:=r;rfl
 |_=>exact absurd (show AD=AC from f) Az
theorem zfo {x:V}:∀{xs:List V} {us:List AH},Vals xs us->xs.all ya7=AC->us.any (eqU x)=xs.any λy=>eqV y x
 |_,_,.nil,_=>rfl
 |y::xs,u::us,.cons r t,f=>by
  rw[Bc,AL]at f
  rw[Bk,Bk,zj3 r f.1,zfo t f.2]
theorem zd0 {A:Ar}{s:AK}{x:V}{v:AH}(rx:RelV x v)(fx:ya7 x=AC):∀{xs:List V} {us:List AH},Vals xs us->xs.all ya7=AC->∀u∈us,HH A s u v (eqU x u)
 |_,_,.nil,_=>λu hu=>by cases hu
 |y::xs,u::us,.cons r t,f=>λu' hu=>by
  rw[Bc,AL]at f
  rcases AU.mp hu with rfl|hu
  .rw[zj3 r f.1];exact zoi r rx f.1 fx
  .exact zd0 rx fx t f.2 u' hu
def inV (x:V)(xs:List V):Bool:=xs.any λy=>eqV y x
def rIn (K:AG)(neg:Bool):R2:=λx y H Q=>∃p xs,y=.ref p/\(SqL K H p xs \/ SqT K H p xs)/\ya7 x=AC/\xs.all ya7=AC/\Q (.bl (if neg then !inV x xs else inV x xs)) H
theorem zem:OpR X (compareOp .In) (rIn X.K AD):=by
 intro pins s σ H x y v u Q I rx ry h
 obtain⟨p,xs,rfl,hq,fx,fs,q⟩:=h
 cases ry
 rcases hq with hq|hq
 .obtain⟨its,r,pl,hz⟩:=I.list hq
  refine SeqAt.in_listAt (eqU x) pl.isList (λw hw=>zd0 rx fx r fs w (by simpa using hw)) ⟨.bl _,H,I,rfl,?_⟩
  rw[show its.toArray.any (eqU x)=its.any (eqU x)by simp,zfo r fs]
  exact q
 .obtain⟨its,r,pl,hz⟩:=I.tuple hq
  refine SeqAt.in_tupleAt (eqU x) pl (λw hw=>zd0 rx fx r fs w (by simpa using hw)) ⟨.bl _,H,I,rfl,?_⟩
  rw[show its.toArray.any (eqU x)=its.any (eqU x)by simp,zfo r fs]
  exact q
theorem zeD:yao X (.builtin "len") (λxs H Q=>∃p ys,xs=[.ref p]/\(SqL X.K H p ys \/ SqT X.K H p ys)/\Q (.int ys.length) H):=by
 intro pins s σ H xs us Q I r h
 obtain⟨p,ys,rfl,hq,q⟩:=h
 obtain⟨u,rfl,rx⟩:=vals1 r
 cases rx
 have hn:=yaU
 rcases hq with hq|hq
 .obtain⟨its,r',pl,hz⟩:=I.list hq
  have hlen:=r'.length
  exact Calls.call_len_list pl.isList (by simp only[AW] <;> omega) ⟨.int ys.length,H,I.tok _,⟨s.toks+1,by rw[AW,hlen]⟩,q⟩
 .obtain⟨its,r',pl,hz⟩:=I.tuple hq
  have hlen:=r'.length
  exact len_tuple pl (by simp only[AW] <;> omega) ⟨.int ys.length,H,I.tok _,⟨s.toks+1,by rw[AW,hlen]⟩,q⟩
theorem zeu:yao X (.builtin "len") (λxs H Q=>∃z,xs=[.str z]/\z.length<=sizeLine/\Q (.int z.length) H):=by
 intro pins s σ H xs us Q I r h
 obtain⟨z,rfl,hz,q⟩:=h
 obtain⟨u,rfl,t,rfl⟩:=vals1 r
 have hn:=yaU
 exact len_str (by omega) ⟨.int z.length,H,I.tok _,⟨_,rfl⟩,q⟩
theorem zbw:yao X (.type "tuple") (λxs H Q=>∃p ys,xs=[.ref p]/\((SqL X.K H p ys/\∀l,H l=AE->Q (.ref l) (upd H l (.tup ys))) \/ (SqT X.K H p ys/\Q (.ref p) H))):=by
 intro pins s σ H xs us Q I r h
 obtain⟨p,ys,rfl,h⟩:=h
 obtain⟨u,rfl,rx⟩:=vals1 r
 cases rx
 rcases h with⟨hq,q⟩|⟨hq,q⟩
 .obtain⟨its,r',pl,hz⟩:=I.list hq
  have hlen:=r'.length
  refine call_tuple_list pl.isList (λh' kp=>?_) (by simp only[AW] <;> omega)
  have I1:Inv X pins σ H { s with heap:=h' }:=I.kept (t':=s.toks) kp
  have I2:Inv X pins σ (upd H h'.objs.size (.tup ys)) { s with heap:=h'.push { cls:=.type "tuple",data:=.seq its.toArray } } :=
   I1.laid (t':=s.toks) (λb o e=>AN _ e) (AT _) (show yZ X.prog X.w _ _ _ (.tup ys)from ⟨hz,its,r',FO _ _⟩)
  exact⟨.ref h'.objs.size,_,I2,rfl,q _ (I1.hok.fresh (AT _))⟩
 .obtain⟨its,r',pl,hz⟩:=I.tuple hq
  exact call_tuple_same pl ⟨.ref p,H,I,rfl,q⟩
def tyV (K:AG)(T:String)(x:V)(H:Hp):Prop:=match x with
 | .str _=>T="str"
 | .int _=>T="int"
 | .ref p=>(T="list"/\∃xs,SqL K H p xs) \/ (T="tuple"/\∃o,K.lookup p=AA o/\o.cls=.type "tuple"/\o.dict=AE) \/
   (T="dict"/\((∃kvs,H p=AA (.dK kvs)) \/ ∃kvs,H p=AA (.dT kvs))) \/ (T="set"/\∃S n,H p=AA (.set S n))
 |_=>False
theorem zmm {pins:List (AJ×CB)}{σ:St}{H:Hp}{s:AK}{T:String}{x:V}{v:AH}(I:Inv X pins σ H s)(r:RelV x v)(ty:tyV X.K T x H) :
  s.TypeIs v T/\∀a,v=.ref a->∃ob,s.heap.get? a=AA ob/\ob.dict=none:=by
 cases x with
 |str z =>
  obtain⟨t,rfl⟩:=r
  cases (show T="str" from ty)
  exact⟨G6 s z t,λ_ e=>nomatch e⟩
 |int i =>
  obtain⟨t,rfl⟩:=r
  cases (show T="int" from ty)
  exact⟨typeIs_int s i t,λ_ e=>nomatch e⟩
 |ref p =>
  cases r
  rcases ty with⟨rfl,xs,hq⟩|⟨rfl,o,hk,hc,hd⟩|⟨rfl,hk⟩|⟨rfl,S,n,hk⟩
  .obtain⟨its,_,pl,_⟩:=I.list hq
   refine⟨pl.isList.typeIs,λa e=>?_⟩
   cases e
   obtain⟨o,n,e,c,hd,_⟩:=pl
   exact⟨o,e,hd⟩
  .refine⟨⟨o,I.kIn p o hk,hc⟩,λa e=>?_⟩
   cases e
   exact⟨o,I.kIn _ o hk,hd⟩
  .have z:∃o,s.heap.get? p=AA o/\o.ExactDict:=by
    rcases hk with⟨kvs,hk⟩|⟨kvs,hk⟩
    .obtain⟨_,_,_,_,o,_,_,e,ex,_⟩:=I.hok p _ hk
     exact⟨o,e,ex⟩
    .obtain⟨_,_,_,_,o,_,_,e,ex,_⟩:=I.hok p _ hk
     exact⟨o,e,ex⟩
   obtain⟨o,e,ex⟩:=z
   refine⟨⟨o,e,ex.1⟩,λa e2=>?_⟩
   cases e2
   exact⟨o,e,ex.2.1⟩
  .obtain⟨o,_,_,_,e,ex,_⟩:=I.hok p _ hk
   refine⟨⟨o,e,ex.1⟩,λa e2=>?_⟩
   cases e2
   exact⟨o,e,ex.2.1⟩
 |_=>exact Bf ty
def tBM (K:AG)(T:String)(r:V->List V->Hp->VK->Prop)(to:TE)(t:TA):TE:=λσ H Q=>to σ H λx H1=>tyV K T x H1/\t σ H1 λxs H2=>r x xs H2 Q
variable {o e:AV}{es:List AV}{to:TE}{t:TA}{name:AR}{apos cpos:CT}{T id:String}{r:V->List V->Hp->VK->Prop}
theorem zoA (pa:PlainAttrs T)(slot:Slot T name id)(hty:typeOf (.builtin id)=pure (.type "method_descriptor"))(hm:MtR X id r)(ho:PE X o to)(ha:PA X (e::es) t)
  (hbase:attributeBase o name X.env (eval o X.env)=eval o X.env:=by rfl)
  (hfew:((backTo cpos (starEach (e::es) X.env)).all (λx=>!x.1) && (backToKw cpos (keywordEach [] X.env)).all (λx=>x.1.isSome)
   && decide ((e::es).length+([]:List CW).length+(if ([]:List CW).isEmpty then 0 else 1)<30))=true:=by rfl)
  (hline:(apos.endLine == cpos.line)=true:=by rfl) (hs:starEach (e::es) X.env=(AD,eval e X.env)::starEach es X.env:=by rfl) (hplain:(backTo cpos (starEach es X.env)).any (·.1)=false:=by rfl) :
  PE X (.Call (.Attribute o name apos) (e::es) [] cpos) (tBM X.K T r to t):=by
 intro pins s σ H Q I h
 refine wpAny_Call_method_late hbase hfew hline rfl (thn (ho pins s σ H _ I h) λv s1 ⟨x,H1,I1,r1,ty,q1⟩=>?_)
 obtain⟨h1,h2⟩:=zmm I1 r1 ty
 refine⟨T,id,pa,slot,hty,h1,h2,?_⟩
 have hA:=ha cpos pins s1 σ H1 _ I1 q1
 rw[hs]at hA ⊢
 refine Em (by show (AD || (backTo cpos (starEach es X.env)).any (·.1))=AD;rw[hplain] <;> rfl) (FE ?_)
 exact thn hA λus s2 ⟨vs,H2,I2,r2,q2⟩=>hm pins s2 σ H2 x vs v us Q I2 r1 r2 q2
/- xs.append(e),list.index on a module's tuple .. are MtR facts of 06m -/
end
def MtM (X:Cx)(id:String)(r:V->List V->Hp->VK->Prop):Prop :=
 ∀(pins:List (AJ×CB)) (s:AK) (σ:St) (H:Hp) (x:V) (xs:List V) (v:AH) (us:List AH) (Q:VK),Inv X pins σ H s->RelV x v->Vals xs us->r x xs H Q ->
  AZ (model X.prog X.w) X.A (call (.builtin id) (v::us)) (EP X pins σ Q) X.xe s
theorem Vals.one:∀{x:V} {us:List AH},Vals [x] us->∃u,us=[u]/\RelV x u
 |_,_,.cons r .nil=>⟨_,rfl,r⟩
theorem Vals.reverse {xs:List V}{us:List AH}(h:Vals xs us):Vals xs.reverse us.reverse:=by
 induction h with
 |nil=>exact .nil
 |cons r t ih=>rw[DJ,DJ];exact Vals.append ih (.cons r .nil)
section
variable {X:Cx}{pins:List (AJ×CB)}{σ:St}{H:Hp}{s:AK}{l b:AJ}{xs ys zs:List V}
theorem Inv.lset {its its':List AH}{n:Nat}{f:Array AH->Array AH}{t':Nat}(I:Inv X pins σ H s)(hH:H l=AA (.lst xs))
  (e:s.heap.get? l=AA { cls:=.type "list",data:=.seq its.toArray n }) (hf:f its.toArray=its'.toArray) (hv:Vals ys its') (hz:ys.length<=sizeLine) :
  Inv X pins σ (upd H l (.lst ys)) { s with heap:=s.heap.update l (El f),toks:=t' }:=by
 have q:=PySem.IsL.update e f
 rw[hf]at q
 refine I.write (x:=l) (e:=l) (by rw[hH];exact trivial) (.inl rfl) (λb' u hb hu=>(DI s.heap (El f) (BG hb)).trans hu) ⟨_,q⟩ ?_
 exact⟨hz,its',_,hv,q⟩
theorem Inv.lnew {its:List AH}{t':Nat}(I:Inv X pins σ H s)(hv:Vals ys its)(hz:ys.length<=sizeLine) :
  Inv X pins σ (upd H s.heap.objs.size (.lst ys)) { s with heap:=s.heap.push { cls:=.type "list",data:=.seq its.toArray },toks:=t' } :=
 I.laid (λ_ _ q=>AN _ q) (AT _) ⟨hz,its,0,hv,A2 _ rfl⟩
theorem Inv.fresh (I:Inv X pins σ H s):H s.heap.objs.size=none:=I.hok.fresh (AT _)
theorem Inv.lstM (I:Inv X pins σ H s)(hH:H l=AA (.lst xs)):xs.length<=sizeLine/\∃(its:List AH) (n:Nat),Vals xs its/\xs.length=its.length/\s.heap.get? l=AA { cls:=.type "list",data:=.seq its.toArray n }:=by
 obtain⟨z,its,n,r,e⟩:=I.hok l _ hH
 exact⟨z,its,n,r,r.length,e⟩
end
section
variable {X:Cx}
def ycL:V->List V->Hp->VK->Prop:=λx vs H Q=>∃l xs y,x=.ref l/\vs=[y]/\H l=AA (.lst xs)/\xs.length<sizeLine/\Q .non (upd H l (.lst (xs++[y])))
theorem zep:MtM X "list.append" ycL:=by
 intro pins s σ H x vs v us Q I rx rv h
 obtain⟨l,xs,y,rfl,rfl,hH,hz,q⟩:=h
 cases rx
 obtain⟨u,rfl,ru⟩:=rv.one
 obtain⟨z,its,n,r,hl,e⟩:=I.lstM hH
 refine call_meets Ez ⟨_,e,rfl⟩ F.entry_list_append (F.args_list_append_2 _ _) (PySem.list_append l its.toArray n u (by rw[AW];omega)) ⟨e,?_⟩
 refine⟨.non,_,I.lset (its':=its++[u]) hH e (by simp) (r.append (.cons ru .nil)) ?_,rfl,q⟩
 rw[A7,DU]
 omega
def ygZ:R2:=λx y H Q=>∃l b xs zs,x=.ref l/\y=.ref b/\H l=AA (.lst xs)/\H b=AA (.lst zs)/\xs.length+zs.length<=sizeLine/\∀p,H p=AE->Q (.ref p) (upd H p (.lst (xs++zs)))
theorem zna:OpR X (binaryOp .Add) ygZ:=by
 intro pins s σ H x y v u Q I rx ry h
 obtain⟨l,b,xs,zs,rfl,rfl,hH,hB,hz,q⟩:=h
 cases rx
 cases ry
 obtain⟨z,its,n,r,hl,e⟩:=I.lstM hH
 obtain⟨z2,its2,n2,r2,hl2,e2⟩:=I.lstM hB
 refine PySem.P.add_list e e2 ?_ (by rw[AW,AW];omega)
 have ea:its.toArray++its2.toArray=(its++its2).toArray:=by simp
 rw[ea]
 exact⟨.ref _,_,I.lnew (t':=s.toks) (r.append r2) (by rw[A7];omega),rfl,q _ I.fresh⟩
end
section
variable {prog:A4}{w:Af}{A:Ar}{E:AH->AK->Prop}{s:AK}
end
section
variable {X:Cx}
end
end L2
namespace Att
open PySem PySem.W PySem.Calls PyProof.Rows
theorem zc6 {P:Params}{h:BB}:∀(ns:List Int) (vs:List AH),WellAll P h vs (ns.map HL)->Ej vs ns:=by
 intro ns
 induction ns with
 |nil =>
  intro vs w
  rw[A6]at w
  cases w
  exact .nil
 |cons n ns ih =>
  intro vs w
  rw[AM]at w
  cases w with
  |cons a b =>
   cases a
   exact .cons _ _ (ih _ b)
theorem zg9 {l:Ed}{n:Nat}(hn:l.most=AA n){P:Params}{h:BB}{args:List WData}{vals:List AH}
  (hpre:l.row.toRowW.claim.pre args=AC) (hwl:WellAll P h vals args) :
  ∃a vs ns,vals=[Ae a]/\args=[WData.list (ns.map HL)]/\h.get? a=AA { cls:=.type "list",data:=.seq vs.toArray }/\Ej vs ns/\ns.length<=n:=by
 have hsh:WShape.hasAll [] args [.list .int]=true:=(pre_splitW hpre).1
 have hc:l.pre.holds [] { args:=args }=true:=(pre_splitW hpre).2
 obtain⟨d,r,rfl,h1,h2⟩:=hasAllW_cons hsh
 obtain rfl:=hasAllW_nil h2
 obtain⟨xs,rfl,h3⟩:=hasW_list h1
 obtain⟨ns,rfl⟩:=items_int h3
 have hlen:ns.length<=n:=by
  unfold OpenLaw.pre at hc
  have h4:(WTm.not (.lt (.lit (.int (n:Int))) (.len (.arg 0)))).holds [] { args:=[.list (ns.map .int)] }=true:=by
   have h4:=(holds_andW hc).1
   rw[hn]at h4
   exact h4
  have h5:=condW_of h4 (w_not (w_lt w_lit (w_len_list (w_arg rfl))))
  rw[Ap]at h5
  refine Nat.le_of_not_lt λq=>?_
  have q':(n:Int)<((ns.length:Nat):Int):=by omega
  first
   | (rw[decide_eq_true q']at h5;exact absurd h5 (by decide))
   | (simp at h5;omega)
 cases hwl with
 |cons w1 w2 =>
  cases w2
  cases w1 with
  |list ho hall=>exact⟨_,_,ns,rfl,rfl,ho,zc6 ns _ hall,hlen⟩
theorem zgW (l:Ed)(args:List WData):l.row.toRowW.claim.post args (.bool AC) args=true :=
 postW_of (r:=l.row.toRowW) (X:=(AC == AC))
  (show HI [] (.bool AC) .bool=AC by first|rfl|decide|simp[HI,WShape.arms,WShape.armsAll])
  (show (WTm.eq .res (.lit (.bool AC))).value [] { args:=args,res:=AA (.bool AC),after:=args }=AA (.bool (AC == AC))from w_eq_bool (w_res rfl) w_lit) rfl
theorem attach_call {l:Ed}{n:Nat}{q:A4}{loose:List AR}{XP:(AR->Option AH)->BB->Prop}{YP:Af->BB->Prop}{d:DefRec}
  (hn:l.most=AA n) (hdf:d.params.defaults=[])
  (call:∀(w:Af) (s₀ s₁:AK) (mg mb:AR->Option AH) (fa:AJ) (o:CB) (pm cd doc:AH) (a:AJ) (vs:List AH) (ns:List Int),
   Ground q loose [] XP w s₀ mg mb s₁.heap->YP w s₁.heap ->
   s₁.heap.get? fa=AA o->o.data=.func (docDef d.name d.params d.body d.scope pm cd doc)->s₁.heap.CodeRec cd d.name->mg d.name=AA (.ref fa) ->
   s₁.heap.get? a=AA { cls:=.type "list",data:=.seq vs.toArray }->Ej vs ns->ns.length<=n->s₁.gens=#[] ->
   codeAny (model l.prog w) callerA (.call (.ref fa) ⟨[.ref a],[]⟩) (λr s'=>r=.ok (.ret (.bool AC))/\OldK s₁.heap s'.heap/\s'.os=s₁.os/\D0 s'.gens) s₁) :
  G0 q loose XP YP l.row.toRowW d [] (λf vs=>G7 f vs):=by
 intro w s₀ s₁ mg mb G Y fa o pm cd doc dV kV ho hd hcd hD hmg hg args vals as hpre hlay hrd hwl hlo
 obtain rfl:dV=.none:=Dflts.none hD hdf
 obtain rfl:kV=.none:=Dflts.noKw hD
 obtain⟨a,vs,ns,rfl,rfl,hobj,hints,hlen⟩:=zg9 hn hpre hwl
 refine enter_call (Dm (call w s₀ s₁ mg mb fa o pm cd doc a vs ns G Y ho (fd_plain hd) hcd hmg hobj hints hlen hg) λr s' hq=>?_)
 obtain⟨rfl,h2,h3,h4⟩:=hq
 exact⟨.inl ⟨.bool AC,.bool AC,[],rfl,λ_=>rfl,.bool AC,zgW l _,λ_=>⟨HK,λ_ hm=>(nomatch hm)⟩⟩,h2,h3,h4⟩
section
variable {prog:A4}{w:Af}{A:Ar}{E:AH->AK->Prop}{s:AK}{K:AG}
end
end Att
namespace L2
open PySem PySem.Spec PyProof.Rows
theorem zek:∀{vs:List AH} {ns:List Int},Ej vs ns->Vals (ns.map V.int) vs
 |_,_,.nil=>.nil
 |_,_,.cons n t h=>.cons ⟨t,rfl⟩ (zek h)
def Only (H:Hp):Prop:=∀b,H b=AE \/ ∃o xs,H b=AA (.frz o (.lst xs))
theorem zi7 {P:A4}{w:Af}{K:AG}{mg mb:AR->Option AH}{CX:CXT}{k:Nat}{fa a:AJ}{fd:BC}{x:AR}{sp:Sp}{s₁:AK}{vs:List AH}{ns:List Int}
  (KX:K.In s₁.heap) (hns:s₁.heap.Ns mainGlobals mg) (hb:s₁.heap.Ns builtinsNs mb) (hbb:∀x:AR,x ≠ "__name__"->mb x=bootBuiltins x) (hlim:s₁.heap.NoLimit) (hg:s₁.gens=#[])
  (ha:s₁.heap.get? a=AA { cls:=.type "list",data:=.seq vs.toArray }) (hi:Ej vs ns) (hl:ns.length<=sizeLine) (hr:yar k callerA)
  (F:∀base:BB,K.In base->base.Ns mainGlobals mg->yaJ P w K mg base CX k fa fd [x] sp) (hbind:∀(s:AK) (u:AH),FP s fd ⟨[u],[]⟩ [(x,u)])
  (hsp:∀H:Hp,Only H->SqL K H a (ns.map V.int)->sp [.ref a] H (λv _=>v=.bl AC) λ_ _ _=>False)
  (hCX:∀H e s',CX [] H s₁ (λ_ _ _=>False) e s'->False) :
  codeAny (model P w) callerA (.call (.ref fa) ⟨[.ref a],[]⟩) (λr s'=>r=.ok (.ret (.bool AC))/\OldK s₁.heap s'.heap/\s'.os=s₁.os/\D0 s'.gens) s₁:=by
 have rv:=zek hi
 have lenV:=hi.length
 have core:∀H:Hp,Only H->SqL K H a (ns.map V.int)->HOk P w H s₁.heap->(∀b,H b≠AE->b=a)->(H a≠AE->K.lookup a=AE) ->
   codeAny (model P w) callerA (.call (.ref fa) ⟨[.ref a],[]⟩) (λr s'=>r=.ok (.ret (.bool AC))/\OldK s₁.heap s'.heap/\s'.os=s₁.os/\D0 s'.gens) s₁:=by
  intro H hO hS hok hA hK
  have base_of:∀{b:AJ} {o:CB},s₁.heap.get? b=AA o->H b=AE->(yck s₁.heap H).get? b=AA o:=λe n=>zi2 e n
  have noA:∀{b:AJ} {o:CB} {es:Array CH} {ep:Nat},s₁.heap.get? b=AA o->o.data=.dict es ep->H b=none:=λ{b o es ep} e d=>by
   cases q:H b with
   |none=>rfl
   |some u =>
    have e':b=a:=hA b (by rw[q];simp)
    subst e'
    rw[ha]at e;cases e
    have d':Data.seq vs.toArray _=Data.dict es ep:=d
    cases d'
  have nsK:∀{b:AJ} {m:AR->Option AH},s₁.heap.Ns b m->(yck s₁.heap H).Ns b m:=λ{b m} ⟨o,es,ep,e,d,r⟩=>⟨o,es,ep,base_of e (noA e d),d,r⟩
  have hKb:K.In (yck s₁.heap H):=λb o e=>base_of (KX b o e) (by
   cases q:H b with
   |none=>rfl
   |some u =>
    have e':b=a:=hA b (by rw[q];simp)
    subst e'
    rw[hK (by rw[q];simp)]at e;cases e)
  have hM:Mod K mg (yck s₁.heap H):=⟨hKb,nsK hns,⟨mb,nsK hb,hbb⟩,let ⟨mc,h1,h2⟩:=hlim;⟨mc,nsK h1,h2⟩⟩
  have e0:yc2 P w K mg (yck s₁.heap H) callerA [] s₁ H:=⟨rfl,hM,λb o e=>zlW e,Gm (zgH _ _),trivial,λb hb=>absurd (show b∈([]:List AJ)from hb) (by simp),hok,.of_eq hg⟩
  refine Dm ((F _ hKb (nsK hns)).run callerA [] s₁ H ⟨[.ref a],[]⟩ [.ref a] [.ref a] _ _ hr e0 (hbind s₁ (.ref a)) (.cons rfl .nil) (hsp H hO hS)) λr s' h=>?_
  cases r with
  |error e=>exact(hCX H e s' h).elim
  |ok fl =>
   cases fl with
   |next=>exact Bf h
   |brk=>exact Bf h
   |cont=>exact Bf h
   |ret u =>
    obtain⟨v,H',os,bare,un,hok',r',q⟩:=h
    have q':v=.bl true:=q
    subst q'
    obtain rfl:u=Ds true:=r'
    refine⟨rfl,OldK.of_keep λb o e=>?_,os,bare⟩
    cases q:H b with
    |none=>exact un.keep b o e q (by intro z;exact absurd (show b∈([]:List AJ)from z) (by simp)) (by simp)
    |some u =>
     rcases hO b with z|⟨ob,xs,z⟩
     .rw[q]at z;cases z
     .have z2:=un.frzs b ob _ z
      obtain⟨e1,_⟩:=hok b _ z
      obtain⟨e2,_⟩:=hok' b _ z2
      rw[e]at e1;cases e1
      exact e2
 cases hk:K.lookup a with
 |some o =>
  have e:=KX a o hk
  rw[ha]at e
  cases e
  refine core (λ_=>AE) (λ_=>.inl rfl) (.inr ⟨_,vs.toArray,_,hk,rfl,rfl,rfl,by rw[AW,lenV];exact hl,by simpa using rv⟩) (λb u z=>by have z':(AE:Option HO)=AA u:=z;cases z') (λb z=>absurd rfl z) λz=>absurd rfl z
 |none =>
  refine core (λb=>if b=a then AA (.frz { cls:=.type "list",data:=.seq vs.toArray } (.lst (ns.map V.int)))else AE) (λb=>?_) (.inl (.inr ⟨{ cls:=.type "list",data:=.seq vs.toArray },if_pos rfl⟩)) (λb u z=>?_) (λb z=>?_) λ_=>hk
  .by_cases hb:b=a
   .exact .inr ⟨_,_,if_pos hb⟩
   .exact .inl (if_neg hb)
  .by_cases hb:b=a
   .have z':=(if_pos hb).symm.trans z
    cases z'
    subst hb
    exact⟨ha,by rw[Ap];exact hl,vs,_,rv,ha⟩
   .have z':=(if_neg hb).symm.trans z
    cases z'
  .by_cases hb:b=a
   .exact hb
   .exact absurd (if_neg hb) z
theorem walk_of {l:Ed}{n k:Nat}{q:A4}{loose:List AR}{XP:(AR->Option AH)->BB->Prop}{YP:Af->BB->Prop}{d:DefRec}{K:Params->AG}{CX:Af->CXT}{sp:Af->Sp}{x:AR}
  (hn:l.most=AA n) (hn2:n<=sizeLine) (hdf:d.params.defaults=[]) (hr:yar k callerA)
  (hY:∀(w:Af) (h:BB),YP w h->(K w.params).In h)
  (F:∀(w:Af) (mg:AR->Option AH) (fa:AJ) (h:BB),(K w.params).In h->h.Ns mainGlobals mg->mg d.name=AA (.ref fa) ->
   ∃fd:BC,(∀(s:AK) (u:AH),FP s fd ⟨[u],[]⟩ [(x,u)]) /\
    ∀base:BB,(K w.params).In base->base.Ns mainGlobals mg->yaJ l.prog w (K w.params) mg base (CX w) k fa fd [x] (sp w))
  (hsp:∀(w:Af) (H:Hp) (a:AJ) (ns:List Int),ns.length<=n->Only H->SqL (K w.params) H a (ns.map V.int)->sp w [.ref a] H (λv _=>v=.bl AC) λ_ _ _=>False)
  (hCX:∀(w:Af) (H:Hp) (s:AK) (e:AH) (s':AK),CX w [] H s (λ_ _ _=>False) e s'->False) :
  G0 q loose XP YP l.row.toRowW d [] (λf vs=>G7 f vs):=by
 refine Att.attach_call hn hdf λw s₀ s₁ mg mb fa o pm cd doc a vs ns G Y ho hd hcd hmg hobj hints hlen hg=>?_
 have KX:=hY w _ Y
 obtain⟨fd,hb,hF⟩:=F w mg fa _ KX G.T.g hmg
 exact zi7 KX G.T.g G.T.b G.T.builtins G.T.nolimit hg hobj hints (BZ hlen hn2) hr hF hb (λH hO hS=>hsp w H a ns hlen hO hS) λH e s'=>hCX w H s₁ e s'
def inClass (s:Bv)(j:Nat):Stmt:=match s with
 | .ClassDef _ _ _ body _ _ _ _ _ _ _=>body.getD j (.Pass ⟨0,0,0,0⟩)
 |_=>.Pass ⟨0,0,0,0⟩
def yad (s:Bv):Arguments:=match s with
 | .FunctionDef _ a _ _ _ _ _ _ _ _=>a
 |_=>{ posonlyargs:=[],args:=[],vararg:=AE,kwonlyargs:=[],kw_defaults:=[],kwarg:=AE,defaults:=[] }
def yac (s:Bv):List Stmt:=match s with
 | .FunctionDef _ _ b _ _ _ _ _ _ _=>b
 |_=>[]
def yG (s:Bv):Scope:=match s with
 | .FunctionDef _ _ _ _ _ _ sc _ _ _=>sc
 |_=>{ kind:=.function,names:=[],isGenerator:=AD,isCoroutine:=AD }
structure Fun (K:AG)(x qual:AR)(st:Bv)(f:AJ)(fd:BC):Prop where
 ex:∃(oc:AH) (od:Option AJ) (kV doc pm:AH) (an:Option AJ) (cdv ct:AH) (osl:Array (Option AH)),
  fd=B7 x qual (yad st) (yac st) (yG st) .none kV doc pm an cdv ct/\K.lookup f=AA ⟨oc,od,.func fd,osl⟩/\CL K cdv qual=AC
 kp:As K (.ref f)=AC
section
variable {P:A4}{w:Af}{K:AG}{mg:AR->Option AH}{base:BB}
theorem Fun.binds {x qual:AR}{st:Bv}{f:AJ}{fd:BC}{ps:List AR}(F:Fun K x qual st f fd)
  (h:∀(kV doc pm:AH) (an:Option AJ) (cdv ct:AH) (us:List AH),us.length=ps.length->bindArgs (B7 x qual (yad st) (yac st) (yG st) .none kV doc pm an cdv ct) ⟨us,[]⟩=pure (ps.zip us)):Binds K fd ps []:=by
 obtain⟨oc,od,kV,doc,pm,an,cdv,ct,osl,rfl,lk,hcd⟩:=F.ex
 exact .all (h kV doc pm an cdv ct)
end
theorem zlh {A:Ar}{k:Nat}(hr:yar k A):A.units+1<cLine:=Nat.lt_of_le_of_lt (Nat.add_le_add_left (by decide:1<=64) _) hr.units
section
variable {X:Cx}
end
end L2
namespace WE
open PySem PySem.Spec PyProof.Rows
open AutoSeq1 (wpAny_loadPart')
section
variable {pg:A4}{wd:Af}{A:Ar}{Er:AH->AK->Prop}{s:AK}
theorem zb0 {it t:AJ}{i:Nat}{xs:Array AH}{x:AH}{Q:AH->AK->Prop}(hi:s.heap.IsTupleIter it t i)(ht:s.heap.IsTuple t xs)(hx:xs[i]?=AA x)
  (k:∀h',h'.IsTupleIter it t (i+1)->C3 it s.heap h'->Q x { s with heap:=h' }):AZ (model pg wd) A (BV (.ref it)) Q Er s:=by
 obtain⟨oi,gi,ci,di⟩:=id hi
 obtain⟨ot,gt,_,nt,dt⟩:=ht
 unfold BV
 refine AI (B1 (name:=AF "__next__") hi.typeIs CN (CG CN hi.typeIs Do ?_ (Db _)))
 show AZ _ _ (field (.ref it) 0 >>= _) _ _ _
 refine AI (BN gi di (x:=.ref t) rfl ?_);show AZ _ _ (if (Ae t == CK)=AC then _ else _) _ _ _
 rw[if_neg (show ¬((Ae t == CK)=AC)from λz=>Az z)];show AZ _ _ (field (.ref it) 1 >>= _) _ _ _
 refine AI (BN gi di (x:=.int i 0) rfl ?_);show AZ _ _ (seqItems? (.ref t) >>= _) _ _ _
 refine AI (CZ gt dt ?_)
 simp only[Bw,hx]
 refine AI (FF gi di (by simp) (AQ ⟨x,rfl,AQ (k _ ?_ (FT ..))⟩))
 refine⟨_,Ey _ gi (Obj.isFreed_of_fields (F9 di _)),(Obj.cls_mapFields ..).trans ci,?_⟩
 rw[F9 di];simp[rawInt]
theorem zeL {it t:AJ}{i:Nat}{xs:Array AH}{Q:AH->AK->Prop}(hh:A.handled=AE)(hi:s.heap.IsTupleIter it t i)(ht:s.heap.IsTuple t xs)(hx:xs[i]?=AE)
  (k:∀h' e,Heap.ExtBut it s.heap h'->(∃o,h'.get? e=AA o/\o.cls=.type "StopIteration")->Er (.ref e) { s with heap:=h' }):AZ (model pg wd) A (BV (.ref it)) Q Er s:=by
 obtain⟨oi,gi,ci,di⟩:=id hi
 obtain⟨ot,gt,_,nt,dt⟩:=ht
 unfold BV
 refine AI (B1 (name:=AF "__next__") hi.typeIs CN (CG CN hi.typeIs Do ?_ (Db _)))
 show AZ _ _ (field (.ref it) 0 >>= _) _ _ _
 refine AI (BN gi di (x:=.ref t) rfl ?_);show AZ _ _ (if (Ae t == CK)=AC then _ else _) _ _ _
 rw[if_neg (show ¬((Ae t == CK)=AC)from λz=>Az z)];show AZ _ _ (field (.ref it) 1 >>= _) _ _ _
 refine AI (BN gi di (x:=.int i 0) rfl ?_);show AZ _ _ (seqItems? (.ref t) >>= _) _ _ _
 refine AI (CZ gt dt ?_)
 simp only[Bw,hx]
 refine AI (Ee (AI (FF gi di (by simp) ?_)));show AZ _ _ (newExc (.type "StopIteration") [] >>= _) _ _ _
 refine AI ?_;simp only[newExc,newTuple]
 refine AI (BM ?_ (by size_fits));refine AI (m:=firstArgMember _ _) (wpAny_of_eq (a:=CK) (by first|rfl|(simp only[firstArgMember];rfl)) ?_)
 refine BM ?_ (by size_fits);simp only[raiseNew]
 refine AI (wpAny_handled ?_);first|rw[show A.in1.handled=AE from hh]|rw[hh]
 refine AI (AQ (wpAny_throw ?_))
 exact k _ _ (((FT ..).extBut.push _).push _) ⟨_,A2 _ rfl,rfl⟩
end
theorem draws_tuple {pg:A4}{wd:Af}{A:Ar}(hh:A.handled=AE)(it t:AJ)(hne:t≠it)(xs:Array AH) :
  Draws pg wd A it [it,t] xs.size (λi v=>xs[i]?=AA v) (λi h=>h.IsTupleIter it t i/\h.IsTuple t xs) where
 live:=λ_ _ st=>let ⟨o,g,_⟩:=st.1;⟨o,g⟩
 frame:=λ_ _ _ st kp=>⟨let ⟨o,g,r⟩:=st.1;⟨o,kp it (by simp) o g,r⟩,let ⟨o,g,r⟩:=st.2;⟨o,kp t (by simp) o g,r⟩⟩
 item:=λi s Q E hi st hQ=>zb0 st.1 st.2 (x:=xs[i]) (by simp[hi]) λh' hit' hs'=>hQ _ h' s.toks (by simp[hi]) ⟨hit',st.2.extBut hs'.extBut hne⟩ hs'
 done:=λs Q E st hE=>zeL hh st.1 st.2 (by simp) hE
theorem zfi (l:AJ)(xs:Array AH)(n:Nat)(dc:Option AJ)(sl:Array (Option AH)) :
  Meets (Gn.«enumerate.__new__» ⟨[.type "enumerate",.ref l],[]⟩) (λ_ R s=>s.heap.get? l=AA { cls:=.type "tuple",dict:=dc,data:=.seq xs n,slots:=sl } /\
   R (.ok (.ret (.ref (s.heap.push { cls:=.type "tuple_iterator",data:=.fields #[.ref l,.int 0 0] }).objs.size)))
    { s with heap:=(s.heap.push { cls:=.type "tuple_iterator",data:=.fields #[.ref l,.int 0 0] }).push { cls:=.type "enumerate",data:=.fields #[.none,.bool AD,.ref s.heap.objs.size,rawInt 0,.none,.none] } }) :=
 .of_wp λprog w A R s h=>by
  obtain⟨hp,g,d,tk,os⟩:=s;obtain⟨gl,h⟩:=h
  have hsub:=sub_enumerate
  have hT:Fm (GT ⟨hp,g,d,tk,os⟩) l xs:=⟨_,gl,rfl,n,rfl⟩
  wp_walk using wpAny_loadPart' gl
  refine wpAny_stack_any λst=>AQ ?_
  split
  .rename_i c _ _ _ _ _
   cases (c == F6 "enumerate")
   .wp_walk using wpAny_loadPart' gl,CO hT
    exact⟨_,rfl,h⟩
   .wp_walk using wpAny_loadPart' gl,CO hT
    exact⟨_,rfl,h⟩
  .wp_walk using wpAny_loadPart' gl,CO hT
   exact⟨_,rfl,h⟩
theorem call_enumT {pg:A4}{wd:Af}{A:Ar}{Er:AH->AK->Prop}{s:AK}{l:AJ}{xs:Array AH}{Q:AH->AK->Prop}(hT:s.heap.IsTuple l xs)
  (k:∀h',IsEnum h' (s.heap.objs.size+1) s.heap.objs.size 0 .none->h'.IsTupleIter s.heap.objs.size l 0->h'.objs.size=s.heap.objs.size+2 ->
   (∀b o,s.heap.get? b=AA o->h'.get? b=AA o)->Q (.ref (s.heap.objs.size+1)) { s with heap:=h' }):AZ (model pg wd) A (call (.type "enumerate") [.ref l]) Q Er s:=by
 obtain⟨⟨c,dct,dt,sl⟩,gl,hc,n,hd⟩:=hT
 cases (show c=.type "tuple" from hc)
 cases (show dt=.seq xs n from hd)
 refine callType_new F.called_enumerate (by decide) (F.typeCall_enumerate_1 _) (F.newCall_enumerate_1 _) (λobj=>F.args_object_init_2 obj _) F.entry_enumerate_new (zfi l xs n dct sl) ⟨gl,?_⟩
 have hz:(s.heap.push { cls:=.type "tuple_iterator",data:=.fields #[.ref l,.int 0 0] }).objs.size=s.heap.objs.size+1:=Bt ..
 show _/\_
 rw[hz]
 have he:IsEnum ((s.heap.push { cls:=.type "tuple_iterator",data:=.fields #[.ref l,.int 0 0] }).push { cls:=.type "enumerate",data:=.fields #[.none,.bool AD,.ref s.heap.objs.size,rawInt 0,.none,.none] }) (s.heap.objs.size+1) s.heap.objs.size 0 .none:=by
  have q:=A2 (s.heap.push { cls:=.type "tuple_iterator",data:=.fields #[.ref l,.int 0 0] }) (o:={ cls:=.type "enumerate",data:=.fields #[.none,.bool AD,.ref s.heap.objs.size,rawInt 0,.none,.none] }) rfl
  rw[hz]at q;exact q
 exact⟨⟨_,he,rfl⟩,k _ he ⟨_,AN _ (A2 _ rfl),rfl,rfl⟩ (by rw[Bt,hz]) λb o y=>AN _ (AN _ y)⟩
end WE
namespace L2
open PySem PySem.Spec PyProof.Rows
section
variable {X:Cx}
def ydG (i j:Int):Prop:=0<j/\j<10000000000000000000000000000000000000000000000000000000000000000000000
theorem zjt:OpR X (binaryOp .FloorDiv) (rI ydG λi j=>.int (i / j)):=opI λi j _ _ _ _ _ hc q=>by
 obtain⟨h1,h2⟩:=hc
 refine floordiv_int (by omega) (by rw[Dx i (by omega)];exact q) (.inl (PyProof.noPylong_of_log2 ?_))
 have h0:j.natAbs≠0:=by omega
 refine A3 ((Nat.log2_lt h0).mpr (?_:j.natAbs<2^250)) (by decide)
 have e:(10000000000000000000000000000000000000000000000000000000000000000000000:Nat)<2^250:=by decide
 omega
end
section
variable {X:Cx}{pins:List (AJ×CB)}{σ:St}{H:Hp}{s:AK}{h':BB}
theorem Inv.turnLaid {t':Nat}{ch:List AJ}{T:AJ}{o:HO}(I:Inv X pins σ H s)(hf:∀b∈ch,ybw X pins H b)(k:∀b u,b∉ch->s.heap.get? b=AA u->h'.get? b=AA u)
  (hp:s.heap.objs.size<=T) (new:yZ X.prog X.w (upd H T o) h' T o):Inv X pins σ (upd H T o) { s with heap:=h',toks:=t' }:=by
 have hn:H T=none:=I.hok.fresh hp
 have nch:∀b u,H b=AA u->b∉ch:=λb u e z=>by
  have q:=(hf b z).1
  rw[e]at q
  cases q
 refine I.step (g':=s.gens) (d':=s.drawn) (ch:=ch) (λb hb=>?_) (λb u _ _ hc e _=>k b u hc e) (λb u _ _ hc e _=>⟨u.slots,k b u hc e⟩) (λb u _ e n=>?_) (λb u hc e=>⟨u,k b u hc e⟩) (λb xs e=>?_) (λb u v e=>?_) (λb ps e=>⟨#[],?_⟩) (λm hm=>?_) (λb u e=>?_) I.bare
 .obtain⟨f0,f1,f2,f3,f4,f5⟩:=hf b hb
  exact⟨f3,f1,f4,f5⟩
 .rw[zj (An (A3 (AY e) hp))]
  exact n
 .rw[zj (zl e hn)]
  exact e
 .rw[zj (zl e hn)]
  exact e
 .rw[zj (zl e hn),e]
  simp
 .obtain⟨ob,es,ep,ho,r⟩:=hm
  exact⟨ob,es,ep,k _ ob (λz=>(hf _ z).2.1 rfl) ho,r⟩
 .by_cases hb:b=T
  .subst hb
   rw[zp]at e
   cases e
   exact new
  .rw[zj hb]at e
   refine(I.hok b u e).stay (λc v hc q=>k c v ?_ q) (λc q=>by rw[zj (zl q hn)];exact q) λc xs q=>by rw[zj (zl q hn)];exact q
   rcases hc with z|z
   .rw[z]
    exact nch b u e
   .exact nch c _ z
theorem Inv.turnedL {t':Nat}{ch:List AJ}(I:Inv X pins σ H s)(hf:∀b∈ch,ybw X pins H b)(k:∀b u,b∉ch->s.heap.get? b=AA u->h'.get? b=AA u):Inv X pins σ H { s with heap:=h',toks:=t' }:=by
 have nch:∀b u,H b=AA u->b∉ch:=λb u e z=>by
  have q:=(hf b z).1
  rw[e]at q
  cases q
 refine I.step (g':=s.gens) (d':=s.drawn) (ch:=ch) (λb hb=>?_) (λb u _ _ hc e _=>k b u hc e) (λb u _ _ hc e _=>⟨u.slots,k b u hc e⟩) (λ_ _ _ _ n=>n) (λb u hc e=>⟨u,k b u hc e⟩) (λ_ _ e=>e) (λ_ _ _ e=>e) (λb ps e=>⟨#[],by rw[e];simp⟩) (λm hm=>?_) (λb u e=>?_) I.bare
 .obtain⟨f0,f1,f2,f3,f4,f5⟩:=hf b hb
  exact⟨f3,f1,f4,f5⟩
 .obtain⟨ob,es,ep,ho,r⟩:=hm
  exact⟨ob,es,ep,k _ ob (λz=>(hf _ z).2.1 rfl) ho,r⟩
 .refine(I.hok b u e).stay (λc v hc q=>k c v ?_ q) (λ_ q=>q) λ_ _ q=>q
  rcases hc with z|z
  .rw[z]
   exact nch b u e
  .exact nch c _ z
end
def Ite (K:AG)(a:AJ):It :=
 ⟨λi H=>∃xs x,SqT K H a xs/\xs[i]?=AA x,λi H x H'=>∃T,H T=AE/\x=.ref T/\∀xs y,SqT K H a xs->xs[i]?=AA y->H'=upd H T (.tup [.int i,y]),λi H=>∃xs,SqT K H a xs/\xs.length=i⟩
theorem zdB {h:BB}{a b:AJ}{o u:CB}(x:h.get? a=AA o)(y:h.get? b=AA u)(z:o.cls≠u.cls):a≠b:=λe=>by
 subst e
 rw[x]at y
 cases y
 exact z rfl
theorem zgp {P:A4}{w:Af}{K:AG}{es:List AV}{kk:Nat}{pos:CT}(a e it:AJ) :
  Turn P w K (.Tuple es kk pos) (Ite K a) [e,it] e (λi h=>(∃old,IsEnum h e it i old)/\h.IsTupleIter it a i) where
 mem:=by simp
 obj:=λi h st b hb=>by
  obtain⟨⟨old,he⟩,oi,gi,ci,di⟩:=st
  rcases AU.mp hb with z|z
  .subst z
   exact⟨_,he,λv y=>nomatch y⟩
  .have z:b=it:=by simpa using z
   subst z
   exact⟨oi,gi,λv y=>by rw[di]at y;cases y⟩
 keep:=λi h h' st k=>by
  obtain⟨⟨old,he⟩,oi,gi,r⟩:=st
  exact⟨⟨old,k e (by simp) _ he⟩,oi,k it (by simp) _ gi,r⟩
 item:=by
  intro X hP hw hK hc i pins s σ H E I hf st hg
  subst hP hw hK
  obtain⟨xs,x,hq,hx⟩:=hg
  obtain⟨its,rv,p,hz⟩:=I.tuple hq
  obtain⟨⟨old,he⟩,hi⟩:=st
  obtain⟨oi,gi,ci,di⟩:=id hi
  obtain⟨oa,ga,ca,na,da⟩:=id p
  have nai:a≠it:=zdB ga gi (by rw[ca,ci];exact λz=>absurd (Ch z) (by decide))
  have nei:e≠it:=zdB he gi (by rw[ci];exact λz=>absurd (Ch z) (by decide))
  have nea:e≠a:=zdB he ga (by rw[ca];exact λz=>absurd (Ch z) (by decide))
  have hl:=rv.length
  have hil:i<its.toArray.size:=by
   have:=(BK.mp hx).1
   simpa using (by omega:i<its.length)
  have W:=Fp (prog:=X.prog) (w:=X.w) (A:=X.A) (WE.draws_tuple (pg:=X.prog) (wd:=X.w) (A:=X.A.in1) (I.ok.hd hc) it a nai its.toArray) e nei (by simp[nei,nea]) (by simp)
  refine W.item i s _ E hil ⟨⟨old,he⟩,hi,p⟩ λT vals h1 tk hP hsz hT mid kp=>⟨.ref T,rfl,?_⟩
  refine W.go es kk pos i T _ _ E mid λh2 st2 kp2=>?_
  obtain⟨t,y,hy,rfl⟩:=hP
  obtain⟨u,hu,ru⟩:=rv.get hx
  have ey:y=u:=AX (hy.symm.trans (by simpa using hu))
  subst ey
  have hch:∀b o,b∉[e,it]->s.heap.get? b=AA o->h2.get? b=AA o:=λb o hb q=>kp2 b o hb (kp b o hb q)
  have hTw:=W.apart i T h1 mid
  have new:yZ X.prog X.w (upd H T (.tup [.int i,x])) h2 T (.tup [.int i,x]):=by
   obtain⟨o,g,r⟩:=hT
   exact⟨by show 2<=sizeLine;decide,[.int i t,y],.cons ⟨t,rfl⟩ (.cons ru .nil),o,kp2 T o hTw g,r⟩
  have I2:=I.turnLaid (t':=tk) hf hch hsz new
  refine⟨.ref T,_,I2,rfl,⟨T,I.hok.fresh hsz,rfl,λys z hy' hz'=>?_⟩,⟨st2.1,st2.2.1⟩,λb hb=>?_⟩
  .rw[I.tuple_inj hy' hq]at hz'
   rw[hx]at hz'
   cases hz'
   rfl
  .rw[zj (λz:b=T=>hTw (z ▸ hb))]
   exact(hf b hb).1
 done:=by
  intro X hP hw hK hc i pins s σ H E I hf st hg
  subst hP hw hK
  obtain⟨xs,hq,hx⟩:=hg
  obtain⟨its,rv,p,hz⟩:=I.tuple hq
  obtain⟨⟨old,he⟩,hi⟩:=st
  obtain⟨oi,gi,ci,di⟩:=id hi
  obtain⟨oa,ga,ca,na,da⟩:=id p
  have nai:a≠it:=zdB ga gi (by rw[ca,ci];exact λz=>absurd (Ch z) (by decide))
  have nei:e≠it:=zdB he gi (by rw[ci];exact λz=>absurd (Ch z) (by decide))
  have nea:e≠a:=zdB he ga (by rw[ca];exact λz=>absurd (Ch z) (by decide))
  have hl:=rv.length
  have W:=Fp (prog:=X.prog) (w:=X.w) (A:=X.A) (WE.draws_tuple (pg:=X.prog) (wd:=X.w) (A:=X.A.in1) (I.ok.hd hc) it a nai its.toArray) e nei (by simp[nei,nea]) (by simp)
  have en:its.toArray.size=i:=by simp;omega
  refine W.done s _ E (by rw[en];exact⟨⟨old,he⟩,hi,p⟩) λh2 tk kp=>⟨rfl,I.turnedL (t':=tk) hf kp⟩
 self:=λ_ _ _ _ _ st q=>by
  obtain⟨⟨old,he⟩,_⟩:=st
  exact Fq he q
def ygb (K:AG)(ta:TA):TI:=λσ H R=>ta σ H λvs H1=>∃a,vs=[.ref a]/\(∃xs,SqT K H1 a xs)/\R (Ite K a) H1
theorem zi3 {X:Cx}{a:AV}{es:List AV}{kk:Nat}{tp:CT}{ta:TA}{p pos:CT}(hg:Gl X "enumerate")(hm:X.mg "enumerate"=AE)(ha:PA X [a] ta)(hs:starEach [a] X.env=[(AD,eval a X.env)]:=by rfl) :
  PI X (.Tuple es kk tp) (.Call (.Name "enumerate" p) [a] [] pos) (ygb X.K ta):=by
 intro pins s σ H R I h
 refine B4 (zdy I hg hm boot_enumerate ?_)
 refine CD (thn (ha pos pins s σ H _ I h) λus s1 ⟨vs,H1,I1,r1,q1⟩=>?_) hs rfl
 obtain⟨l,rfl,⟨xs,hq⟩,q⟩:=q1
 obtain⟨u,rfl,ru⟩:=Vals.one r1
 cases (show u=Ae l from ru)
 obtain⟨its,rv,pt,hz⟩:=I1.tuple hq
 refine WE.call_enumT (show s1.heap.IsTuple l its.toArray from pt) λh1 he hi hsz kp=>?_
 refine Fq he ?_
 refine⟨_,[s1.heap.objs.size+1,s1.heap.objs.size],_,_,H1,rfl,I1.kept (t':=s1.toks) kp,zgp l _ s1.heap.objs.size,⟨⟨_,he⟩,hi⟩,λb hb=>?_,q⟩
 have hb2:s1.heap.objs.size<=b:=by
  rcases AU.mp hb with z|z
  .subst z
   exact Cf _
  .have z:b=s1.heap.objs.size:=by simpa using z
   subst z
   exact AT _
 exact I1.fpOk hb2 (I1.hok.fresh hb2)
abbrev No:AH->AK->Prop:=λ_ _=>False
abbrev ydH (ifs:List AV)(env:Env):Gc Bool:=forIn ifs AC λc r=>if r=AC then do let ok <- isTrue c env (eval c env);pure (GW ok)else pure (GW r)
section
variable {pg:A4}{wd:Af}{A:Ar}{R:G3->AK->Prop}{s:AK}
theorem zhj {elt tg iter:AV}{ifs:List AV}{sc:Bi}{pos:CT}{it acc:AH}{env:Env}(I:Nat->AK->Prop)
  (turn:∀n s,I n s->AZ (model pg wd) A (pyNext it) (λr s1=>match r with
   |none=>R (.ok .next) s1
   |some v=>AZ (model pg wd) A (letOwnedTupleGo tg it v) (λ_ s2=>AZ (model pg wd) A (assign tg env v) (λ_ s3=>AZ (model pg wd) A (ydH ifs env) (λok s4 =>
     if ok=AC then AZ (model pg wd) A (eval elt env) (λx s5=>AZ (model pg wd) A (call (.builtin "list.append") [acc,x]) (λ_ s6=>∃m,m<n/\I m s6) No s5) No s4
     else ∃m,m<n/\I m s4) No s3) No s2) No s1) No s)
  (n:Nat) (h:I n s):codeAny (model pg wd) A (.compLoop (.ListComp elt [⟨tg,iter,ifs,0⟩] sc pos) 0 it acc env) R s:=by
 refine codeAny_loop rfl I (λn s hI=>?_) n h
 show AZ _ A ((compTurn (.ListComp elt [⟨tg,iter,ifs,0⟩] sc pos) 0 it acc env).onRaise (λx=>do noteFrame x env;theTreesLotGoes x)) _ _ s
 refine wpAny_noted ?_
 rw[compTurn_list]
 refine AI (EY (AI (CU (turn n s hI) (λr s1 h1=>?_) λ_ _ f=>f.elim)))
 cases r with
 |none=>exact AQ h1
 |some v =>
  refine AI (CU h1 (λ_ s2 h2=>AI (CU h2 (λ_ s3 h3=>AI (CU h3 (λok s4 h4=>?_) λ_ _ f=>f.elim)) λ_ _ f=>f.elim)) λ_ _ f=>f.elim)
  cases ok with
  |false=>exact AQ ⟨rfl,h4⟩
  |true=>exact AI (AI (CU h4 (λx s5 h5=>AI (CU h5 (λ_ s6 h6=>AQ (AQ ⟨rfl,h6⟩)) λ_ _ f=>f.elim)) λ_ _ f=>f.elim))
end
def yaj (env:Env)(r:List (AR×AJ))(x:AR×DG):List (AR×AJ):=if x.2=.free then(x.1,(env.cells.lookup x.1).getD 0)::r else r
def ydu (sc:Bi)(env:Env):List (AR×AJ):=sc.names.foldl (yaj env) []
theorem zgw {α β:Type}{l:List α}{f:α->β->Gc (ForInStep β)}{g:β->α->β}(h:∀x∈l,∀c,f x c=pure (.yield (g c x))):∀c:β,forIn l c f=pure (l.foldl g c):=by
 induction l with
 |nil=>exact λ_=>rfl
 |cons x l ih =>
  intro c
  rw[Eu,h x Ai,pure_bind,Dd]
  exact ih (λy hy=>h y (AS _ hy)) (g c x)
theorem zcL {sc:Bi}{env:Env}(hf:∀y∈sc.names,y.2=.free->∃c,env.cells.lookup y.1=AA c):closureFor sc env=pure (ydu sc env):=by
 simp only[closureFor]
 rw[zgw (g:=yaj env) (λx hx c=>?_)]
 .rfl
 .obtain⟨n,k⟩:=x
  by_cases hk:k=.free
  .subst hk
   obtain⟨a,ha⟩:=hf _ hx rfl
   have ha':env.cells.lookup n=AA a:=ha
   simp[yaj,cellOf,ha']
  .have hb:(k == C9)=false:=by simpa using hk
   simp[yaj,hk,hb]
theorem zdl {env:Env}:∀(l:List (AR×DG)) (r:List (AR×AJ)),(∀y∈l,y.2=.free->∃c,env.cells.lookup y.1=AA c)->(∀x c,r.lookup x=AA c->env.cells.lookup x=AA c) ->
  ∀x c,(l.foldl (yaj env) r).lookup x=AA c->env.cells.lookup x=AA c
 | [],r,_,h=>h
 |y::l,r,hf,h=>by
  refine zdl l (yaj env r y) (λz hz=>hf z (AS _ hz)) λx c e=>?_
  unfold yaj at e
  by_cases hk:y.2=.free
  .obtain⟨a,ha⟩:=hf y Ai hk
   rw[if_pos hk,Bg]at e
   cases hx:x == y.1 with
   |true =>
    rw[hx,ha]at e
    rw[eq_of_beq hx,ha]
    exact e
   |false =>
    rw[hx]at e
    exact h x c e
  .rw[if_neg hk]at e
   exact h x c e
theorem zc5 {env:Env}{x:AR}:∀(l:List (AR×DG)) (r:List (AR×AJ)),(∃c,r.lookup x=AA c)->∃c,(l.foldl (yaj env) r).lookup x=AA c
 | [],r,h=>h
 |y::l,r,h=>by
  refine zc5 l (yaj env r y) ?_
  unfold yaj
  by_cases hk:y.2=.free
  .rw[if_pos hk,Bg]
   cases hx:x == y.1 with
   |true=>exact⟨_,rfl⟩
   |false=>exact h
  .rw[if_neg hk]
   exact h
theorem zb8 {env:Env}:∀(l:List (AR×DG)) (r:List (AR×AJ)),∀y∈l,y.2=.free->∃c,(l.foldl (yaj env) r).lookup y.1=AA c
 | [],_,y,hy,_=>nomatch hy
 |z::l,r,y,hy,hk=>by
  rcases AU.mp hy with e|e
  .subst e
   refine zc5 l (yaj env r y) ?_
   unfold yaj
   rw[if_pos hk,Bg,beq_self_eq_true]
   exact⟨_,rfl⟩
  .exact zb8 l (yaj env r z) y e hk
theorem mem_of_lookup {β:Type}{x:AR}{k:β}:∀{l:List (AR×β)},l.lookup x=AA k->(x,k)∈l
 | [],h=>nomatch h
 |y::l,h=>by
  rw[Bg]at h
  cases hx:x == y.1 with
  |true =>
   rw[hx]at h
   cases h
   rw[eq_of_beq hx]
   exact Ai
  |false =>
   rw[hx]at h
   exact AS _ (mem_of_lookup h)
def yc9 (env:Env)(x:AR)(k:DG):NameKind:=if (k == .free && env.scope.kind == .function && env.kindOf x == AA .cell)=AC then .cell else k
theorem zdp {sc:Bi}{env:Env}(x:AR):(relabel sc env).names.lookup x=(sc.names.lookup x).map (yc9 env x):=by
 unfold relabel
 show (sc.names.map λ(n,k)=>if (k == C9 && env.scope.kind == .function && env.kindOf n == AA .cell)then(n,FZ)else(n,k)).lookup x=_
 induction sc.names with
 |nil=>rfl
 |cons y l ih =>
  obtain⟨n,k⟩:=y
  rw[AM]
  show Bs x ((if (k == C9 && env.scope.kind == .function && env.kindOf n == AA .cell)=AC then(n,FZ)else(n,k))::_)=_
  cases hx:x == n with
  |true =>
   have e:=eq_of_beq hx
   subst e
   by_cases hc:(k == C9 && env.scope.kind == .function && env.kindOf x == AA .cell)=AC
   .rw[if_pos hc,Bg,beq_self_eq_true]
    simp[yc9,hc]
   .rw[if_neg hc,Bg,beq_self_eq_true]
    simp[yc9,hc]
  |false =>
   by_cases hc:(k == C9 && env.scope.kind == .function && env.kindOf n == AA .cell)=AC
   .rw[if_pos hc]
    simp only[Bg,hx]
    exact ih
   .rw[if_neg hc]
    simp only[Bg,hx]
    exact ih
structure CI where
 C:AJ
 s:AK
 H:Hp
 fp:List AJ
def cxC (X:Cx)(sc:Bi)(NC:List AR)(j:CI):Cx where
 prog:=X.prog
 w:=X.w
 K:=X.K
 mg:=X.mg
 base:=X.base
 A:=X.A
 N:=NC
 s₀:=j.s
 H₀:=j.H
 env:=compEnvC sc (ydu sc X.env) j.C X.env
 outer:=X.stack
 stack:=X.stack
 ex:=j.fp
 fn:=λ_=>AD
 calm:=X.calm
 pn:=[]
 xe:=No
def inn (slots:List (Option Nat))(σ:St):St:=slots.map λo=>o.bind λj=>(σ[j]?).join
structure yak (X:Cx)(sc:Bi)(NC:List AR)(slots:List (Option Nat)):Prop where
 kind:sc.kind=.function
 names:∀y∈sc.names,y.2=.local->sc.names.lookup y.1=AA .local
 nocell:∀y∈sc.names,y.2 ≠ .cell
 free:∀y∈sc.names,y.2=.free->X.env.scope.names.lookup y.1=AA .cell
 slot:∀(i:Nat) (x:AR) (j:Nat),NC[i]?=AA x->slots[i]?=AA (AA j)->X.N[j]?=AA x/\sc.names.lookup x=AA .free
 len:slots.length=NC.length
theorem ydL {X:Cx}{sc:Bi}{NC:List AR}{slots:List (Option Nat)}(N:List AR)(so:Bi)(hN:X.N=N)(hs:X.env.scope=so)(kind:sc.kind=.function)
  (names:∀y∈sc.names,y.2=.local->sc.names.lookup y.1=AA .local) (nocell:∀y∈sc.names,y.2 ≠ .cell) (free:∀y∈sc.names,y.2=.free->so.names.lookup y.1=AA .cell)
  (slot:∀p∈NC.zip slots,(p.2.all λj=>decide (N[j]?=AA p.1/\sc.names.lookup p.1=AA .free))=AC) (len:slots.length=NC.length):yak X sc NC slots:=by
 subst hN hs
 refine⟨kind,names,nocell,free,λi x j e1 e2=>?_,len⟩
 have hm:(x,AA j)∈NC.zip slots:=A1 (i:=i) (by rw[List.getElem?_zip_eq_some];exact⟨e1,e2⟩)
 have:=slot _ hm
 simpa using this
section
variable {X:Cx}{sc:Bi}{NC:List AR}{slots:List (Option Nat)}{pins:List (AJ×CB)}{σ:St}{H:Hp}{s:AK}
theorem yak.cells (O:yak X sc NC slots)(ok:X.Ok):∀y∈sc.names,y.2=.free->∃c,X.env.cells.lookup y.1=AA c:=λy hy hk=>ok.has y.1 (.inl (O.free y hy hk))
theorem yak.sub (O:yak X sc NC slots)(ok:X.Ok):∀x c,(ydu sc X.env).lookup x=AA c->X.env.cells.lookup x=AA c:=zdl sc.names [] (O.cells ok) λ_ _ e=>nomatch e
theorem yak.rel (O:yak X sc NC slots)(ok:X.Ok){x:AR}(h:sc.names.lookup x=AA .free):(relabel sc X.env).names.lookup x=AA .cell:=by
 rw[zdp,h]
 have e:X.env.kindOf x=AA .cell:=O.free _ (mem_of_lookup h) rfl
 simp[yc9,ok.kind,e]
theorem zgn (I:Inv X pins σ H s)(O:yak X sc NC slots){fp:List AJ}(hf:∀b∈fp,ybw X pins H b)(hob:∀b∈fp,∃o,s.heap.get? b=AA o){h1:BB}{t':Nat}{m:AR->Option AH}(hns:h1.Ns s.heap.objs.size m)
  (hk:∀b o,s.heap.get? b=AA o->h1.get? b=AA o):Inv (cxC X sc NC ⟨s.heap.objs.size,s,H,fp⟩) [] (inn slots σ) H { s with heap:=h1,toks:=t' }:=by
 have sub:=O.sub I.ok
 have fss:∀b,b≠X.env.locals->b∉X.fs->b∉frs X.stack:=λb h1 h2 hb=>(AU.mp (I.stkSub b hb)).elim h1 h2
 have ltC:∀x c,(ydu sc X.env).lookup x=AA c->c<s.heap.objs.size:=λx c e=>by
  obtain⟨v,q⟩:=I.cell x c (sub x c e)
  exact q.lt
 refine⟨⟨I.ok.mod,O.kind,I.ok.glob,I.ok.blt,AT _,λx y c e1 e2=>I.ok.inj x y c (sub x c e1) (sub y c e2),λx hx=>?_,λ_ _ z=>(nomatch z),I.ok.hd,I.ok.frames,.inl rfl,λb hb=>⟨?_,λx c e=>(hf b hb).2.2.2.2.1 x c (sub x c e)⟩,I.bs,BZ I.ok.bsz I.sz,λb o e hb=>?_,λb hb=>fss b (hf b hb).2.1 (hf b hb).2.2.1,I.stack,I.stkFree⟩,
  rfl,I.bare,Un.kept hk,⟨m,hns,λi x v e1 e2 e3=>?_⟩,λx c e=>?_,I.hok.fresh (AT _),λx c e=>I.freeC x c (sub x c e),λp hp=>(nomatch hp),I.hok.kept hk,?_⟩
 .have hx':(relabel sc X.env).names.lookup x=AA .cell \/ (relabel sc X.env).names.lookup x=AA .free:=hx
  rw[zdp]at hx'
  cases q:sc.names.lookup x with
  |none =>
   rw[q]at hx'
   rcases hx' with z|z <;> cases z
  |some k =>
   have hm:=mem_of_lookup q
   have hkf:k=.free:=by
    rw[q]at hx'
    have nc:=O.nocell _ hm
    by_cases hk:k=.free
    .exact hk
    .exfalso
     have hb:(k == C9)=false:=by simpa using hk
     rcases hx' with z|z
     .simp[yc9,hb]at z
      exact nc z
     .simp[yc9,hb]at z
      exact hk z
   subst hkf
   exact zb8 sc.names [] _ hm rfl
 .obtain⟨o,e⟩:=hob b hb
  exact An (AY e)
 .rcases (hf b hb).2.2.2.1 with z|z
  .exact I.ok.noex b o e z
  .exact absurd (A3 (AY e) (BZ I.ok.bsz z)) (Cu _)
 .obtain⟨j,e4,e5⟩:∃j,slots[i]?=AA (AA j)/\σ[j]?=AA (AA v):=by
   have e2':(slots.map λo=>o.bind λj=>(σ[j]?).join)[i]?=AA (AA v):=e2
   rw[Bm]at e2'
   cases q:slots[i]? with
   |none =>
    rw[q]at e2'
    cases e2'
   |some o =>
    rw[q]at e2'
    cases o with
    |none=>cases e2'
    |some j =>
     refine⟨j,rfl,?_⟩
     have e6:(σ[j]?).join=AA v:=AX e2'
     cases q2:σ[j]? with
     |none =>
      rw[q2]at e6
      cases e6
     |some w =>
      rw[q2]at e6
      have e7:w=AA v:=e6
      rw[e7]
  obtain⟨e6,e7⟩:=O.slot i x j e1 e4
  have kc:X.env.scope.names.lookup x=AA .cell:=O.free _ (mem_of_lookup e7) rfl
  obtain⟨m0,hn0,hl⟩:=I.loc
  obtain⟨u,r,lk⟩:=hl j x v e6 e5 (.inr (.inl kc))
  refine⟨u,r,.inr ⟨.inl (O.rel I.ok e7),?_⟩⟩
  rcases lk with⟨z,_⟩|⟨_,c,hc,o,ho,hd⟩
  .rw[show X.env.kindOf x=AA .cell from kc]at z
   cases z
  .obtain⟨c',hc'⟩:=zb8 (env:=X.env) sc.names [] _ (mem_of_lookup e7) rfl
   have e8:c'=c:=AX ((sub x c' hc').symm.trans hc)
   subst e8
   exact⟨c',hc',o,hk _ _ ho,hd⟩
 .obtain⟨v,o,ho,hd⟩:=I.cell x c (sub x c e)
  exact⟨v,o,hk _ _ ho,hd⟩
 .show (slots.map λo=>o.bind λj=>(σ[j]?).join).length=NC.length
  rw[Ap,O.len]
theorem zgy (I:Inv X pins σ H s){fp:List AJ}(hf:∀b∈fp,ybw X pins H b){C:AJ}(hC:s.heap.objs.size<=C){pl:List (AJ×CB)}{σ':St}{H':Hp}{s':AK}(J:Inv (cxC X sc NC ⟨C,s,H,fp⟩) pl σ' H' s')
  {h2:BB} (hb:C3 C s'.heap h2):Inv X pins σ H' { s' with heap:=h2 }:=by
 have nC:∀b o,s.heap.get? b=AA o->b≠C:=λb o e=>An (A3 (AY e) hC)
 have B:Un (frs X.stack) fp H H' s.heap s'.heap:=J.base
 have fC:H' C=none:=J.free
 refine I.call' (ch:=fp) J.os ⟨λb o e n h3 h4=>(hb.2 b (nC b o e)).trans (B.keep b o e n h3 h4),λb o e n h3 h4=>?_,B.free,λb o e h4=>?_,B.tups,B.frzs,B.tbls⟩ (λb u e=>?_) J.bare λb h3=>⟨(hf b h3).2.2.2.1,(hf b h3).2.1,(hf b h3).2.2.2.2.1,(hf b h3).2.2.2.2.2⟩
 .obtain⟨sl,q⟩:=B.slot b o e n h3 h4
  exact⟨sl,(hb.2 b (nC b o e)).trans q⟩
 .obtain⟨o',q⟩:=B.there b o e h4
  exact⟨o',(hb.2 b (nC b o e)).trans q⟩
 .refine(J.hok b u e).stay (λc v hc q=>(hb.2 c λz=>?_).trans q) (λ_ q=>q) λ_ _ q=>q
  subst z
  rcases hc with z|z
  .rw[z,e]at fC
   cases fC
  .rw[z]at fC
   cases fC
end
def PTs (X:Cx)(ifs:List AV)(t:TT):Prop :=
 ∀(pins:List (AJ×CB)) (s:AK) (σ:St) (H:Hp) (Q:Bool->Hp->Prop),Inv X pins σ H s->t σ H Q->AZ (model X.prog X.w) X.A (ydH ifs X.env) (TP X pins σ Q) X.xe s
def ygQ:TT:=λ_ H Q=>Q AC H
theorem zk7 {X:Cx}:PTs X [] ygQ:=λ_ _ _ H _ I h=>wpAny_tests_nil ⟨H,I,h⟩
theorem zl4 {X:Cx}{c:AV}{t:TT}(h:PT X c t):PTs X [c] t:=λpins s σ H Q I q=>wpAny_tests_one (h pins s σ H Q I q)
def ycQ (J:It)(D:AJ)(g:TG)(ti:TT)(te:TE)(W:Nat->Nat->St->List V->Hp->Prop)(Q:Hp->Prop):Prop :=
 ∀i m σc ys H2,W i m σc ys H2->H2 D=AA (.lst ys)/\((J.stop i H2/\Q H2) \/ (J.go i H2/\ys.length<sizeLine/\∃N:St->List V->Hp->Prop,(∀σ' ys' H',N σ' ys' H'->∃m',m' < m/\W (i+1) m' σ' ys' H') /\
  ∀x H3,J.yld i H2 x H3->g x σc H3 λσ4 H4=>ti σ4 H4 λb H5=>if b=AC then te σ4 H5 λy H6=>H6 D=AA (.lst ys)/\N σ4 (ys++[y]) (upd H6 D (.lst (ys++[y])))else N σ4 ys H5))
def ydv (slots:List (Option Nat))(wi:TI)(g:TG)(ti:TT)(te:TE):TE:=λσ H Q=>wi σ H λJ H1=>∀D,H1 D=AE->∃W:Nat->Nat->St->List V->Hp->Prop,(∃m,W 0 m (inn slots σ) [] (upd H1 D (.lst [])))/\ycQ J D g ti te W (Q (.ref D))
section
variable {X:Cx}{sc:Bi}{NC:List AR}{slots:List (Option Nat)}{elt tg iter:AV}{ifs:List AV}{pos:CT}{g:TG}{ti:TT}{te:TE}
theorem zjG (hc:X.calm=AC)(hg:∀j,PG (cxC X sc NC j) tg g)(ht:∀j,PTs (cxC X sc NC j) ifs ti)(he:∀j,PE (cxC X sc NC j) elt te){cj:CI}{it D:AJ}{tn:Nat->BB->Prop}{J:It}
  {W:Nat->Nat->St->List V->Hp->Prop} {Q:Hp->Prop} {R:G3->AK->Prop} {s:AK} {σc:St} {ys:List V} {H:Hp} (T:Turn X.prog X.w X.K tg J cj.fp it tn)
  (I:Inv (cxC X sc NC cj) [] σc H s) (hf:∀b∈cj.fp,ybw (cxC X sc NC cj) [] H b) (st:tn 0 s.heap) {m:Nat} (w0:W 0 m σc ys H) (step:ycQ J D g ti te W Q)
  (fin:∀σ' H' s',Inv (cxC X sc NC cj) [] σ' H' s'->Q H'->R (.ok .next) s') :
  codeAny (model X.prog X.w) X.A (.compLoop (.ListComp elt [⟨tg,iter,ifs,0⟩] sc pos) 0 (.ref it) (.ref D) (cxC X sc NC cj).env) R s:=by
 have stat:∀{H':Hp},(∀b∈cj.fp,H' b=AE)->∀b∈cj.fp,ybw (cxC X sc NC cj) [] H' b:=λhn b hb=>⟨hn b hb,(hf b hb).2⟩
 refine zhj (λn s'=>∃i σ' ys' H',Inv (cxC X sc NC cj) [] σ' H' s'/\tn i s'.heap/\(∀b∈cj.fp,H' b=AE)/\W i n σ' ys' H') ?_ m ⟨0,σc,ys,H,I,st,λb hb=>(hf b hb).1,w0⟩
 rintro n s3 ⟨i,σ3,ys3,H3,I3,st3,fr3,w3⟩
 obtain⟨hD,q⟩:=step i n σ3 ys3 H3 w3
 rcases q with⟨stop,qn⟩|⟨go,hz,N,hN,turn⟩
 .refine thn (T.done (cxC X sc NC cj) rfl rfl rfl hc i [] s3 σ3 H3 No I3 (stat fr3) st3 stop) λr s4 ⟨hr,I4⟩=>?_
  subst hr
  exact fin σ3 H3 s4 I4 qn
 .refine thn (T.item (cxC X sc NC cj) rfl rfl rfl hc i [] s3 σ3 H3 No I3 (stat fr3) st3 go) λr s4 ⟨u,hr,h4⟩=>?_
  subst hr
  refine thn h4 λ_ s5 ⟨x,H5,I5,r5,y5,st5,fr5⟩=>?_
  have I5':=I5.pinned (stat fr5) (T.obj _ _ st5)
  refine thn (hg cj _ s5 σ3 H5 x u _ I5' r5 (turn x H5 y5)) λ_ s6 ⟨σ6,H6,I6,q6⟩=>?_
  refine thn (ht cj _ s6 σ6 H6 _ I6 q6) λok s7 ⟨H7,I7,q7⟩=>?_
  have again:∀{σ8:St} {ys8:List V} {H8:Hp} {s8:AK},Inv (cxC X sc NC cj) ([]++ybp cj.fp s5.heap) σ8 H8 s8->N σ8 ys8 H8->∃m,m<n/\∃i σ' ys' H',Inv (cxC X sc NC cj) [] σ' H' s8/\tn i s8.heap/\(∀b∈cj.fp,H' b=AE)/\W i m σ' ys' H':=λ{σ8 ys8 H8 s8} I8 n8=>by
   obtain⟨m',hm,w8⟩:=hN σ8 ys8 H8 n8
   refine⟨m',hm,i+1,σ8,ys8,H8,I8.unpinned,T.keep _ _ _ st5 λb hb o e=>(I8.pin (b,o) (BH _ (BH _ (za9 hb e)))).1,λb hb=>?_,w8⟩
   obtain⟨o,e,d⟩:=T.obj _ _ st5 b hb
   exact(I8.pin (b,o) (BH _ (BH _ (za9 hb e)))).2.1
  cases ok with
  |false =>
   rw[if_neg Az]at q7 ⊢
   exact again I7 q7
  |true =>
   rw[if_pos rfl]at q7 ⊢
   refine thn (he cj _ s7 σ6 H7 _ I7 q7) λy s8 ⟨v,H8,I8,r8,hD8,q8⟩=>?_
   refine thn (zep (X:=cxC X sc NC cj) _ s8 σ6 H8 (.ref D) [v] (.ref D) [y] (λz H'=>z=.non/\H'=upd H8 D (.lst (ys3++[v]))) I8 rfl (.cons r8 .nil) ⟨D,ys3,v,rfl,rfl,hD8,hz,rfl,rfl⟩) λz s9 ⟨zv,H9,I9,r9,e1,e2⟩=>?_
   subst e2
   exact again I9 q8
theorem zgg (hc:X.calm=AC)(O:yak X sc NC slots)(hg:∀j,PG (cxC X sc NC j) tg g)(ht:∀j,PTs (cxC X sc NC j) ifs ti)(he:∀j,PE (cxC X sc NC j) elt te){pins:List (AJ×CB)}{s:AK}{σ:St}{H:Hp}(I:Inv X pins σ H s)
  {it:AJ} {fp:List AJ} {tn:Nat->BB->Prop} {J:It} (T:Turn X.prog X.w X.K tg J fp it tn) (st:tn 0 s.heap) (hf:∀b∈fp,ybw X pins H b) {Q:VK}
  (h:∀D,H D=AE->∃W:Nat->Nat->St->List V->Hp->Prop,(∃m,W 0 m (inn slots σ) [] (upd H D (.lst [])))/\ycQ J D g ti te W (Q (.ref D))) {RR:AH->AJ->G3->AK->Prop}
  (fin:∀D C s' H',Q (.ref D) H'->(∃o m,s'.heap.get? C=AA o/\s'.heap.Ns C m/\∀v,o.data ≠ .cell v)->ybw X pins H' C->(∀h2,C3 C s'.heap h2->Inv X pins σ H' { s' with heap:=h2 })->RR (.ref D) C (.ok .next) s') :
  AZ (model X.prog X.w) X.A (newList []) (λacc s3=>AZ (model X.prog X.w) X.A (newFunctionEnv sc X.env.globals (ydu sc X.env) [] X.env.qual AE .none (AA X.env)) (λcenv s4 =>
   codeAny (model X.prog X.w) X.A (.compStart (.ListComp elt [⟨tg,iter,ifs,0⟩] sc pos) 0 (.ref it) acc { cenv with scope:=relabel sc X.env }) (RR acc cenv.locals) s4) X.xe s3) X.xe s:=by
 refine BM (wpAny_newFunctionEnv O.nocell (by intro y hy;simp at hy) (λh1 hns1 hsb1=>?_) O.kind)
 dsimp only at hns1 hsb1 ⊢
 have hDn:H s.heap.objs.size=none:=I.hok.fresh (AT _)
 obtain⟨W,⟨m,w0⟩,step⟩:=h s.heap.objs.size hDn
 obtain⟨s3,hs3⟩:∃x:AK,x=({ s with heap:=s.heap.push { cls:=.type "list",dict:=AE,data:=.seq ([]:List AH).toArray } }:AK):=⟨_,rfl⟩
 have e3:s3.heap=s.heap.push { cls:=.type "list",dict:=AE,data:=.seq ([]:List AH).toArray }:=by rw[hs3]
 rw[<- e3]at hns1 hsb1
 have hp3:∀b o,s.heap.get? b=AA o->s3.heap.get? b=AA o:=λb o e=>by
  rw[e3]
  exact AN _ e
 have I3:Inv X pins σ (upd H s.heap.objs.size (.lst [])) s3:=by
  have q:=I.laid (a:=s.heap.objs.size) (o:=.lst []) (h':=s3.heap) (t':=s.toks) hp3 (AT _) ⟨DD _,[],_,.nil,by rw[e3];exact A2 _ rfl⟩
  rw[hs3]at q ⊢
  exact q
 have hf3:∀b∈fp,ybw X pins (upd H s.heap.objs.size (.lst [])) b:=λb hb=>by
  obtain⟨o,e,_⟩:=T.obj _ _ st b hb
  refine⟨?_,(hf b hb).2⟩
  rw[zj (An (AY e))]
  exact(hf b hb).1
 have st3:tn 0 s3.heap:=T.keep _ _ _ st λb _ o e=>hp3 b o e
 have hob:∀b∈fp,∃o,s3.heap.get? b=AA o:=λb hb=>by
  obtain⟨o,e,_⟩:=T.obj _ _ st3 b hb
  exact⟨o,e⟩
 have hk1:∀b o,s3.heap.get? b=AA o->h1.get? b=AA o:=λb o e=>hsb1.extBut b o (An (AY e)) (AN _ e)
 have J1:=zgn (t':=s3.toks+([]:List (AR×AH)).length) I3 O hf3 hob hns1 hk1
 have hfc:∀b∈fp,ybw (cxC X sc NC ⟨s3.heap.objs.size,s3,upd H s.heap.objs.size (.lst []),fp⟩) [] (upd H s.heap.objs.size (.lst [])) b:=λb hb =>
  ⟨(hf3 b hb).1,(J1.ok.exf b hb).1,J1.ok.exfs b hb,.inl hb,(J1.ok.exf b hb).2,λp hp=>nomatch hp⟩
 have loop:codeAny (model X.prog X.w) X.A (.compLoop (.ListComp elt [⟨tg,iter,ifs,0⟩] sc pos) 0 (.ref it) (.ref s.heap.objs.size) (cxC X sc NC ⟨s3.heap.objs.size,s3,upd H s.heap.objs.size (.lst []),fp⟩).env) (RR (.ref s.heap.objs.size) s3.heap.objs.size)
   { s3 with heap:=h1,toks:=s3.toks+([]:List (AR×AH)).length }:=by
  refine zjG (D:=s.heap.objs.size) (Q:=Q (.ref s.heap.objs.size)) hc hg ht he T J1 hfc (T.keep _ _ _ st3 λb _ o e=>hk1 b o e) w0 step λσ' H' s' J' q'=>?_
  have fC:H' s3.heap.objs.size=none:=J'.free
  refine fin _ _ s' H' q' ?_ (I3.fpOk (AT _) fC) λh2 hb=>zgy I3 hf3 (AT _) J' hb
  obtain⟨m',hn',_⟩:=J'.loc
  obtain⟨o,es,ep,ho,hd,r⟩:=id hn'
  exact⟨o,m',ho,hn',λv z=>by rw[hd]at z;cases z⟩
 have self:=λ(RQ:AH->AK->Prop) (EE:AH->AK->Prop)=>T.self X.A 0 { s3 with heap:=h1,toks:=s3.toks+([]:List (AR×AH)).length } RQ EE (T.keep _ _ _ st3 λb _ o e=>hk1 b o e)
 subst hs3
 exact codeAny_compStart_list loop (self _ _ loop)
variable {wi:TI}
theorem zlY (hc:X.calm=AC)(O:yak X sc NC slots)(hi:PI X tg iter wi)(hg:∀j,PG (cxC X sc NC j) tg g)(ht:∀j,PTs (cxC X sc NC j) ifs ti)(he:∀j,PE (cxC X sc NC j) elt te)
  (hs:∀x,foldedSetIterable iter X.env x=pure x:=by intro _;rfl):PE X (.ListComp elt [⟨tg,iter,ifs,0⟩] sc pos) (ydv slots wi g ti te):=by
 intro pins s σ H Q I h
 rw[eval_ListComp]
 refine wpAny_comprehension_free (use:=AE) rfl hs (zcL (O.cells I.ok)) O.kind O.names (thn (hi pins s σ H _ I h) λv s1 h1=>thn h1 λitv s2 h2=>?_)
 obtain⟨it,fp,tn,J,H2,rfl,I2,T,st2,f2,q2⟩:=h2
 refine zgg hc O hg ht he I2 T st2 f2 q2 λD C s' H' q' ⟨o,m,ho,hn,_⟩ _ out=>⟨m,hn,λh2 hb=>⟨.ref D,H',out h2 hb,rfl,q'⟩⟩
end
theorem zf1:∀{bs:List Bool} {us:List AH},Vals (bs.map V.bl) us->LSm.BoolsAre us bs
 | [],_,.nil=>.nil
 |b::bs,_,.cons r q=>by
  cases (show _=Ds b from r)
  exact .cons b (zf1 q)
section
variable {X:Cx}
def yfG (K:AG):List V->Hp->VK->Prop:=λxs H Q=>∃(l:AJ) (bs:List Bool),xs=[.ref l]/\SqL K H l (bs.map V.bl)/\Q (.bl (bs.all id)) H
theorem zjk (hc:X.calm=AC):yao X (.builtin "all") (yfG X.K):=by
 intro pins s σ H xs us Q I r h
 obtain⟨l,bs,rfl,hq,q⟩:=h
 obtain⟨u,rfl,ru⟩:=Vals.one r
 cases (show u=Ae l from ru)
 obtain⟨its,rv,pl,hz⟩:=I.list hq
 have hb:=zf1 rv
 have hl:=pl.isList
 have hlt:l<s.heap.objs.size:=by
  obtain⟨_,e,_⟩:=hl
  exact AY e
 refine call_all_walk (Fr hl ?_)
 refine⟨s.heap.objs.size,[s.heap.objs.size,l],[s.heap.objs.size],its.toArray.size,_,_,λi=>(bs[i]?).getD AC,rfl,Walks.list (A:=X.A.in1) (I.ok.hd hc) _ l (An hlt) its.toArray,⟨⟨_,A2 _ rfl,rfl,rfl⟩,hl.push _⟩,λi v s' Q' E' hP hQ=>?_,λh' tk hk=>?_⟩
 .obtain⟨b,e,rfl⟩:=hb.get i v (by simpa using hP)
  simp only[e,CJ]at hQ
  exact Ba hQ
 .have e:((C2 its.toArray.size).all λi=>(bs[i]?).getD AC)=bs.all id:=by
   rw[AW,hb.length]
   exact LSm.range_all bs
  rw[e]
  exact⟨.bl _,H,I.kept (t':=tk) (LSm.kept_iter hk),rfl,q⟩
end
section
variable {X:Cx}{pins:List (AJ×CB)}{σ:St}{H:Hp}{s:AK}
end
section
variable {X:Cx}{a:AV}{ta:TE}{K:AG}
end
end L2
namespace L2
end L2
namespace L2
open PySem PySem.Spec PyProof.Rows
def CX1 (P:A4)(w:Af):CXT:=λouter H s E e s'=>∃(a:AJ) (cls a0:AH) (H':Hp) (B:BB),e=.ref a/\s'.os=s.os/\D0 s'.gens/\Go B outer a cls a0 s'.heap/\HOk P w H' s'.heap/\Un (frs outer) [] H H' s.heap s'.heap /\
 (∀b o,s.heap.get? b=AA o->H b=AE->b∉frs outer->B.get? b=AA o)/\(∀b u,H' b=AA u->∃o,B.get? b=AA o)/\(∀b o,s.heap.get? b=AA o->b∉frs outer->∃o',B.get? b=AA o')/\E cls AE H'
theorem yZ.there {P:A4}{w:Af}{H:Hp}{h:BB}{a:AJ}{o:HO}(x:yZ P w H h a o):∃ob,h.get? a=AA ob:=by
 induction o with
 |lst xs=>obtain⟨_,_,_,_,e⟩:=x;exact⟨_,e⟩
 |tup xs=>obtain⟨_,_,_,ob,e,_⟩:=x;exact⟨ob,e⟩
 |dK kvs=>obtain⟨_,_,_,_,ob,_,_,e,_⟩:=x;exact⟨ob,e⟩
 |dT kvs=>obtain⟨_,_,_,_,ob,_,_,e,_⟩:=x;exact⟨ob,e⟩
 |set S n=>obtain⟨ob,_,_,_,e,_⟩:=x;exact⟨ob,e⟩
 |ins C dx fs=>obtain⟨_,_,_,e,_⟩:=x;exact⟨_,e⟩
 |own y=>exact x
 |xd fs=>obtain⟨_,⟨ob,_,_,e,_⟩,_⟩:=x;exact⟨ob,e⟩
 |rng lo hi=>obtain⟨_,_,_,e⟩:=x;exact⟨_,e⟩
 |frz ob u ih=>exact⟨ob,x.1⟩
 |tbl ps=>exact⟨_,x⟩
 |met f y=>exact⟨_,x⟩
 |ext φ=>exact x.2.1
theorem HOk.inB {P:A4}{w:Af}{H:Hp}{h h' B:BB}(ok:HOk P w H h)(hB:B.StaysIn h)(hB':B.StaysIn h')(tr:∀b u,H b=AA u->∃o,B.get? b=AA o):HOk P w H h':=λa o e =>
 (ok a o e).stay (λb u hb q=>by
  have hb':∃o,B.get? b=AA o:=by
   rcases hb with z|z
   .rw[z]
    exact tr a o e
   .exact tr b _ z
  obtain⟨o',q'⟩:=hb'
  have:=hB b o' q'
  rw[q]at this
  cases this
  exact hB' b u q') (λ_ q=>q) λ_ _ q=>q
section
variable {P:A4}{w:Af}{K:AG}{mg:AR->Option AH}{base:BB}{N:List AR}{qual:AR}{scope:Bi}{f:AJ}{cd:AH}{A:Ar}{outer:List Env}{s₀:AK}{H₀:Hp}{E:XK}
 {pins:List (AJ×CB)} {σ:St} {H:Hp} {s:AK}
theorem zgR {h':BB}{e:AJ}{cls:AH}{vs:List AH}(I:Inv (yaZ (CX1 P w) P w K mg base N qual scope f cd A outer s₀ H₀ E) pins σ H s)(hx:G8 s.heap h' e cls vs)(hE:E cls AE H) :
  (yaZ (CX1 P w) P w K mg base N qual scope f cd A outer s₀ H₀ E).xe (.ref e) { s with heap:=h' }:=by
 have stk:s.heap.FunFrames base (envOfC qual scope s₀.heap.objs.size f cd::outer):=I.stack
 have hst:∀b,b∈frs (envOfC qual scope s₀.heap.objs.size f cd::outer)->b=s₀.heap.objs.size \/ b∈frs outer:=λb hb=>by
  have hb':b∈s₀.heap.objs.size::frs outer:=hb
  exact AU.mp hb'
 have inB:∀b o,s.heap.get? b=AA o->b∉frs (envOfC qual scope s₀.heap.objs.size f cd::outer)->(Cz s.heap (frs (envOfC qual scope s₀.heap.objs.size f cd::outer))).get? b=AA o:=λb o q n=>FQ _ q n
 have hB:(Cz s.heap (frs (envOfC qual scope s₀.heap.objs.size f cd::outer))).StaysIn s.heap:=λb o q=>F7 _ q
 have bse:Un (frs outer) [] H₀ H s₀.heap s.heap:=I.base
 have lt:∀b o,s₀.heap.get? b=AA o->b≠s₀.heap.objs.size:=λb o q=>An (AY q)
 have tr:∀b u,H b=AA u->∃o,(Cz s.heap (frs (envOfC qual scope s₀.heap.objs.size f cd::outer))).get? b=AA o:=λb u q=>by
  obtain⟨o,ho⟩:=yZ.there (I.hok b u q)
  exact⟨o,inB b o ho λhb=>by
   have:=I.stkFree b hb
   rw[q]at this
   cases this⟩
 refine wpAny_leaves_madeW (base:=Cz s.heap (frs (envOfC qual scope s₀.heap.objs.size f cd::outer))) (h:=s.heap) I.ok.frames rfl hB (PySem.W.funFrames_hide stk λenv he a ha=>Dw.mpr ⟨env,he,ha⟩) hx λh'' t fl tu tn up=>?_
 have up':s.heap.UpToSlots h'':=(Gi hx.keeps).trans up
 refine⟨e,cls,_,H,_,rfl,I.os,I.bare,fl,HOk.inB I.hok hB fl.1 tr,⟨λb o q n hb _=>?_,λb o q n hb _=>?_,bse.free,λb o q _=>?_,bse.tups,bse.frzs,bse.tbls⟩,λb o q n hb=>?_,tr,λb o q hb=>?_,hE⟩
 .refine fl.1 b o (inB b o (bse.keep b o q n hb (by simp)) λz=>?_)
  rcases hst b z with z|z
  .exact lt b o q z
  .exact hb z
 .obtain⟨sl,q1⟩:=bse.slot b o q n hb (by simp)
  obtain⟨_,o',ho',hd⟩:=CP stk (show b∈DL (λ(z:Env)=>z.frame) _ from AS _ hb)
  obtain⟨sl',q2⟩:=up' b _ q1 (by rw[ho']at q1;cases q1;exact hd)
  exact⟨sl',q2⟩
 .obtain⟨o',q1⟩:=bse.there b o q (by simp)
  by_cases hb:b∈frs (envOfC qual scope s₀.heap.objs.size f cd::outer)
  .obtain⟨_,o2,ho',hd⟩:=CP stk hb
   obtain⟨sl',q2⟩:=up' b _ ho' hd
   exact⟨_,q2⟩
  .exact⟨o',fl.1 b o' (inB b o' q1 hb)⟩
 .refine inB b o (bse.keep b o q n hb (by simp)) λz=>?_
  rcases hst b z with z|z
  .exact lt b o q z
  .exact hb z
 .obtain⟨o',q1⟩:=bse.there b o q (by simp)
  refine⟨o',inB b o' q1 λz=>?_⟩
  rcases hst b z with z|z
  .exact lt b o q z
  .exact hb z
theorem yd7:ybK (CX1 P w) (yaZ (CX1 P w) P w K mg base N qual scope f cd A outer s₀ H₀ E) E:=by
 intro pins σ H s e s' I h
 obtain⟨a,cls,a0,H',B,rfl,os,bare,fl,hok,un,hB,tr,hT,hE⟩:=h
 have bse:Un (frs outer) [] H₀ H s₀.heap s.heap:=I.base
 have lt:∀b o,s₀.heap.get? b=AA o->b≠s₀.heap.objs.size:=λb o q=>An (AY q)
 have hst:∀b,b∈frs (envOfC qual scope s₀.heap.objs.size f cd::outer)->b=s₀.heap.objs.size \/ b∈frs outer:=λb hb=>by
  have hb':b∈s₀.heap.objs.size::frs outer:=hb
  exact AU.mp hb'
 have un':Un (frs (envOfC qual scope s₀.heap.objs.size f cd::outer)) [] H H' s.heap s'.heap:=un
 have kB:∀b o,s₀.heap.get? b=AA o->H₀ b=AE->b∉frs outer->B.get? b=AA o:=λb o q n hb=>hB b o (bse.keep b o q n hb (by simp)) (bse.free b o q n (by simp)) λz=>by
  rcases hst b z with z|z
  .exact lt b o q z
  .exact hb z
 have kT:∀b o,s₀.heap.get? b=AA o->b∉frs outer->∃o',B.get? b=AA o':=λb o q hb=>by
  obtain⟨o',q1⟩:=bse.there b o q (by simp)
  refine hT b o' q1 λz=>?_
  rcases hst b z with z|z
  .exact lt b o q z
  .exact hb z
 refine wpAny_leaves_onW I.ok.frames rfl fl λh'' fl' up=>?_
 refine⟨a,cls,a0,H',B,rfl,os.trans I.os,bare,fl',HOk.inB hok fl.1 fl'.1 tr,⟨λb o q n hb _=>fl'.1 b o (kB b o q n hb),λb o q n hb _=>?_,λb o q n _=>?_,λb o q _=>?_,λb xs q=>un'.tups b xs (bse.tups b xs q),λb o u q=>un'.frzs b o u (bse.frzs b o u q),λb ps q=>?_⟩,kB,tr,kT,hE⟩
 .obtain⟨sl,q1⟩:=bse.slot b o q n hb (by simp)
  have n1:=bse.free b o q n (by simp)
  obtain⟨sl1,q2⟩:=un'.slot b _ q1 n1 (AS _ hb) (by simp)
  obtain⟨_,o',ho',hd⟩:=CP fl.2.2.1 (show b∈DL (λ(z:Env)=>z.frame) _ from AS _ hb)
  obtain⟨sl',q3⟩:=up b _ q2 (by rw[ho']at q2;cases q2;exact hd)
  exact⟨sl',q3⟩
 .obtain⟨o',q1⟩:=bse.there b o q (by simp)
  exact un'.free b o' q1 (bse.free b o q n (by simp)) (by simp)
 .obtain⟨o',q1⟩:=bse.there b o q (by simp)
  obtain⟨o2,q2⟩:=un'.there b o' q1 (by simp)
  by_cases hb:b∈frs outer
  .obtain⟨_,o3,ho3,hd⟩:=CP fl.2.2.1 (show b∈DL (λ(z:Env)=>z.frame) _ from AS _ hb)
   obtain⟨sl',q3⟩:=up b _ ho3 hd
   exact⟨_,q3⟩
  .obtain⟨o4,q4⟩:=kT b o q hb
   exact⟨o4,fl'.1 b o4 q4⟩
 .obtain⟨m1,e1⟩:=bse.tbls b ps q
  obtain⟨m2,e2⟩:=un'.tbls b _ e1
  exact⟨m1++m2,by rw[e2,Dt]⟩
end
section
variable {X:Cx}{e:AV}{es:List AV}{te:TE}
end
section
variable {X:Cx}{e:AV}{es:List AV}{t:TA}{E:XK}
end
section
variable {pg:A4}{wd:Af}{A:Ar}{E:AH->AK->Prop}{h:BB}{g:Array GenState}{d:Drawn}{t:Nat}{os:OsState}{a C:AJ}{o:CB}{K:AG}
end
def ygo (a C:AJ):BB->Prop:=λh=>∃o,h.get? a=AA o/\o.cls=.ref C
section
variable {X:Cx}
end
section
variable {X:Cx}{pins:List (AJ×CB)}{σ:St}{H:Hp}{s:AK}
end
section
variable {X:Cx}{pins:List (AJ×CB)}{σ:St}{H:Hp}{s:AK}
end
section
variable {X:Cx}{body suite:List Bv}{b₀:Bv}{x n:AR}{np hpos pos:CT}{tb:XK->TS}{ts:TS}{W:AJ}{i:Nat}
end
structure ydh (k:Nat)(A:Ar):Prop where
 dp:A.depth+3*k+5<recursionLimit
 un:A.units+16*k+200<cLine
section
variable {P:A4}{w:Af}{K:AG}{mg:AR->Option AH}{base:BB}
end
section
variable {X:Cx}{k:Nat}{f:AJ}{fd:BC}{ps:List AR}{sp:Sp}{x:AR}{p pos:CT}{e:AV}{es:List AV}{t:TA}
end
section
variable {P:A4}{w:Af}{K:AG}{mg:AR->Option AH}{base:BB}
theorem own1 {N:List AR}{qual:AR}{scope:Bi}{f:AJ}{cd:AH}{A:Ar}{outer:List Env}{s:AK}{H:Hp}{E:XK}{CX:CXT} :
  E6 (model (yaZ CX P w K mg base N qual scope f cd A outer s H E).prog (yaZ CX P w K mg base N qual scope f cd A outer s H E).w) (yaZ CX P w K mg base N qual scope f cd A outer s H E).A (yaZ CX P w K mg base N qual scope f cd A outer s H E).env (yaZ CX P w K mg base N qual scope f cd A outer s H E).xe :=
 PassesOwn.leaving
end
section
variable {X:Cx}
end
section
variable {X:Cx}
def ygP (K:AG):List V->Hp->VK->Prop:=λxs H Q=>∃(l:AJ) (ns:List Int),xs=[.ref l]/\SqL K H l (ns.map V.int)/\Q (.int ns.sum) H
theorem zjM (hc:X.calm=AC):yao X (.builtin "sum") (ygP X.K):=by
 intro pins s σ H xs us Q I r h
 obtain⟨l,ns,rfl,hq,q⟩:=h
 obtain⟨u,rfl,ru⟩:=Vals.one r
 cases (show u=Ae l from ru)
 obtain⟨its,rv,pl,hz⟩:=I.list hq
 have hi:Ej its ns:=zde rv
 obtain⟨ys,e⟩:=hi.allInts.items
 have hns:ns=ys.toList.map (·.1):=by rw[<- hi.numsOf,<- nums_intItems,<- e]
 have hl:=pl.isList
 rw[e]at hl
 refine sum_intListG (I.ok.hd hc) hl λh' tk t' hk=>⟨.int ns.sum,H,I.kept (t':=tk) hk,⟨t',?_⟩,q⟩
 rw[preSum_eq,DM (by simp),<- hns]
def ygu (K:AG):List V->Hp->VK->Prop:=λxs H Q=>∃(l:AJ) (ns:List Int),xs=[.ref l]/\SqL K H l (ns.map V.int)/\0<ns.length/\∀M,M∈ns->(∀a,a∈ns->a<=M)->Q (.int M) H
theorem zhi (hc:X.calm=AC):yao X (.builtin "max") (ygu X.K):=by
 intro pins s σ H xs us Q I r h
 obtain⟨l,ns,rfl,hq,hne,q⟩:=h
 obtain⟨u,rfl,ru⟩:=Vals.one r
 cases (show u=Ae l from ru)
 obtain⟨its,rv,pl,hz⟩:=I.list hq
 have hi:Ej its ns:=zde rv
 obtain⟨ys,e⟩:=hi.allInts.items
 have hns:ns=ys.toList.map (·.1):=by rw[<- hi.numsOf,<- nums_intItems,<- e]
 have hsz:0<ys.size:=by
  rw[hns,Ap,CC]at hne
  exact hne
 have hl:=pl.isList
 rw[e]at hl
 refine max_intList (I.ok.hd hc) hl hsz λv h' tk hv hk=>?_
 obtain⟨t,rfl⟩:=intItems_at hv
 obtain⟨h1,h2⟩:=argBest_gt (numAt ys) (ys.size - 1)
 refine⟨.int _,H,I.kept (t':=tk) hk,⟨t,rfl⟩,q _ ?_ λa ha=>?_⟩
 .rw[hns,numAt_eq]
  exact getD_mem (by rw[Ap,CC];omega)
 .rw[hns]at ha
  obtain⟨j,hj,rfl⟩:=mem_getD ha
  rw[Ap,CC]at hj
  rw[<- numAt_eq]
  exact h2 j (by omega)
end
section
variable {κ:Type}[DecidableEq κ]
def ybL (kvs:List (κ×V))(k:κ):Option V:=(kvs.find? λkv=>decide (kv.1=k)).map (·.2)
def putK (kvs:List (κ×V))(k:κ)(v:V):List (κ×V) :=
 if (kvs.any λkv=>decide (kv.1=k))=AC then kvs.map (λkv=>if kv.1=k then(kv.1,v)else kv)else kvs++[(k,v)]
theorem zbR {p:κ×V}{r:List (κ×V)}{k:κ}(e:p.1=k):ybL (p::r) k=AA p.2:=by simp[ybL,Bz,e]
theorem zbZ {p:κ×V}{r:List (κ×V)}{k:κ}(e:¬p.1=k):ybL (p::r) k=ybL r k:=by simp[ybL,Bz,e]
theorem zfW (k:κ):∀kvs:List (κ×V),(kvs.any λkv=>decide (kv.1=k))=(ybL kvs k).isSome
 | []=>rfl
 |p::r=>by
  rw[Bk]
  by_cases e:p.1=k
  .simp only[zbR e,decide_eq_true e,Ft,Option.isSome_some]
  .rw[zbZ e,decide_eq_false e,F0];exact zfW k r
theorem zc4 (kvs:List (κ×V))(k:κ)(v:V):(putK kvs k v).length<=kvs.length+1:=by
 unfold putK
 split
 .rw[Ap];omega
 .rw[A7,A0,CA];omega
theorem ybv.isSome_eq {o:Option V}{u:Option AH}(r:ybv o u):o.isSome=u.isSome:=by
 cases o with
 |none=>cases u with
  |none=>rfl
  |some _=>exact(show False from r).elim
 |some _=>cases u with
  |none=>exact(show False from r).elim
  |some _=>rfl
theorem ybv.getD {o:Option V}{u:Option AH}{d:V}{d':AH}(r:ybv o u)(rd:RelV d d'):RelV (o.getD d) (u.getD d'):=by
 cases o with
 |none=>cases u with
  |none=>exact rd
  |some _=>exact(show False from r).elim
 |some _=>cases u with
  |none=>exact(show False from r).elim
  |some _=>exact r
theorem KV.val {kvs:List (κ×V)}{vs:List (κ×AH)}(r:KV kvs vs)(k:κ):ybv (ybL kvs k) (valueAt vs k):=by
 unfold KV at r
 induction r with
 |nil=>exact C4
 | @cons p q ps qs h t ih =>
  obtain⟨h1,h2⟩:=h
  by_cases e:p.1=k
  .have e':q.1=k:=h1.symm.trans e
   have b:valueAt (q::qs) k=AA q.2:=by simp[valueAt,Bz,e']
   rw[zbR e,b];exact h2
  .have e':¬q.1=k:=λz=>e (h1.trans z)
   have b:valueAt (q::qs) k=valueAt qs k:=by simp[valueAt,Bz,e']
   rw[zbZ e,b];exact ih
theorem KV.any {kvs:List (κ×V)}{vs:List (κ×AH)}(r:KV kvs vs)(k:κ):(kvs.any λkv=>decide (kv.1=k))=vs.any λkv=>decide (kv.1=k):=by
 unfold KV at r
 induction r with
 |nil=>rfl
 |cons h t ih=>rw[Bk,Bk,ih,h.1]
theorem KV.repl {kvs:List (κ×V)}{vs:List (κ×AH)}(r:KV kvs vs)(k:κ){y:V}{u:AH}(ry:RelV y u) :
  KV (kvs.map λkv=>if kv.1=k then(kv.1,y)else kv) (vs.map λkv=>if kv.1=k then(kv.1,u)else kv):=by
 unfold KV at r ⊢
 induction r with
 |nil=>exact .nil
 | @cons p q ps qs h t ih =>
  rw[AM,AM]
  refine .cons ?_ ih
  obtain⟨h1,h2⟩:=h
  by_cases e:p.1=k
  .rw[if_pos e,if_pos (h1.symm.trans e)];exact⟨h1,ry⟩
  .rw[if_neg e,if_neg (λz=>e (h1.trans z))];exact⟨h1,h2⟩
theorem KV.put {kvs:List (κ×V)}{vs:List (κ×AH)}(r:KV kvs vs)(k:κ){y:V}{u:AH}(ry:RelV y u):KV (putK kvs k y) (stored vs k u):=by
 unfold putK stored
 rw[r.any k]
 by_cases e:(vs.any λkv=>decide (kv.1=k))=AC
 .rw[if_pos e,if_pos e];exact r.repl k ry
 .rw[if_neg e,if_neg e];exact HC r ⟨rfl,ry⟩
theorem KV.length {kvs:List (κ×V)}{vs:List (κ×AH)}(r:KV kvs vs):kvs.length=vs.length:=EX r
end
theorem zlo {P:A4}{w:Af}{k:Key}{u:AH}(r:RelV (kV k) u):(yV P w).is k u=true:=by
 cases k with
 |inl i=>obtain⟨t,e⟩:=(show ∃t,u=E1 i t from r);subst e;exact zfp P w i t
 |inr x=>obtain⟨t,e⟩:=(show ∃t,u=Fx x t from r);subst e;exact zfe P w x t
theorem zes {P:A4}{w:Af}:∀{ks:List Key} {us:List AH},Vals (ks.map kV) us->ItemsAre (yV P w) ks us
 | [],_,r=>by rw[A6]at r;cases r;exact .nil
 |k::ks,_,r=>by
  rw[AM]at r
  cases r with
  |cons h t=>exact .cons (zlo h) (zes t)
abbrev KT (H:Hp):List (List Key×V)->List (List Key×AJ×AH)->Prop:=G1 λp q=>p.1=q.1/\H q.2.1=AA (.tup (p.1.map kV))/\RelV p.2 q.2.2
theorem KT.val {H:Hp}{kvs:List (List Key×V)}{xs:List (List Key×AJ×AH)}(r:KT H kvs xs)(k:List Key):ybv (ybL kvs k) ((atKey xs k).map (·.2)):=by
 induction r with
 |nil=>exact C4
 | @cons p q ps qs h t ih =>
  obtain⟨h1,_,h2⟩:=h
  by_cases e:p.1=k
  .have e':q.1=k:=h1.symm.trans e
   have b:atKey (q::qs) k=AA q.2:=by simp[atKey,Bz,e']
   rw[zbR e,b];exact h2
  .have e':¬q.1=k:=λz=>e (h1.trans z)
   have b:atKey (q::qs) k=atKey qs k:=by simp[atKey,Bz,e']
   rw[zbZ e,b];exact ih
theorem KT.repl {H:Hp}{kvs:List (List Key×V)}{xs:List (List Key×AJ×AH)}(r:KT H kvs xs)(k:List Key){y:V}{u:AH}(ry:RelV y u) :
  KT H (kvs.map λkv=>if kv.1=k then(kv.1,y)else kv) (xs.map (putAt k u)):=by
 induction r with
 |nil=>exact .nil
 | @cons p q ps qs h t ih =>
  rw[AM,AM]
  refine .cons ?_ ih
  obtain⟨h1,h2,h3⟩:=h
  unfold putAt
  by_cases e:p.1=k
  .rw[if_pos e,if_pos (h1.symm.trans e)];exact⟨h1,h2,ry⟩
  .rw[if_neg e,if_neg (λz=>e (h1.trans z))];exact⟨h1,h2,h3⟩
theorem KT.put {H:Hp}{kvs:List (List Key×V)}{xs:List (List Key×AJ×AH)}(r:KT H kvs xs)(k:List Key){b:AJ}{y:V}{u:AH}(hb:H b=AA (.tup (k.map kV)))(ry:RelV y u) :
  KT H (putK kvs k y) (storedH xs k b u):=by
 have e:(kvs.any λkv=>decide (kv.1=k))=(atKey xs k).isSome:=by
  rw[zfW,(r.val k).isSome_eq,Option.isSome_map]
 unfold putK storedH
 rw[e]
 by_cases q:(atKey xs k).isSome=AC
 .rw[if_pos q,if_pos q];exact r.repl k ry
 .rw[if_neg q,if_neg q];exact HC r ⟨rfl,hb,ry⟩
theorem KT.keeps {H H':Hp}{kvs:List (List Key×V)}{xs:List (List Key×AJ×AH)}(r:KT H kvs xs)(ht:∀b ys,H b=AA (.tup ys)->H' b=AA (.tup ys)):KT H' kvs xs :=
 Paired.mapP r λ_ _ z=>⟨z.1,ht _ _ z.2.1,z.2.2⟩
section
variable {P:A4}{w:Af}{H:Hp}{h:BB}{a:AJ}
theorem zoj {u:HO}(ok:HOk P w H h)(e:Rd H a u):yZ P w H h a u:=e.ok ok
theorem zkX {kvs:List (Key×V)}(ok:HOk P w H h)(e:Rd H a (.dK kvs)):kvs.length<=sizeLine/\(a == sysModules)=AD/\∃vs,KV kvs vs/\h.DictOf (yV P w) a vs :=
 show yZ P w H h a (.dK kvs)from zoj ok e
theorem zoD {kvs:List (Key×V)}(ok:HOk P w H h)(e:H a=AA (.dK kvs)):kvs.length<=sizeLine/\(a == sysModules)=AD/\∃vs,KV kvs vs/\h.DictOf (yV P w) a vs:=zkX ok (.inl e)
theorem zhh {ks:List Key}(ok:HOk P w H h)(e:H a=AA (.tup (ks.map kV))):(tupleKind (yV P w)).is h ks a:=by
 obtain⟨_,its,r,o,h1,h2,n,h3⟩:=(show yZ P w H h a (.tup (ks.map kV))from ok a _ e)
 exact⟨o,its.toArray,n,h1,h2,h3,by simpa using zes r⟩
theorem zld {kvs:List (List Key×V)}(ok:HOk P w H h)(e:Rd H a (.dT kvs)):kvs.length<=sizeLine/\(a == sysModules)=AD /\
  ∃xs,KT H kvs xs/\h.DictOfH (tupleKind (yV P w)) a xs:=by
 obtain⟨z,y,xs,r,o,es,ep,h1,h2,h3,h4,h5⟩:=(show yZ P w H h a (.dT kvs)from zoj ok e)
 refine⟨z,y,xs,r,o,es,ep,h1,h2,h3,h4,λx hx=>?_,h5⟩
 have all:∀{l:List (List Key×V)} {m:List (List Key×AJ×AH)},KT H l m->∀x∈m,(tupleKind (yV P w)).is h x.1 x.2.1:=by
  intro l m q
  induction q with
  |nil=>intro x hx;exact nomatch hx
  | @cons p q ps qs hq t ih =>
   intro x hx
   rcases AU.mp hx with e|hx
   .subst e
    exact zhh ok (by rw[<- hq.1];exact hq.2.1)
   .exact ih x hx
 exact all r x hx
theorem zoX {kvs:List (List Key×V)}(ok:HOk P w H h)(e:H a=AA (.dT kvs)):kvs.length<=sizeLine/\(a == sysModules)=AD /\
  ∃xs,KT H kvs xs/\h.DictOfH (tupleKind (yV P w)) a xs:=zld ok (.inl e)
end
def ye8 (H:Hp)(a:AJ)(y:V)(r:Option V):Prop :=
 (∃kvs k,Rd H a (.dK kvs)/\y=kV k/\r=ybL kvs k) \/ ∃kvs k b,Rd H a (.dT kvs)/\y=.ref b/\H b=AA (.tup (k.map kV))/\r=ybL kvs k
def ye1 (H:Hp)(a:AJ)(y v:V)(H':Hp):Prop :=
 (∃kvs k,H a=AA (.dK kvs)/\y=kV k/\kvs.length<sizeLine/\H'=upd H a (.dK (putK kvs k v))) \/
 ∃kvs k b,H a=AA (.dT kvs)/\y=.ref b/\H b=AA (.tup (k.map kV))/\kvs.length<sizeLine/\H'=upd H a (.dT (putK kvs k v))
section
variable {X:Cx}{pins:List (AJ×CB)}{σ:St}{H:Hp}{s:AK}{a:AJ}{y v:V}{u r:AH}{o:Option V}{A:Ar}{E:AH->AK->Prop}
theorem Inv.big (I:Inv X pins σ H s):sysModules<s.heap.objs.size:=by
 have h:mainGlobals<s.heap.objs.size:=(I.mod.glob.keeps I.bk).lt
 exact Nat.lt_trans (by decide) h
theorem zhK {h':BB}{t':Nat}{ob:HO}(I:Inv X pins σ H s)(mu:Mut (H a))(hs:C3 a s.heap h')(he:∃q,h'.get? a=AA q)(new:yZ X.prog X.w (upd H a ob) h' a ob) :
  Inv X pins σ (upd H a ob) { s with heap:=h',toks:=t' } :=
 I.write (x:=a) (e:=a) mu (.inl rfl) (λb q hb z=>(hs.2 b hb).trans z) he new
theorem zm8 {P:A4}{w:Af}{H':Hp}{h':BB}{kvs:List (Key×V)}{vs:List (Key×AH)}(z:kvs.length<=sizeLine)(hd:(a == sysModules)=AD)(rel:KV kvs vs)(dd:h'.DictOf (yV P w) a vs) :
  yZ P w H' h' a (.dK kvs):=⟨z,hd,vs,rel,dd⟩
theorem zhc {H':Hp}{Q:Unit->AK->Prop}(hu:A.units+1<cLine)(I:Inv X pins σ H s)(g:ye1 H a y v H')(ry:RelV y u)(rv:RelV v r)(h:∀s',Inv X pins σ H' s'->Q () s') :
  AZ (model X.prog X.w) A (setItem (.ref a) u r) Q E s:=by
 rcases g with⟨kvs,k,e,ey,l,eH⟩|⟨kvs,k,b,e,ey,eb,l,eH⟩
 .subst ey eH
  obtain⟨z,hd,vs,rel,dd⟩:=zoD I.hok e
  have hz:vs.length<=sizeLine:=by rw[<- rel.length];exact z
  have hl:(putK kvs k v).length<=sizeLine:=by have:=zc4 kvs k v;omega
  refine wpAny_setItem_pairs (hsz:=hz) (zlo ry) dd λh' dd' hs=>h _ ?_
  have he:∃q,h'.get? a=AA q:=let ⟨q,_,_,hq,_⟩:=dd';⟨q,hq⟩
  exact zhK I (by rw[e];exact C4) hs he (zm8 hl hd (rel.put k rv) dd')
 .subst ey eH
  cases (show u=Ae b from ry)
  obtain⟨z,hd,xs,rel,dd⟩:=zoX I.hok e
  have hz:xs.length<=sizeLine:=by rw[<- EX rel];exact z
  have hl:(putK kvs k v).length<=sizeLine:=by have:=zc4 kvs k v;omega
  refine wpAny_setItem_heap (hsz:=hz) (Fa hu) (zhh I.hok eb) dd λh' dd' hs=>h _ ?_
  obtain⟨q,es,ep,hq,h2,h3,h4,_,h5⟩:=dd'
  refine zhK I (by rw[e];exact C4) hs ⟨q,hq⟩ ⟨hl,hd,_,(rel.put k eb rv).keeps λc ys ec=>?_,q,es,ep,hq,h2,h3,h4,h5⟩
  rw[zj (zoR ec e (λz=>nomatch z))]
  exact ec
end
section
variable {X:Cx}{pins:List (AJ×CB)}{σ:St}{H:Hp}{s:AK}{a:AJ}{kvs:List (Key×V)}{k:Key}{u:AH}{A:Ar}{E:AH->AK->Prop}
end
def yc7 (i:AV):Prop:=∀ov iv,subscripted i AD ov iv=operate [ov,iv] (getItem ov iv)
theorem zgG {prog:A4}{w:Af}{A:Ar}{E:AH->AK->Prop}{s:AK}{env:Env}{value slice:AV}{pos:CT}{T id:String}{Q:AH->AK->Prop}
  (hl:typeLookup (.type T) "__getitem__"=pure (AA (.builtin id))) (hs:yc7 slice)
  (h:AZ (model prog w) A (eval value env) (λo s₁=>AZ (model prog w) A (eval slice env) (λi s₂=>s₂.TypeIs o T/\AZ (model prog w) A (getItem o i) Q E s₂) E s₁) E s) :
  AZ (model prog w) A (eval (.Subscript value slice pos) env) Q E s:=by
 refine F8 (CU h (λo s₁ h₁=>CU h₁ (λi s₂ h₂=>?_) λ_ _ x=>x) λ_ _ x=>x)
 obtain⟨hT,h₂⟩:=h₂
 unfold subscriptTail
 refine AI ?_
 rw[getitemInPython_of_ne hT.not_modules]
 refine AI (wpAny_specialOf hT hl ?_)
 have fin:AZ (model prog w) A (subscripted slice AD o i) (λr s₃=>AZ (model prog w) A (letTemporaryGo value o r >>= λ_=>pure r) Q E s₃) E s₂:=by
  rw[hs o i]
  exact wpAny_operating (CU h₂ (λr s₃ h₃=>AI (wpAny_letTemporaryGo (AQ h₃))) λ_ _ x=>x)
 first
  | exact AQ (AI fin)
  | exact AI (AQ (AI fin))
  | exact AI fin
def yeD (td ty tv:TE):TS:=λD σ H=>tv σ H λv H1=>td σ H1 λx H2=>ty σ H2 λy H3=>∃a H4,x=.ref a/\ye1 H3 a y v H4/\D.nx σ H4
section
variable {X:Cx}{o i e value:AV}{pos pos' tpos:CT}{td ty tv:TE}
theorem zkK (hu:X.A.units+1<cLine)(ho:PE X o td)(hi:PE X i ty)(hv:PE X value tv)(hs:swapsWith value (AA (.Subscript o i pos')) pos.line X.env=pure AD) :
  PS X (.Assign [.Subscript o i pos'] value pos) (yeD td ty tv):=by
 intro pins s σ H D I h
 refine wpAny_Assign_Subscript (thn (hv pins s σ H _ I h) λr s1 ⟨v,H1,I1,rv,q1⟩=>thn (ho pins s1 σ H1 _ I1 q1) λu s2 ⟨x,H2,I2,rx,q2⟩=>thn (hi pins s2 σ H2 _ I2 q2) λiv s3 ⟨y,H3,I3,ry,a,H4,ex,g,q3⟩=>?_) hs
 subst ex
 obtain rfl:u=Ae a:=rx
 exact zhc hu I3 g ry rv λs4 I4=>⟨σ,H4,I4,q3⟩
end
theorem zjF {P:A4}{w:Af}{H:Hp}(h:BB)(hb:sysModules<h.objs.size):yZ P w H (h.push { cls:=.type "dict",data:=.dict #[] }) h.objs.size (.dT []) :=
 ⟨DD _,beq_eq_false_iff_ne.mpr (BG (An hb)),[],.nil,_,#[],0,A2 _ rfl,⟨rfl,rfl,rfl⟩,rfl,rfl,List.nodup_nil⟩
def ydm:TE:=λ_ H Q=>∀p,H p=AE->Q (.ref p) (upd H p (.dT []))
section
variable {X:Cx}{pos:CT}
theorem yct:PE X (.Dict [] [] pos) ydm:=λpins s σ H Q I h =>
 wpAny_Dict_empty ⟨.ref s.heap.objs.size,_,I.laid (a:=s.heap.objs.size) (o:=.dT []) (t':=s.toks) (λ_ _ q=>AN _ q) (AT _) (zjF s.heap I.big),rfl,h _ (I.hok.fresh (AT _))⟩
end
structure M2 (X:Cx)(o:AV)(m:AR)(apos:CT)(e f:AV)(cpos:CT):Prop where
 base:attributeBase o m X.env (eval o X.env)=eval o X.env
 few:((backTo cpos (starEach [e,f] X.env)).all (λx=>!x.1) && (backToKw cpos (keywordEach [] X.env)).all (λx=>x.1.isSome)
  && decide (([e,f]:List AV).length+([]:List CW).length+(if ([]:List CW).isEmpty then 0 else 1)<30))=AC
 line:(apos.endLine == cpos.line)=AC
 trees:backTo cpos (starEach [e,f] X.env)=[(AD,eval e X.env),(AD,eval f X.env)]
def IsD (H:Hp)(a:AJ):Prop:=(∃kvs,Rd H a (.dK kvs)) \/ ∃kvs,Rd H a (.dT kvs)
theorem zmr {X:Cx}{pins:List (AJ×CB)}{σ:St}{H:Hp}{s:AK}{a:AJ}(I:Inv X pins σ H s)(d:IsD H a) :
  s.TypeIs (.ref a) "dict"/\(∀b,Ae a=.ref b->∃ob,s.heap.get? b=AA ob/\ob.dict=AE)/\(a == sysModules)=false:=by
 rcases d with⟨kvs,e⟩|⟨kvs,e⟩
 .obtain⟨_,hd,vs,_,dd⟩:=zkX I.hok e
  refine⟨dd.typeIs,λb q=>?_,hd⟩
  cases q
  obtain⟨ob,_,_,h1,h2,_⟩:=dd
  exact⟨ob,h1,h2.2.1⟩
 .obtain⟨_,hd,xs,_,dd⟩:=zld I.hok e
  refine⟨dd.typeIs,λb q=>?_,hd⟩
  cases q
  obtain⟨ob,_,_,h1,h2,_⟩:=dd
  exact⟨ob,h1,h2.2.1⟩
section
variable {X:Cx}{pins:List (AJ×CB)}{σ:St}{H:Hp}{s:AK}{a:AJ}{y d:V}{u r:AH}{o:Option V}{A:Ar}{E:AH->AK->Prop}
theorem zok {Q:AH->AK->Prop}(hu:A.units+1<cLine)(I:Inv X pins σ H s)(g:ye8 H a y o)(ry:RelV y u)(rd:RelV d r)(h:∀w' s',Inv X pins σ H s'->RelV (o.getD d) w'->Q w' s') :
  AZ (model X.prog X.w) A (call (.builtin "dict.get") [.ref a,u,r]) Q E s:=by
 rcases g with⟨kvs,k,e,ey,l⟩|⟨kvs,k,b,e,ey,eb,l⟩
 .subst ey
  obtain⟨z,hd,vs,rel,dd⟩:=zkX I.hok e
  refine call_meetsIn DV dd.typeIs En (Eb _ _ _) (meets_dict_get_default (yV X.prog X.w) a (zlo ry) hd r) ⟨_,dd.mapOf,h _ _ (I.tok _) ?_⟩
  rw[l]
  exact(rel.val k).getD rd
 .subst ey
  cases (show u=Ae b from ry)
  obtain⟨z,hd,xs,rel,dd⟩:=zld I.hok e
  refine call_meetsIn DV dd.typeIs En (Eb _ _ _) (meetsH_dict_get_default (tupleKind (yV X.prog X.w)) a b hd r) ⟨Fa hu,k,xs,zhh I.hok eb,dd,h _ _ (I.tok _) ?_⟩
  rw[l]
  exact(rel.val k).getD rd
end
def ydl (td ty tx:TE):TE:=λσ H Q=>td σ H λx H1=>∃a,x=.ref a/\IsD H1 a/\ty σ H1 λy H2=>tx σ H2 λz H3=>∃o,ye8 H3 a y o/\Q (o.getD z) H3
section
variable {X:Cx}{o e f:AV}{apos cpos:CT}{td ty tx:TE}
theorem zi6 (hu:X.A.units+1<cLine)(ho:PE X o td)(he:PE X e ty)(hf:PE X f tx)(m:M2 X o "get" apos e f cpos):PE X (.Call (.Attribute o "get" apos) [e,f] [] cpos) (ydl td ty tx):=by
 intro pins s σ H Q I h
 refine wpAny_Call_method m.base m.few m.line PySem.F.plainAttrs_dict DV PySem.F.type_dict_get (thn (ho pins s σ H _ I h) λu s1 ⟨x,H1,I1,rx,a,ex,d,q1⟩=>?_)
 subst ex
 obtain rfl:u=Ae a:=rx
 obtain⟨t1,t2,_⟩:=zmr I1 d
 refine⟨t1,t2,?_⟩
 rw[m.trees]
 refine Em rfl (FE (Dz (thn (he pins s1 σ H1 _ I1 q1) λiv s2 ⟨y,H2,I2,ry,q2⟩ =>
  Dz (thn (hf pins s2 σ H2 _ I2 q2) λfv s3 ⟨z,H3,I3,rz,ov,g,q3⟩=>Fj ?_))))
 exact zok hu I3 g ry rz λw' s4 I4 rw'=>⟨_,H3,I4,rw',q3⟩
end
section
variable {X:Cx}{pins:List (AJ×CB)}{σ:St}{H:Hp}{s:AK}{a:AJ}{kvs:List (Key×V)}{A:Ar}{E:AH->AK->Prop}
end
section
variable {X:Cx}{pins:List (AJ×CB)}{σ:St}{H:Hp}{s:AK}{a:AJ}{y:V}{u:AH}{A:Ar}{E:AH->AK->Prop}
end
end L2
namespace IC
open PySem
inductive PV where
 | non|bl (b:Bool)|int (i:Int)|str (x:AR)|tp (k:Bool) (xs:List PV)|lst (xs:List PV)|loc (n:Nat)|exn (c:Nat)|scr (xs:List PV)
deriving Inhabited
noncomputable abbrev PV.tup (xs:List PV):PV:=.tp AD xs
mutual
noncomputable def noLoc:PV->Bool
 | .loc _=>AD
 | .exn _=>AD
 | .tp _ xs=>noLocs xs
 | .lst xs=>noLocs xs
 | .scr xs=>noLocs xs
 |_=>AC
noncomputable def noLocs:List PV->Bool
 | []=>AC
 |x::xs=>noLoc x && noLocs xs
end
mutual
noncomputable def shd (n:Nat):PV->Bool
 | .non=>AC
 | .bl _=>AC
 | .int _=>AC
 | .str x=>x.cps.all (· < 0x110000)
 | .tp _ xs=>decide (0<n) && ybM (n - 1) xs
 | .lst xs=>decide (0<n) && ybM (n - 1) xs
 |_=>AD
noncomputable def ybM (n:Nat):List PV->Bool
 | []=>AC
 |x::xs=>shd n x && ybM n xs
end
abbrev shp (v:PV):Bool:=shd 60 v
noncomputable def flat:PV->Bool
 | .non=>AC
 | .bl _=>AC
 | .int _=>AC
 | .str _=>AC
 |_=>AD
noncomputable def bi (b:Bool):Int:=if b then 1 else 0
mutual
noncomputable def peq:PV->PV->Bool
 | .non,.non=>AC
 | .bl a,.bl b=>a == b
 | .bl a,.int j=>bi a == j
 | .int i,.bl b=>i == bi b
 | .int i,.int j=>i == j
 | .str x,.str y=>x == y
 | .tp _ xs,.tp _ ys=>ybu xs ys
 | .lst xs,.lst ys=>ybu xs ys
 |_,_=>AD
noncomputable def ybu:List PV->List PV->Bool
 | [],[]=>AC
 |x::xs,y::ys=>peq x y && ybu xs ys
 |_,_=>AD
end
inductive Ob where
 | lst (xs:List PV)|dct (t:Bool) (kvs:List (PV×PV))|dead|ins (c:Nat) (fs:List (AR×PV))
noncomputable abbrev Env:=List (Option PV)
noncomputable abbrev Store:=List Ob
inductive R (α:Type) where
 | ok (a:α) (st:Store)|exc (c:Nat) (st:Store)|bad
noncomputable def R.bind {α β:Type}(r:R α)(k:α->Store->R β):R β :=
 match r with
 | .ok a st=>k a st
 | .exc c st=>.exc c st
 | .bad=>.bad
inductive BOp where
 | add|sub|mul|fdiv|mod|pow|shl|shr|band|bor|bxor
inductive COp where
 | eq|ne|lt|le|gt|ge|is|isnot|isin|notin
inductive Ty where
 | int|bool|str|tuple|list|cls (c:Nat)|val
inductive Blt where
 | len|int|abs|min|max|tuple|list|all|sum|dict|rev|str|any
inductive Mth where
 | append|extend|get|bits|upper|insert|count|index|join|split|sidx|clear
inductive Tg where
 | n (i:Nat)|t (l:List Nat)
set_option genInjectivity false
mutual
inductive Ce where
 | cst (v:PV)
 | var (i:Nat)
 | bin (o:BOp) (a b:Ce)
 | neg (a:Ce)
 | not (a:Ce)
 | and (a b:Ce)
 | or (a b:Ce)
 | cmp (o:COp) (a b:Ce)
 | chain (o p:COp) (a b c:Ce)
 | ite (c a b:Ce)
 | tup (es:Ces)
 | lst (es:Ces)
 | newl (es:Ces)
 | dict0 (t:Bool)
 | idx (a i:Ce)
 | slc (a:Ce) (lo hi:Ce)
 | call (f:Nat) (args:Ces)
 | blt (b:Blt) (args:Ces)
 | mth (m:Mth) (o:Ce) (args:Ces)
 | isi (a:Ce) (t:List Ty)
 | comp (sl:List (Option Nat)) (tg:Tg) (it:Cit) (c:Ce) (e:Ce)
 | frz (a:Ce)
 | nope
 | dix (D:List (AR×PV)) (a:Ce)
 | din (a:Ce) (D:List (AR×PV))
 | fld (c:Nat) (a:Ce) (f:AR)
 | new (c i:Nat) (es:Ces)
 | mcl (c i:Nat) (m:AR) (o:Ce) (es:Ces)
inductive Ces where
 | nil
 | cons (e:Ce) (es:Ces)
inductive Cit where
 | seq (e:Ce)
 | range1 (a:Ce)
 | range2 (a b:Ce)
 | rangeD (a b:Ce)
 | enum (e:Ce)
 | zip (a b:Ce)
 | revl (e:Ce)
 | revr (a:Ce)
 | chars (e:Ce)
end
set_option genInjectivity true
abbrev Ce.i (n:Int):Ce:=.cst (.int n)
abbrev Ce.s (x:AR):Ce:=.cst (.str x)
abbrev Ce.v:=Ce.var
abbrev Ces.k:=Ces.cons
abbrev Ces.e:=Ces.nil
mutual
inductive Cs where
 | expr (e:Ce)
 | asg (t:Tg) (e:Ce)
 | six (o i e:Ce)
 | dput (o i e:Ce)
 | aug (i:Nat) (o:BOp) (e:Ce)
 | ret (e:Ce)
 | ite (c:Ce) (a b:Css)
 | for (t:Tg) (it:Cit) (b:Css)
 | while (c:Ce) (b:Css)
 | nope
 | sfl (c:Nat) (o:Ce) (f:AR) (e:Ce)
 | mkr (i:Nat) (D:List (AR×Nat)) (n:Ce) (es:Ces)
inductive Css where
 | nil
 | cons (s:Cs) (ss:Css)
end
abbrev Css.k:=Css.cons
abbrev Css.e:=Css.nil
noncomputable def yaA (i j:Int):Bool:=(decide (i.natAbs<18446744073709551616)) || (decide (j.natAbs<18446744073709551616))
def binI (o:BOp)(i j:Int):Option PV :=
 match o with
 | .add=>AA (.int (i+j))
 | .sub=>AA (.int (i - j))
 | .mul=>if yaA i j then AA (.int (i*j))else AE
 | .fdiv=>if 0<j/\j<10000000000000000000000000000000000000000000000000000000000000000000000 then AA (.int (i / j))else AE
 | .mod=>if 0<j then AA (.int (i%j))else AE
 | .pow=>if 0<=j/\j<=1000000/\i.natAbs<18446744073709551616 then AA (.int (i^j.toNat))else AE
 | .shl=>if 0<=j/\j<=1000000/\i.natAbs<18446744073709551616 then AA (.int (i*2^j.toNat))else AE
 | .shr=>if 0<=j then AA (.int (i / 2^j.toNat))else AE
 | .band=>AA (.int (BS i j))
 | .bor=>AA (.int (Bj i j))
 | .bxor=>AA (.int (Bl i j))
noncomputable def sizeMax:Nat:=16777216
noncomputable def yeI (k:Bool)(a:List PV)(j:Bool)(b:List PV):PV:=if a.isEmpty then .tp j b else if b.isEmpty then .tp k a else .tup (a++b)
def yx (o:BOp)(x y:PV):Option PV :=
 match x,y with
 | .int i,.int j=>binI o i j
 | .int i,.bl b=>match o with
  | .add=>AA (.int (i+bi b))
  |_=>AE
 | .str a,.str b=>match o with
  | .add=>if a.length+b.length<=sizeMax then AA (.str (a++b))else AE
  |_=>AE
 | .tp k a,.tp j b=>match o with
  | .add=>if a.length+b.length<=sizeMax then AA (yeI k a j b)else AE
  |_=>AE
 | .lst a,.lst b=>match o with
  | .add=>if a.length+b.length<=sizeMax then AA (.lst (a++b))else AE
  |_=>AE
 |_,_=>AE
def ybY (o:BOp)(x y:PV):Option PV :=
 match x,y with
 | .int i,.int j=>binI o i j
 |_,_=>AE
noncomputable def isNon:PV->Bool
 | .non=>AC
 |_=>AD
def inL (x:PV):List PV->Bool
 | []=>AD
 |y::ys=>peq y x || inL x ys
noncomputable def inS (a b:AR):Bool:=(C2 (b.length+1)).any λi=>decide (i+a.length<=b.length) && (b.cps.extract i (i+a.length) == a.cps)
noncomputable def ybG (o:COp)(i j:Int):Option PV :=
 match o with
 | .lt=>AA (.bl (decide (i<j)))
 | .le=>AA (.bl (decide (i<=j)))
 | .gt=>AA (.bl (decide (j<i)))
 | .ge=>AA (.bl (decide (j<=i)))
 |_=>AE
noncomputable def yeh (o:COp)(a b:AR):Option PV :=
 match o with
 | .lt=>AA (.bl (decide (a.cps.toList<b.cps.toList)))
 | .le=>AA (.bl (!decide (b.cps.toList<a.cps.toList)))
 |_=>AE
def yE (o:COp)(x y:PV):Option PV :=
 match o with
 | .eq=>if shp x && shp y then AA (.bl (peq x y))else AE
 | .ne=>if shp x && shp y then AA (.bl (!peq x y))else AE
 | .is=>match y with
  | .non=>AA (.bl (isNon x))
  | .bl b=>match x with
   | .bl a=>AA (.bl (a == b))
   |_=>AE
  |_=>AE
 | .isnot=>match y with
  | .non=>AA (.bl (!isNon x))
  | .bl b=>match x with
   | .bl a=>AA (.bl (!(a == b)))
   |_=>AE
  |_=>AE
 | .isin=>match x,y with
  | .str a,.str b=>AA (.bl (inS a b))
  |x,.tp _ l=>if flat x && l.all flat then AA (.bl (inL x l))else AE
  |x,.lst l=>if flat x && l.all flat then AA (.bl (inL x l))else AE
  |_,_=>AE
 | .notin=>match x,y with
  | .str a,.str b=>AA (.bl (!inS a b))
  |x,.tp _ l=>if flat x && l.all flat then AA (.bl (!inL x l))else AE
  |x,.lst l=>if flat x && l.all flat then AA (.bl (!inL x l))else AE
  |_,_=>AE
 |o=>match x,y with
  | .int i,.int j=>ybG o i j
  | .str a,.str b=>yeh o a b
  |_,_=>AE
def yaP (st:Store)(x:PV):Option Bool :=
 match x with
 | .non=>AA AD
 | .bl b=>AA b
 | .int i=>AA (i != 0)
 | .str y=>if y.length<=sizeMax then AA ((y.length:Int) != 0)else AE
 | .tp _ xs=>AA (!xs.isEmpty)
 | .lst xs=>AA (!xs.isEmpty)
 | .loc n=>match st[n]? with
  |some (.lst xs)=>AA (!xs.isEmpty)
  |_=>AE
 |_=>AE
noncomputable def ixI (n:Nat)(i:Int):Option Nat:=if 0<=i then(if i<n then AA i.toNat else AE)else if -(n:Int)<=i then AA (i+n).toNat else AE
def at? {α:Type}(xs:List α)(i:Int):Option α:=(ixI xs.length i).bind λj=>xs[j]?
def look (k:PV):List (PV×PV)->Option PV
 | []=>AE
 | (a,b)::r=>if peq a k then AA b else look k r
def put (k v:PV)(kvs:List (PV×PV)):List (PV×PV) :=
 if (kvs.any λp=>peq p.1 k)=AC then kvs.map (λp=>if peq p.1 k=AC then(p.1,v)else p)else kvs++[(k,v)]
noncomputable def ybQ:PV->Bool
 | .int _=>AC
 | .str _=>AC
 |_=>AD
def isKey (t:Bool)(k:PV):Bool :=
 match t with
 |false=>ybQ k
 |true=>match k with
  | .tp AD xs=>xs.all ybQ
  |_=>AD
noncomputable def yba {α:Type}(xs:List α)(i:PV):Option α :=
 match i with
 | .int k=>at? xs k
 |_=>AE
def idxV (st:Store)(x i:PV):Option PV :=
 match x with
 | .tp _ xs=>yba xs i
 | .lst xs=>yba xs i
 | .str s=>if s.length<=sizeMax then(yba s.cps.toList i).map λc=>.str ⟨#[c]⟩else AE
 | .loc n=>match st[n]? with
  |some (.lst xs)=>yba xs i
  |_=>AE
 |_=>AE
noncomputable def ybo (n:Nat)(v:Int):Nat:=if v<0 then(v+(n:Int)).toNat else min v.toNat n
def ycS (n:Nat)(lo:Option Int):Nat :=
 match lo with
 |none=>0
 |some i=>ybo n i
def yc6 (n:Nat)(hi:Option Int):Nat :=
 match hi with
 |none=>n
 |some i=>ybo n i
def cut {α:Type}(xs:List α)(lo hi:Option Int):List α:=(xs.drop (ycS xs.length lo)).take (yc6 xs.length hi - ycS xs.length lo)
noncomputable def yb1:PV->Option (Option Int)
 | .non=>AA AE
 | .int i=>AA (AA i)
 |_=>AE
def ycA (x:PV)(a b:Option Int):Option PV :=
 match x with
 | .tp k xs=>if ycS xs.length a=0/\yc6 xs.length b=xs.length then AA (.tp k xs)else AA (.tup (cut xs a b))
 | .str s=>if s.length<=sizeMax then AA (.str ⟨(cut s.cps.toList a b).toArray⟩)else AE
 | .lst xs=>AA (.lst (cut xs a b))
 | .scr xs=>AA (.lst (cut xs a b))
 |_=>AE
def ycm (x:PV)(a:Option Int)(hi:PV):Option PV :=
 match yb1 hi with
 |some b=>ycA x a b
 |none=>AE
noncomputable def ybA (x:PV)(t:Ty):Bool :=
 match x,t with
 | .int _,.int=>AC
 | .bl _,.int=>AC
 | .bl _,.bool=>AC
 | .str _,.str=>AC
 | .tp _ _,.tuple=>AC
 | .lst _,.list=>AC
 | .exn c,.cls d=>c == d
 | .exn _,.val=>AC
 |_,_=>AD
noncomputable def ydb:Ty->Bool
 | .cls _=>AD
 | .val=>AD
 |_=>AC
def ya0 (x:PV)(ts:List Ty):Option PV :=
 match x with
 | .loc _=>AE
 | .scr _=>AE
 | .exn c=>if ts.all ydb then AE else AA (.bl (ts.any (ybA (.exn c))))
 |x=>match ts with
  | [t]=>if ydb t then AA (.bl (ybA x t))else AE
  |_=>AE
noncomputable def allB:List PV->Option Bool
 | []=>AA AC
 | .bl b::r=>match allB r with
  |some c=>AA (b && c)
  |none=>AE
 |_::_=>AE
noncomputable def ycB:List PV->Option Int
 | []=>AA 0
 | .int i::r=>match ycB r with
  |some c=>AA (i+c)
  |none=>AE
 |_::_=>AE
noncomputable def ydN:List PV->Option Int
 | []=>AE
 | [.int i]=>AA i
 | .int i::r=>match ydN r with
  |some c=>AA (if i<c then c else i)
  |none=>AE
 |_::_=>AE
noncomputable def yb9 (st:Store):PV->Option (List PV)
 | .tp _ xs=>AA xs
 | .lst xs=>AA xs
 | .loc n=>match st[n]? with
  |some (.lst xs)=>AA xs
  |_=>AE
 |_=>AE
noncomputable def yaa (st:Store):PV->Option (List PV)
 | .lst xs=>AA xs
 | .loc n=>match st[n]? with
  |some (.lst xs)=>AA xs
  |_=>AE
 |_=>AE
def lenV (st:Store)(x:PV):Option PV :=
 match x with
 | .str s=>if s.length<=sizeMax then AA (.int s.length)else AE
 |x=>(yb9 st x).map λxs=>.int xs.length
def ygR (x:PV):Option PV :=
 match x with
 | .int i=>AA (.int i)
 | .bl k=>AA (.int (bi k))
 |_=>AE
noncomputable def yej (x:PV):Option PV :=
 match x with
 | .int i=>AA (.int (if i<0 then -i else i))
 |_=>AE
noncomputable def yfS (x y:PV):Option PV :=
 match x,y with
 | .int i,.int j=>AA (.int (if j<i then j else i))
 |_,_=>AE
noncomputable def maxV (x y:PV):Option PV :=
 match x,y with
 | .int i,.int j=>AA (.int (if i<j then j else i))
 |_,_=>AE
def yea (st:Store)(x:PV):Option PV :=
 match x with
 | .tp k xs=>AA (.tp k xs)
 |x=>(yaa st x).map .tup
noncomputable def yeO:PV->Option PV
 | .tp _ xs=>if xs.isEmpty then AE else AA (.tup xs.reverse)
 | .lst xs=>AA (.lst xs.reverse)
 |_=>AE
noncomputable def anyB:List PV->Option Bool
 | []=>AA AD
 | .bl b::r=>match anyB r with
  |some c=>AA (b || c)
  |none=>AE
 |_=>AE
noncomputable def anyI:List PV->Option Bool
 | []=>AA AD
 | .int i::r=>match anyI r with
  |some c=>AA ((i != 0) || c)
  |none=>AE
 |_=>AE
noncomputable def ygB:PV->Option PV
 | .int i=>if i=0 then AA (.str "0")else if i=1 then AA (.str "1")else AE
 |_=>AE
def yay (b:Blt)(st:Store)(vs:List PV):Option PV :=
 match vs with
 | [x]=>match b with
  | .len=>lenV st x
  | .int=>ygR x
  | .abs=>yej x
  | .max=>(yaa st x).bind λxs=>(ydN xs).map .int
  | .tuple=>yea st x
  | .list=>(yb9 st x).map .lst
  | .all=>(yaa st x).bind λxs=>(allB xs).map .bl
  | .sum=>(yaa st x).bind λxs=>(ycB xs).map .int
  | .rev=>yeO x
  | .str=>ygB x
  | .any=>match x with
   | .tp _ xs=>(anyI xs).map .bl
   |x=>(yaa st x).bind λxs=>(anyB xs).map .bl
  |_=>AE
 | [x,y]=>match b with
  | .min=>yfS x y
  | .max=>maxV x y
  |_=>AE
 |_=>AE
noncomputable def ybf (st:Store):PV->Option (Bool×List (PV×PV))
 | .loc n=>match st[n]? with
  |some (.dct t xs)=>AA (t,xs)
  |_=>AE
 |_=>AE
def yaO (m:Mth)(st:Store)(x:PV):Option Bool :=
 match m with
 | .append=>(yaa st x).map λ_=>AC
 | .extend=>(yaa st x).map λ_=>AC
 | .insert=>(yaa st x).map λ_=>AC
 | .count=>(yaa st x).map λ_=>AC
 | .index=>(yaa st x).map λ_=>AC
 | .get=>(ybf st x).map λ_=>AC
 | .bits=>match x with
  | .int _=>AA AC
  |_=>AE
 | .upper=>match x with
  | .str _=>AA AC
  |_=>AE
 | .join=>match x with
  | .str _=>AA AC
  |_=>AE
 | .split=>match x with
  | .str _=>AA AC
  |_=>AE
 | .sidx=>match x with
  | .str _=>AA AC
  |_=>AE
 | .clear=>match x with
  | .loc n=>(yaa st (.loc n)).map λ_=>AC
  |_=>AE
noncomputable def ydZ (st:Store)(o v:PV):R PV :=
 match o with
 | .loc n=>match st[n]? with
  |some (.lst xs)=>if xs.length<1000000 then .ok .non (st.set n (.lst (xs++[v])))else .bad
  |_=>.bad
 |_=>.bad
noncomputable def yfP (st:Store)(o v:PV):R PV :=
 match o with
 | .loc n=>match st[n]? with
  |some (.lst xs)=>match v with
   | .lst ys=>if xs.length+ys.length<=1000000 then .ok .non (st.set n (.lst (xs++ys)))else .bad
   |_=>.bad
  |_=>.bad
 |_=>.bad
noncomputable def yfX (st:Store)(o i v:PV):R PV :=
 match o with
 | .loc n=>match st[n]? with
  |some (.lst xs)=>match i with
   | .int k=>if 0<=k/\k<=xs.length/\xs.length<1000000 then .ok .non (st.set n (.lst (xs.take k.toNat++v::xs.drop k.toNat)))else .bad
   |_=>.bad
  |_=>.bad
 |_=>.bad
def yd1 (st:Store)(o k d:PV):R PV :=
 match ybf st o with
 |some (t,kvs)=>if isKey t k then .ok ((look k kvs).getD d) st else .bad
 |none=>.bad
def yf6 (st:Store)(o v:PV):R PV :=
 match yaa st o with
 |some xs=>if flat v && xs.all flat then .ok (.int (xs.countP λy=>peq y v)) st else .bad
 |none=>.bad
def ydM (v:PV):List PV->Option Nat
 | []=>AE
 |y::ys=>if peq y v then AA 0 else(ydM v ys).map (·+1)
def ygX (st:Store)(o v:PV):R PV :=
 match yaa st o with
 |some xs=>if flat v && xs.all flat then(match ydM v xs with
  |some j=>.ok (.int j) st
  |none=>.bad)else .bad
 |none=>.bad
noncomputable def upC (c:Nat):Nat:=if 97<=c/\c<=122 then c - 32 else c
def upS (s:AR):Str:=⟨(s.cps.toList.map upC).toArray⟩
noncomputable def ycd (c:Nat):List Nat->List (List Nat)
 | []=>[[]]
 |x::xs=>if x=c then []::ycd c xs else match ycd c xs with
  | []=>[[x]]
  |p::ps=>(x::p)::ps
noncomputable def strsOf:List PV->Option (List AR)
 | []=>AA []
 | .str s::r=>(strsOf r).map (s :: ·)
 |_=>AE
def yef (st:Store)(o v:PV):R PV :=
 match o,yaa st v with
 | .str s,AA xs=>match strsOf xs with
  |some ys=>if s.length<=10/\xs.length<=1000/\(ys.all λy=>decide (y.length<=1000))=AC then .ok (.str (Str.join s ys)) st else .bad
  |none=>.bad
 |_,_=>.bad
noncomputable def ygM (st:Store)(o:PV):R PV :=
 match o with
 | .loc n=>match st[n]? with
  |some (.lst _)=>.ok .non (st.set n (.lst []))
  |_=>.bad
 |_=>.bad
noncomputable def yep (st:Store)(o v:PV):R PV :=
 match o,v with
 | .str s,.str y=>if s=AF "01" then(if y=AF "0" then .ok (.int 0) st else if y=AF "1" then .ok (.int 1) st else .bad)else .bad
 |_,_=>.bad
def ydf (st:Store)(o v:PV):R PV :=
 match o,v with
 | .str s,.str y=>match y.cps.toList with
  | [c]=>if s.length<=100000 then .ok (.lst ((ycd c s.cps.toList).map λl=>.str ⟨l.toArray⟩)) st else .bad
  |_=>.bad
 |_,_=>.bad
def ycu (m:Mth)(st:Store)(o:PV)(vs:List PV):R PV :=
 match m,vs with
 | .append,[v]=>ydZ st o v
 | .extend,[v]=>yfP st o v
 | .insert,[i,v]=>yfX st o i v
 | .get,[k,d]=>yd1 st o k d
 | .count,[v]=>yf6 st o v
 | .index,[v]=>ygX st o v
 | .join,[v]=>yef st o v
 | .split,[v]=>ydf st o v
 | .sidx,[v]=>yep st o v
 | .clear,[]=>ygM st o
 | .bits,[]=>match o with
  | .int i=>.ok (.int (Builtin.Int.intBits i)) st
  |_=>.bad
 | .upper,[]=>match o with
  | .str s=>if s.cps.toList.all (· < 128)/\s.length<=1000000 then .ok (.str (upS s)) st else .bad
  |_=>.bad
 |_,_=>.bad
noncomputable def toR (o:Option PV)(st:Store):R PV :=
 match o with
 |some v=>.ok v st
 |none=>.bad
noncomputable def yM (t:Tg)(v:PV)(ρ:Env):Option Env :=
 match t,v with
 | .n i,v=>AA (ρ.set i (AA v))
 | .t l,.tp _ xs=>if l.length=xs.length then AA ((l.zip xs).foldl (λρ p=>ρ.set p.1 (AA p.2)) ρ)else AE
 |_,_=>AE
noncomputable def yD:Nat->List PV->List PV
 |_,[]=>[]
 |k,x::xs=>.tup [.int k,x]::yD (k+1) xs
noncomputable def yaY:List PV->List PV->List PV
 |x::xs,y::ys=>.tup [x,y]::yaY xs ys
 |_,_=>[]
noncomputable def yg4:PV->Option (List PV)
 | .tp _ xs=>AA xs.reverse
 | .lst xs=>AA xs.reverse
 |_=>AE
noncomputable def yds:PV->Option (List PV)
 | .str s=>if s.length<=1000000 then AA (s.cps.toList.map λc=>.str ⟨#[c]⟩)else AE
 |_=>AE
def ydU (x y:PV):Option (List PV) :=
 match x,y with
 | .tp _ xs,.tp _ ys=>if xs.length<=ys.length then AA (yaY xs ys)else AE
 |_,_=>AE
noncomputable def yaV (s:AR):List (AR×PV)->Option PV
 | []=>AE
 | (a,b)::r=>if decide (a=s)then AA b else yaV s r
def ycx (D:List (AR×PV))(x:PV):Option PV :=
 match x with
 | .str s=>yaV s D
 |_=>AE
def ycs (D:List (AR×PV))(x:PV):Option PV :=
 match x with
 | .str s=>AA (.bl (yaV s D).isSome)
 |_=>AE
noncomputable def yo:Nat->Int->Int->List PV
 |0,_,_=>[]
 |n+1,a,d=>.int a::yo n (a+d) d
def yb2 (x:PV):Option (List PV) :=
 match x with
 | .int j=>if j.natAbs<1000000000 then AA (yo j.toNat 0 1)else AE
 |_=>AE
def ygT (x:PV):Option (List PV) :=
 match x with
 | .int j=>if 0<=j/\j<1000000000 then AA (yo j.toNat (j - 1) (-1))else AE
 |_=>AE
def yfV (x y:PV):Option (List PV) :=
 match x,y with
 | .int i,.int j=>if i.natAbs<1000000000/\j.natAbs<1000000000 then AA (yo (j - i).toNat i 1)else AE
 |_,_=>AE
def yft (x y:PV):Option (List PV) :=
 match x,y with
 | .int i,.int j=>if i.natAbs<1000000000/\j.natAbs<1000000000 then AA (yo (i - j).toNat i (-1))else AE
 |_,_=>AE
noncomputable def toL (o:Option (List PV))(st:Store):R (List PV) :=
 match o with
 |some v=>.ok v st
 |none=>.bad
noncomputable def ydP (v:PV)(st:Store):R PV :=
 match v with
 | .loc n=>match st[n]? with
  |some (.lst xs)=>.ok (.lst xs) (st.set n .dead)
  |_=>.bad
 |v=>.ok v st
noncomputable def mkV (D:List (AR×Nat))(b:Bool)(x:PV):Option Nat :=
 match x with
 | .str s=>if b then D.lookup s else AE
 |_=>AE
noncomputable def ya3 (c:Nat)(st:Store)(x:PV)(f:AR):Option PV :=
 match x with
 | .loc n=>match st[n]? with
  |some (.ins d fs)=>if d=c then fs.lookup f else AE
  |_=>AE
 |_=>AE
noncomputable def ybV (f:AR)(v:PV):List (AR×PV)->List (AR×PV)
 | []=>[(f,v)]
 | (g,x)::r=>if g=f then(g,v)::r else(g,x)::ybV f v r
def ya2 (c:Nat)(st:Store)(x:PV)(f:AR)(v:PV):Option Store :=
 match x with
 | .loc n=>match st[n]? with
  |some (.ins d fs)=>if d=c/\fs.length<1000 then AA (st.set n (.ins c (ybV f v fs)))else AE
  |_=>AE
 |_=>AE
noncomputable def yb8 (c:Nat)(m:AR)(st:Store)(x:PV):Option Bool :=
 match x with
 | .loc n=>match st[n]? with
  |some (.ins d fs)=>if d=c/\fs.lookup m=AE then AA AC else AE
  |_=>AE
 |_=>AE
noncomputable def newV (n:Nat)(v:PV)(st:Store):R PV :=
 match v with
 | .non=>.ok (.loc n) st
 |_=>.bad
noncomputable def ybD (r:R PV):R PV :=
 match r with
 | .ok v st=>.ok v st
 |_=>.bad
inductive Fl where
 | nx (ρ:Env) (st:Store)|rt (v:PV) (st:Store)|bk (ρ:Env) (st:Store)|ct (ρ:Env) (st:Store)|exc (c:Nat) (ρ:Env) (st:Store)|bad
noncomputable def onBl {α:Type}(x:PV)(k:Bool->R α):R α :=
 match x with
 | .bl b=>k b
 |_=>.bad
noncomputable def onO {α:Type}(o:Option Bool)(k:Bool->R α):R α :=
 match o with
 |some b=>k b
 |none=>.bad
noncomputable def onF (o:Option Bool)(k:Bool->Fl):Fl :=
 match o with
 |some b=>k b
 |none=>.bad
noncomputable def onP {α:Type}(o:Option (Option Int))(k:Option Int->R α):R α :=
 match o with
 |some b=>k b
 |none=>.bad
noncomputable def blO (o:Option PV):Option Bool :=
 match o with
 |some (.bl b)=>AA b
 |_=>AE
noncomputable def ycb (o:Option PV)(ys:List PV):List PV :=
 match o with
 |some y=>y::ys
 |none=>ys
def yaT (one:PV->Store->R (Option PV)):List PV->Store->R (List PV)
 | [],st=>.ok [] st
 |x::xs,st=>(one x st).bind λo st1=>(yaT one xs st1).bind λys st2=>.ok (ycb o ys) st2
noncomputable def yca (r:R (List PV)):R PV :=
 match r with
 | .ok ys st=>if ys.length<=1000000 then .ok (.lst ys) st else .bad
 |_=>.bad
mutual
noncomputable def ev (call:Nat->List PV->Store->R PV)(ρ:Env)(st:Store):Ce->R PV
 | .cst v=>.ok v st
 | .var i=>match ρ[i]? with
  |some (AA v)=>.ok v st
  |_=>.bad
 | .bin o a b=>(ev call ρ st a).bind λx st1=>(ev call ρ st1 b).bind λy st2=>toR (yx o x y) st2
 | .neg a=>(ev call ρ st a).bind λx st1=>match x with
  | .int i=>.ok (.int (-i)) st1
  |_=>.bad
 | .not a=>(ev call ρ st a).bind λx st1=>onBl x λk=>.ok (.bl (!k)) st1
 | .and a b=>(ev call ρ st a).bind λx st1=>onBl x λk=>cond k (ev call ρ st1 b) (.ok (.bl AD) st1)
 | .or a b=>(ev call ρ st a).bind λx st1=>onBl x λk=>cond k (.ok (.bl AC) st1) (ev call ρ st1 b)
 | .cmp o a b=>(ev call ρ st a).bind λx st1=>(ev call ρ st1 b).bind λy st2=>toR (yE o x y) st2
 | .chain o p a b c=>(ev call ρ st a).bind λx st1=>(ev call ρ st1 b).bind λy st2=>onO (blO (yE o x y)) λk=>cond k ((ev call ρ st2 c).bind λz st3=>toR (yE p y z) st3) (.ok (.bl AD) st2)
 | .ite c a b=>(ev call ρ st c).bind λx st1=>onO (yaP st1 x) λk=>cond k (ev call ρ st1 a) (ev call ρ st1 b)
 | .tup es=>(evs call ρ st es).bind λvs st1=>if vs.length<=sizeMax then .ok (.tup vs) st1 else .bad
 | .lst es=>(evs call ρ st es).bind λvs st1=>if vs.length<=sizeMax then .ok (.lst vs) st1 else .bad
 | .newl es=>(evs call ρ st es).bind λvs st1=>if vs.length<=sizeMax then .ok (.loc st1.length) (st1++[.lst vs])else .bad
 | .dict0 t=>.ok (.loc st.length) (st++[.dct t []])
 | .idx a i=>(ev call ρ st a).bind λx st1=>(ev call ρ st1 i).bind λy st2=>toR (idxV st2 x y) st2
 | .slc a l h=>(ev call ρ st a).bind λx st1=>(ev call ρ st1 l).bind λy st2=>onP (yb1 y) λo=>(ev call ρ st2 h).bind λz st3=>toR (ycm x o z) st3
 | .call f es=>(evs call ρ st es).bind λvs st1=>call f vs st1
 | .blt b es=>(evs call ρ st es).bind λvs st1=>toR (yay b st1 vs) st1
 | .mth m o es=>(ev call ρ st o).bind λx st1=>onO (yaO m st1 x) λ_=>(evs call ρ st1 es).bind λvs st2=>ycu m st2 x vs
 | .isi a ts=>(ev call ρ st a).bind λx st1=>toR (ya0 x ts) st1
 | .comp sl tg it c e=>(evi call ρ st it).bind λxs st1 =>
  let ρ0:Env:=sl.map λo=>o.bind λj=>(ρ[j]?).join
  yca (yaT (λx st2=>match yM tg x ρ0 with
   |none=>.bad
   |some ρ1=>(ev call ρ1 st2 c).bind λb st3=>onO (yaP st3 b) λk=>cond k ((ev call ρ1 st3 e).bind λy st4=>.ok (AA y) st4) (.ok AE st3)) xs st1)
 | .nope=>.bad
 | .frz a=>(ev call ρ st a).bind λx st1=>ydP x st1
 | .dix D a=>(ev call ρ st a).bind λx st1=>toR (ycx D x) st1
 | .din a D=>(ev call ρ st a).bind λx st1=>toR (ycs D x) st1
 | .fld c a f=>(ev call ρ st a).bind λx st1=>toR (ya3 c st1 x f) st1
 | .new c i es=>(evs call ρ st es).bind λvs st1=>(ybD (call i (.loc st1.length::vs) (st1++[.ins c []]))).bind λv st2=>newV st1.length v st2
 | .mcl c i m o es=>(ev call ρ st o).bind λx st1=>onO (yb8 c m st1 x) λ_=>(evs call ρ st1 es).bind λvs st2=>call i (x::vs) st2
noncomputable def evs (call:Nat->List PV->Store->R PV)(ρ:Env)(st:Store):Ces->R (List PV)
 | .nil=>.ok [] st
 | .cons e es=>(ev call ρ st e).bind λv st1=>(evs call ρ st1 es).bind λvs st2=>.ok (v::vs) st2
noncomputable def evi (call:Nat->List PV->Store->R PV)(ρ:Env)(st:Store):Cit->R (List PV)
 | .seq e=>(ev call ρ st e).bind λv st1=>match v with
  | .tp _ xs=>.ok xs st1
  | .lst xs=>.ok xs st1
  |_=>.bad
 | .range1 a=>(ev call ρ st a).bind λx st1=>toL (yb2 x) st1
 | .range2 a b=>(ev call ρ st a).bind λx st1=>(ev call ρ st1 b).bind λy st2=>toL (yfV x y) st2
 | .rangeD a b=>(ev call ρ st a).bind λx st1=>(ev call ρ st1 b).bind λy st2=>toL (yft x y) st2
 | .enum e=>(ev call ρ st e).bind λv st1=>match v with
  | .tp _ xs=>.ok (yD 0 xs) st1
  |_=>.bad
 | .zip a b=>(ev call ρ st a).bind λx st1=>(ev call ρ st1 b).bind λy st2=>toL (ydU x y) st2
 | .revl e=>(ev call ρ st e).bind λv st1=>toL (yg4 v) st1
 | .revr a=>(ev call ρ st a).bind λx st1=>toL (ygT x) st1
 | .chars e=>(ev call ρ st e).bind λv st1=>toL (yds v) st1
end
noncomputable def R.fl {α:Type}(r:R α)(ρ:Env)(k:α->Store->Fl):Fl :=
 match r with
 | .ok a st=>k a st
 | .exc c st=>.exc c ρ st
 | .bad=>.bad
noncomputable def yaz (f:Fl)(k:Env->Store->Fl):Fl :=
 match f with
 | .nx ρ st=>k ρ st
 | .ct ρ st=>k ρ st
 | .bk ρ st=>.nx ρ st
 |f=>f
def forL (t:Tg)(body:Env->Store->Fl):List PV->Env->Store->Fl
 | [],ρ,st=>.nx ρ st
 |x::xs,ρ,st=>match yM t x ρ with
  |none=>.bad
  |some ρ1=>yaz (body ρ1 st) λρ2 st2=>forL t body xs ρ2 st2
def yaq (test:Env->Store->R PV)(body:Env->Store->Fl):Nat->Env->Store->Fl
 |0,_,_=>.bad
 |n+1,ρ,st=>(test ρ st).fl ρ λx st1=>onF (yaP st1 x) λk=>cond k (yaz (body ρ st1) λρ2 st2=>yaq test body n ρ2 st2) (.nx ρ st1)
def ybC (st:Store)(o i v:PV):Option Store :=
 match o with
 | .loc n=>match st[n]? with
  |some (.lst xs)=>match i with
   | .int k=>match ixI xs.length k with
    |some j=>AA (st.set n (.lst (xs.set j v)))
    |none=>AE
   |_=>AE
  |_=>AE
 |_=>AE
def ybh (st:Store)(o i v:PV):Option Store :=
 match o with
 | .loc n=>match st[n]? with
  |some (.dct t kvs)=>if isKey t i/\kvs.length<1000000 then AA (st.set n (.dct t (put i v kvs)))else AE
  |_=>AE
 |_=>AE
mutual
noncomputable def ex (call:Nat->List PV->Store->R PV)(ρ:Env)(st:Store):Cs->Fl
 | .expr e=>(ev call ρ st e).fl ρ λ_ st1=>.nx ρ st1
 | .asg t e=>(ev call ρ st e).fl ρ λv st1=>match yM t v ρ with
  |some ρ1=>.nx ρ1 st1
  |none=>.bad
 | .six o i e=>(ev call ρ st e).fl ρ λv st1=>(ev call ρ st1 o).fl ρ λx st2=>(ev call ρ st2 i).fl ρ λy st3=>match ybC st3 x y v with
  |some st4=>.nx ρ st4
  |none=>.bad
 | .dput o i e=>(ev call ρ st e).fl ρ λv st1=>(ev call ρ st1 o).fl ρ λx st2=>(ev call ρ st2 i).fl ρ λy st3=>match ybh st3 x y v with
  |some st4=>.nx ρ st4
  |none=>.bad
 | .aug i o e=>match ρ[i]? with
  |some (AA x)=>(ev call ρ st e).fl ρ λy st1=>match ybY o x y with
   |some z=>.nx (ρ.set i (AA z)) st1
   |none=>.bad
  |_=>.bad
 | .ret e=>(ev call ρ st e).fl ρ λv st1=>.rt v st1
 | .ite c a b=>(ev call ρ st c).fl ρ λx st1=>onF (yaP st1 x) λk=>cond k (exs call ρ st1 a) (exs call ρ st1 b)
 | .for t it b=>(evi call ρ st it).fl ρ λxs st1=>forL t (λρ2 st2=>exs call ρ2 st2 b) xs ρ st1
 | .while c b=>yaq (λρ2 st2=>ev call ρ2 st2 c) (λρ2 st2=>exs call ρ2 st2 b) 100000 ρ st
 | .nope=>.bad
 | .mkr i D n es=>(ev call ρ st n).fl ρ λx st1=>match mkV D (decide (i<ρ.length)) x with
  |some j=>((evs call (ρ.set i AE) st1 es).bind λvs st2=>call j vs st2).fl (ρ.set i AE) λv st3=>.rt v st3
  |none=>.bad
 | .sfl c o f e=>(ev call ρ st e).fl ρ λv st1=>(ev call ρ st1 o).fl ρ λx st2=>match ya2 c st2 x f v with
  |some st3=>.nx ρ st3
  |none=>.bad
noncomputable def exs (call:Nat->List PV->Store->R PV)(ρ:Env)(st:Store):Css->Fl
 | .nil=>.nx ρ st
 | .cons s ss=>match ex call ρ st s with
  | .nx ρ1 st1=>exs call ρ1 st1 ss
  |f=>f
end
structure Fn where
 np:Nat
 ns:Nat
 pure:Bool
 body:Css
def yc (T:Nat->Option Fn):Nat->Nat->List PV->Store->R PV
 |0,_,_,_=>.bad
 |k+1,f,args,st=>match T f with
  |none=>.bad
  |some fn=>if args.length=fn.np then
    if fn.pure then
     if noLocs args then match exs (yc T k) (args.map AA++Aw (fn.ns - fn.np) AE) [] fn.body with
      | .rt v _=>if noLoc v then .ok v st else .bad
      | .nx _ _=>.ok .non st
      | .exc c _ _=>.exc c st
      |_=>.bad
     else .bad
    else match exs (yc T k) (args.map AA++Aw (fn.ns - fn.np) AE) st fn.body with
     | .rt v st1=>.ok v st1
     | .nx _ st1=>.ok .non st1
     | .exc c _ st1=>.exc c st1
     |_=>.bad
   else .bad
noncomputable def yr:List (Sum Ce Int)->Ces
 | []=>.nil
 | .inl c::r=>.cons c (yr r)
 | .inr i::r=>.cons (.cst (.int i)) (yr r)
noncomputable def yaf:Ces->Ces->Ces
 | .nil,b=>b
 | .cons e r,b=>.cons e (yaf r b)
end IC
namespace L2
open PySem PySem.Spec PyProof.Rows IC
noncomputable abbrev Ph:=List (Option AJ)
section
variable (K:AG)(cl:Nat->AJ)(B:AJ->Prop)(φ:Ph)(H:Hp)
def ybW (k:Bool)(a:AJ)(xs:List V):Prop:=(H a=AA (.tup xs)/\¬B a/\AA a∉φ) \/
 k=AC/\∃(o:CB) (its:Array AH) (n:Nat),K.lookup a=AA o/\o.cls=.type "tuple"/\o.data=.seq its n/\its.size<=sizeLine/\Vals xs its.toList
def ycN (a:AJ)(xs:List V):Prop:=H a=AA (.lst xs)/\¬B a/\AA a∉φ
def ydY (a:AJ)(xs:List V):Prop:=(Rd H a (.lst xs)/\¬B a/\AA a∉φ) \/
 ∃(o:CB) (its:Array AH) (n:Nat),K.lookup a=AA o/\o.cls=.type "list"/\o.dict=AE/\o.data=.seq its n/\its.size<=sizeLine/\Vals xs its.toList
mutual
noncomputable def yd:PV->V->Prop
 | .non,x=>x=.non
 | .bl b,x=>x=.bl b
 | .int i,x=>x=.int i
 | .str s,x=>x=.str s
 | .tp k vs,x=>∃a xs,x=.ref a/\ybW K B φ H k a xs/\yg vs xs
 | .lst vs,x=>∃a xs,x=.ref a/\ycN B φ H a xs/\yg vs xs
 | .loc n,x=>n<φ.length/\∃a,x=.ref a/\∀b,φ[n]?=AA (AA b)->b=a
 | .exn c,x=>∃a,x=.ref a/\H a=AA (.ext (ygo a (cl c)))/\¬B a/\AA a∉φ
 | .scr vs,x=>∃a xs,x=.ref a/\ydY K B φ H a xs/\yg vs xs
noncomputable def yg:List PV->List V->Prop
 | [],xs=>xs=[]
 |v::vs,xs=>∃y ys,xs=y::ys/\yd v y/\yg vs ys
end
noncomputable def yaI:Key->PV
 | .inl i=>.int i
 | .inr y=>.str y
def DK:List (PV×PV)->List (Key×V)->Prop
 | [],ks=>ks=[]
 | (k,v)::r,ks=>∃q x s,ks=(q,x)::s/\k=yaI q/\yd K cl B φ H v x/\DK r s
def DT:List (PV×PV)->List (List Key×V)->Prop
 | [],ks=>ks=[]
 | (k,v)::r,ks=>∃q x s,ks=(q,x)::s/\k=.tup (q.map yaI)/\yd K cl B φ H v x/\DT r s
def FS:List (AR×PV)->List (AR×V)->Prop
 | [],ks=>ks=[]
 | (k,v)::r,ks=>∃x s,ks=(k,x)::s/\yd K cl B φ H v x/\FS r s
def yco:Ob->AJ->Prop
 | .lst vs,a=>∃xs,H a=AA (.lst xs)/\yg K cl B φ H vs xs
 | .dct AD kvs,a=>∃ks,H a=AA (.dK ks)/\DK K cl B φ H kvs ks
 | .dct AC kvs,a=>∃ks,H a=AA (.dT ks)/\DT K cl B φ H kvs ks
 | .dead,_=>False
 | .ins c fs,a=>∃ks,(∃dx,H a=AA (.ins (cl c) dx ks))/\FS K cl B φ H fs ks
structure yt (st:Store):Prop where
 len:φ.length=st.length
 inj:∀(m n:Nat) (a:AJ),φ[m]?=AA (AA a)->φ[n]?=AA (AA a)->m=n
 obj:∀(n:Nat) (a:AJ),φ[n]?=AA (AA a)->∃o,st[n]?=AA o/\yco K cl B φ H o a
 liv:∀(n:Nat) (o:Ob),st[n]?=AA o->o ≠ .dead->∃a,φ[n]?=AA (AA a)
 nb:∀a,AA a∈φ->¬B a
 dom:∀a,B a->∃o,H a=AA o
structure yR (ρ:IC.Env)(σ:St):Prop where
 len:ρ.length=σ.length
 get:∀(i:Nat) (v:PV),ρ[i]?=AA (AA v)->∃x,σ[i]?=AA (AA x)/\yd K cl B φ H v x
end
structure Step (φ:Ph)(H:Hp)(φ':Ph)(H':Hp):Prop where
 keep:∀b o,AA b∉φ->H b=AA o->H' b=AA o
 len:φ.length<=φ'.length
 pre:∀(n:Nat) (a:AJ),n<φ.length->φ'[n]?=AA (AA a)->φ[n]?=AA (AA a)
 new:∀b,AA b∈φ'->AA b∈φ \/ H b=AE
theorem Step.rfl {φ:Ph}{H:Hp}:Step φ H φ H:=⟨λ_ _ _ e=>e,AT _,λ_ _ _ e=>e,λ_ h=>.inl h⟩
theorem Step.trans {φ φ1 φ2:Ph}{H H1 H2:Hp}(s:Step φ H φ1 H1)(t:Step φ1 H1 φ2 H2):Step φ H φ2 H2:=by
 refine⟨λb o n e=>?_,BZ s.len t.len,λn a hn e=>s.pre n a hn (t.pre n a (A3 hn s.len) e),λb hb=>?_⟩
 .refine t.keep b o (λh=>?_) (s.keep b o n e)
  rcases s.new b h with q|q
  .exact n q
  .rw[e]at q;cases q
 .rcases t.new b hb with q|q
  .exact s.new b q
  .by_cases h:AA b∈φ
   .exact .inl h
   .refine .inr ?_
    cases e:H b with
    |none=>exact DN _
    |some o=>rw[s.keep b o h e]at q;cases q
section
variable {K:AG}{cl:Nat->AJ}{B:AJ->Prop}{φ φ':Ph}{H H':Hp}{st:Store}{ρ:IC.Env}{σ:St}
theorem Rd.step (s:Step φ H φ' H'){a:AJ}{u:HO}(n:AA a∉φ)(r:Rd H a u):Rd H' a u/\AA a∉φ':=by
 have h:∃o,H a=AA o:=by
  rcases r with r|⟨o,r⟩ <;> exact⟨_,r⟩
 refine⟨?_,λz=>?_⟩
 .rcases r with r|⟨o,r⟩
  .exact .inl (s.keep _ _ n r)
  .exact .inr ⟨o,s.keep _ _ n r⟩
 .obtain⟨o,e⟩:=h
  rcases s.new a z with q|q
  .exact n q
  .rw[e]at q;cases q
theorem ybW.step (s:Step φ H φ' H'){k:Bool}{a:AJ}{xs:List V}(r:ybW K B φ H k a xs):ybW K B φ' H' k a xs:=by
 rcases r with⟨r,b,n⟩|r
 .obtain⟨_,n'⟩:=(Rd.of r).step s n
  exact .inl ⟨s.keep _ _ n r,b,n'⟩
 .exact .inr r
theorem ycN.step (s:Step φ H φ' H'){a:AJ}{xs:List V}(r:ycN B φ H a xs):ycN B φ' H' a xs:=by
 obtain⟨r,b,n⟩:=r
 obtain⟨_,n'⟩:=(Rd.of r).step s n
 exact⟨s.keep _ _ n r,b,n'⟩
theorem ydY.step (s:Step φ H φ' H'){a:AJ}{xs:List V}(r:ydY K B φ H a xs):ydY K B φ' H' a xs:=by
 rcases r with⟨r,b,n⟩|r
 .obtain⟨r',n'⟩:=r.step s n
  exact .inl ⟨r',b,n'⟩
 .exact .inr r
mutual
theorem yd.step (s:Step φ H φ' H'):∀(v:PV) (x:V),yd K cl B φ H v x->yd K cl B φ' H' v x
 | .non,x,h=>by simp only[yd]at h ⊢;exact h
 | .bl b,x,h=>by simp only[yd]at h ⊢;exact h
 | .int i,x,h=>by simp only[yd]at h ⊢;exact h
 | .str y,x,h=>by simp only[yd]at h ⊢;exact h
 | .tp k vs,x,h=>by
  simp only[yd]at h ⊢
  obtain⟨a,xs,e,r,l⟩:=h
  exact⟨a,xs,e,r.step s,yg.step s vs xs l⟩
 | .lst vs,x,h=>by
  simp only[yd]at h ⊢
  obtain⟨a,xs,e,r,l⟩:=h
  exact⟨a,xs,e,r.step s,yg.step s vs xs l⟩
 | .loc n,x,h=>by
  simp only[yd]at h ⊢
  obtain⟨h1,a,e,h2⟩:=h
  exact⟨A3 h1 s.len,a,e,λb q=>h2 b (s.pre n b h1 q)⟩
 | .exn c,x,h=>by
  simp only[yd]at h ⊢
  obtain⟨a,e,r,b,n⟩:=h
  obtain⟨_,n'⟩:=(Rd.of r).step s n
  exact⟨a,e,s.keep _ _ n r,b,n'⟩
 | .scr vs,x,h=>by
  simp only[yd]at h ⊢
  obtain⟨a,xs,e,r,l⟩:=h
  exact⟨a,xs,e,r.step s,yg.step s vs xs l⟩
theorem yg.step (s:Step φ H φ' H'):∀(v:List PV) (x:List V),yg K cl B φ H v x->yg K cl B φ' H' v x
 | [],x,h=>by simp only[yg]at h ⊢;exact h
 |v::vs,x,h=>by
  simp only[yg]at h ⊢
  obtain⟨y,ys,e,r,l⟩:=h
  exact⟨y,ys,e,yd.step s v y r,yg.step s vs ys l⟩
end
theorem yR.step (s:Step φ H φ' H')(r:yR K cl B φ H ρ σ):yR K cl B φ' H' ρ σ:=⟨r.len,λi v e=>by
 obtain⟨x,h,q⟩:=r.get i v e
 exact⟨x,h,q.step s⟩⟩
mutual
theorem yd.inn (hn:∀a,AA a∈φ->¬B a):∀(v:PV) (x:V),noLoc v=AC->yd K cl B φ H v x->yd K cl (λa=>B a \/ AA a∈φ) [] H v x
 | .non,x,_,h=>by simp only[yd]at h ⊢;exact h
 | .bl b,x,_,h=>by simp only[yd]at h ⊢;exact h
 | .int i,x,_,h=>by simp only[yd]at h ⊢;exact h
 | .str y,x,_,h=>by simp only[yd]at h ⊢;exact h
 | .tp k vs,x,q,h=>by
  simp only[yd]at h ⊢
  obtain⟨a,xs,e,r,l⟩:=h
  refine⟨a,xs,e,?_,yg.inn hn vs xs (by simpa only[noLoc] using q) l⟩
  rcases r with⟨r,b,n⟩|r
  .exact .inl ⟨r,λz=>z.elim b n,by simp⟩
  .exact .inr r
 | .lst vs,x,q,h=>by
  simp only[yd]at h ⊢
  obtain⟨a,xs,e,⟨r,b,n⟩,l⟩:=h
  exact⟨a,xs,e,⟨r,λz=>z.elim b n,by simp⟩,yg.inn hn vs xs (by simpa only[noLoc] using q) l⟩
 | .loc n,x,q,h=>by simp[noLoc]at q
 | .exn c,x,q,h=>by simp[noLoc]at q
 | .scr vs,x,q,h=>by
  simp only[yd]at h ⊢
  obtain⟨a,xs,e,r,l⟩:=h
  refine⟨a,xs,e,?_,yg.inn hn vs xs (by simpa only[noLoc] using q) l⟩
  rcases r with⟨r,b,n⟩|r
  .exact .inl ⟨r,λz=>z.elim b n,by simp⟩
  .exact .inr r
theorem yg.inn (hn:∀a,AA a∈φ->¬B a):∀(v:List PV) (x:List V),noLocs v=AC->yg K cl B φ H v x->yg K cl (λa=>B a \/ AA a∈φ) [] H v x
 | [],x,_,h=>by simp only[yg]at h ⊢;exact h
 |v::vs,x,q,h=>by
  simp only[yg]at h ⊢
  simp only[noLocs,AL]at q
  obtain⟨y,ys,e,r,l⟩:=h
  exact⟨y,ys,e,yd.inn hn v y q.1 r,yg.inn hn vs ys q.2 l⟩
end
mutual
theorem yd.out {ψ:Ph}:∀(v:PV) (x:V),noLoc v=AC->yd K cl (λa=>B a \/ AA a∈φ) ψ H v x->yd K cl B φ H v x
 | .non,x,_,h=>by simp only[yd]at h ⊢;exact h
 | .bl b,x,_,h=>by simp only[yd]at h ⊢;exact h
 | .int i,x,_,h=>by simp only[yd]at h ⊢;exact h
 | .str y,x,_,h=>by simp only[yd]at h ⊢;exact h
 | .tp k vs,x,q,h=>by
  simp only[yd]at h ⊢
  obtain⟨a,xs,e,r,l⟩:=h
  refine⟨a,xs,e,?_,yg.out vs xs (by simpa only[noLoc] using q) l⟩
  rcases r with⟨r,b,n⟩|r
  .exact .inl ⟨r,λz=>b (.inl z),λz=>b (.inr z)⟩
  .exact .inr r
 | .lst vs,x,q,h=>by
  simp only[yd]at h ⊢
  obtain⟨a,xs,e,⟨r,b,n⟩,l⟩:=h
  exact⟨a,xs,e,⟨r,λz=>b (.inl z),λz=>b (.inr z)⟩,yg.out vs xs (by simpa only[noLoc] using q) l⟩
 | .loc n,x,q,h=>by simp[noLoc]at q
 | .exn c,x,q,h=>by simp[noLoc]at q
 | .scr vs,x,q,h=>by
  simp only[yd]at h ⊢
  obtain⟨a,xs,e,r,l⟩:=h
  refine⟨a,xs,e,?_,yg.out vs xs (by simpa only[noLoc] using q) l⟩
  rcases r with⟨r,b,n⟩|r
  .exact .inl ⟨r,λz=>b (.inl z),λz=>b (.inr z)⟩
  .exact .inr r
theorem yg.out {ψ:Ph}:∀(v:List PV) (x:List V),noLocs v=AC->yg K cl (λa=>B a \/ AA a∈φ) ψ H v x->yg K cl B φ H v x
 | [],x,_,h=>by simp only[yg]at h ⊢;exact h
 |v::vs,x,q,h=>by
  simp only[yg]at h ⊢
  simp only[noLocs,AL]at q
  obtain⟨y,ys,e,r,l⟩:=h
  exact⟨y,ys,e,yd.out v y q.1 r,yg.out vs ys q.2 l⟩
end
theorem yg.length:∀{v:List PV} {x:List V},yg K cl B φ H v x->v.length=x.length
 | [],x,h=>by simp only[yg]at h;subst h;rfl
 |v::vs,x,h=>by
  simp only[yg]at h
  obtain⟨y,ys,rfl,_,l⟩:=h
  simp[yg.length l]
theorem DK.step (s:Step φ H φ' H'):∀{kvs:List (PV×PV)} {ks:List (Key×V)},DK K cl B φ H kvs ks->DK K cl B φ' H' kvs ks
 | [],ks,h=>h
 | (k,v)::r,ks,h=>by
  obtain⟨q,x,t,e,m,rv,l⟩:=h
  exact⟨q,x,t,e,m,rv.step s,DK.step s l⟩
theorem DT.step (s:Step φ H φ' H'):∀{kvs:List (PV×PV)} {ks:List (List Key×V)},DT K cl B φ H kvs ks->DT K cl B φ' H' kvs ks
 | [],ks,h=>h
 | (k,v)::r,ks,h=>by
  obtain⟨q,x,t,e,m,rv,l⟩:=h
  exact⟨q,x,t,e,m,rv.step s,DT.step s l⟩
theorem FS.step (s:Step φ H φ' H'):∀{kvs:List (AR×PV)} {ks:List (AR×V)},FS K cl B φ H kvs ks->FS K cl B φ' H' kvs ks
 | [],ks,h=>h
 | (k,v)::r,ks,h=>by
  obtain⟨x,t,e,rv,l⟩:=h
  exact⟨x,t,e,rv.step s,FS.step s l⟩
theorem yco.step (s:Step φ H φ' H'){o:Ob}{a:AJ}(e:H' a=H a)(r:yco K cl B φ H o a):yco K cl B φ' H' o a:=by
 cases o with
 |lst vs =>
  obtain⟨xs,q,l⟩:=r
  exact⟨xs,e.trans q,l.step s⟩
 |dct t kvs =>
  cases t with
  |false=>obtain⟨ks,q,l⟩:=r;exact⟨ks,e.trans q,l.step s⟩
  |true=>obtain⟨ks,q,l⟩:=r;exact⟨ks,e.trans q,l.step s⟩
 |dead=>exact r
 |ins c fs=>obtain⟨ks,⟨dx,q⟩,l⟩:=r;exact⟨ks,⟨dx,e.trans q⟩,l.step s⟩
theorem yco.there {o:Ob}{a:AJ}(r:yco K cl B φ H o a):∃u,H a=AA u:=by
 cases o with
 |lst vs=>obtain⟨xs,q,l⟩:=r;exact⟨_,q⟩
 |dct t kvs=>cases t <;> (obtain⟨ks,q,l⟩:=r;exact⟨_,q⟩)
 |dead=>exact r.elim
 |ins c fs=>obtain⟨ks,⟨dx,q⟩,l⟩:=r;exact⟨_,q⟩
theorem yt.there (S:yt K cl B φ H st){a:AJ}(h:AA a∈φ):∃u,H a=AA u:=by
 obtain⟨n,e⟩:=DW.mp h
 obtain⟨o,_,r⟩:=S.obj n a e
 exact r.there
theorem Step.upd {p:AJ}{o:HO}(hp:H p=AE):Step φ H φ (upd H p o) :=
 ⟨λb u n e=>by rw[zj (zl e hp)];exact e,AT _,λ_ _ _ e=>e,λ_ h=>.inl h⟩
theorem yt.same (S:yt K cl B φ H st)(k:∀b o,H b=AA o->H' b=AA o):yt K cl B φ H' st:=by
 have s:Step φ H φ H':=⟨λb o _ e=>k b o e,AT _,λ_ _ _ e=>e,λ_ h=>.inl h⟩
 refine⟨S.len,S.inj,λn a e=>?_,S.liv,S.nb,λa h=>?_⟩
 .obtain⟨o,q,r⟩:=S.obj n a e
  obtain⟨u,z⟩:=r.there
  exact⟨o,q,r.step s ((k a u z).trans z.symm)⟩
 .obtain⟨o,q⟩:=S.dom a h
  exact⟨o,k a o q⟩
theorem yt.upd {p:AJ}{o:HO}(S:yt K cl B φ H st)(hp:H p=AE):yt K cl B φ (upd H p o) st:=S.same λb u e=>by rw[zj (zl e hp)];exact e
mutual
theorem yd.moreB {B':AJ->Prop}(hn:∀y,B' y->B y \/ H y=AE):∀(v:PV) (x:V),yd K cl B φ H v x->yd K cl B' φ H v x
 | .non,x,h=>by simp only[yd]at h ⊢;exact h
 | .bl b,x,h=>by simp only[yd]at h ⊢;exact h
 | .int i,x,h=>by simp only[yd]at h ⊢;exact h
 | .str y,x,h=>by simp only[yd]at h ⊢;exact h
 | .tp k vs,x,h=>by
  simp only[yd]at h ⊢
  obtain⟨y,xs,e,r,l⟩:=h
  refine⟨y,xs,e,?_,yg.moreB hn vs xs l⟩
  rcases r with⟨r,b,n⟩|r
  .exact .inl ⟨r,λz=>(hn y z).elim b λq=>(by rw[q]at r;cases r),n⟩
  .exact .inr r
 | .lst vs,x,h=>by
  simp only[yd]at h ⊢
  obtain⟨y,xs,e,⟨r,b,n⟩,l⟩:=h
  exact⟨y,xs,e,⟨r,λz=>(hn y z).elim b λq=>(by rw[q]at r;cases r),n⟩,yg.moreB hn vs xs l⟩
 | .loc n,x,h=>by simp only[yd]at h ⊢;exact h
 | .exn c,x,h=>by
  simp only[yd]at h ⊢
  obtain⟨y,e,r,b,n⟩:=h
  exact⟨y,e,r,λz=>(hn y z).elim b λq=>(by rw[q]at r;cases r),n⟩
 | .scr vs,x,h=>by
  simp only[yd]at h ⊢
  obtain⟨y,xs,e,r,l⟩:=h
  refine⟨y,xs,e,?_,yg.moreB hn vs xs l⟩
  rcases r with⟨r,b,n⟩|r
  .refine .inl ⟨r,λz=>(hn y z).elim b λq=>?_,n⟩
   rcases r with r|⟨o,r⟩ <;> (rw[q]at r;cases r)
  .exact .inr r
theorem yg.moreB {B':AJ->Prop}(hn:∀y,B' y->B y \/ H y=AE):∀(v:List PV) (x:List V),yg K cl B φ H v x->yg K cl B' φ H v x
 | [],x,h=>by simp only[yg]at h ⊢;exact h
 |v::vs,x,h=>by
  simp only[yg]at h ⊢
  obtain⟨y,ys,e,r,l⟩:=h
  exact⟨y,ys,e,yd.moreB hn v y r,yg.moreB hn vs ys l⟩
end
end
end L2
namespace L2
open PySem PySem.Spec PyProof.Rows
def CXH (X:Cx)(H:Hp)(s:AK)(E:XK)(e:AH)(s':AK):Prop :=
 ∃(C a:AJ) (cls a0 fl:AH) (H':Hp) (B:BB),X.s₀.heap.objs.size<=C/\e=.ref a/\s'.os=s.os/\D0 s'.gens /\
  (B.StaysIn s'.heap/\B.get? a=AE/\s'.heap.FunFrames B X.stack/\s'.heap.TracedAtW B a cls a0 fl)/\HOk X.prog X.w H' s'.heap/\Un (frs X.stack) [C] H H' s.heap s'.heap /\
  (∀b o,s.heap.get? b=AA o->H b=AE->b∉frs X.stack->b≠C->B.get? b=AA o)/\(∀b u,H' b=AA u->∃o,B.get? b=AA o)/\(∀b o,s.heap.get? b=AA o->b∉frs X.stack->b≠C->∃o',B.get? b=AA o')/\E cls AE H'
theorem CXH.mono {X:Cx}{H:Hp}{s:AK}{E E':XK}{e:AH}{s':AK}(h:CXH X H s E e s')(n:∀cls H',E cls AE H'->E' cls AE H'):CXH X H s E' e s':=by
 obtain⟨C,a,cls,a0,fl,H',B,r1,r2,r3,r4,r5,r6,r7,r8,r9,r10,r11⟩:=h
 exact⟨C,a,cls,a0,fl,H',B,r1,r2,r3,r4,r5,r6,r7,r8,r9,r10,n _ _ r11⟩
section
variable {M:Model}{A:Ar}{E:AH->AK->Prop}{s:AK}
theorem zfa {base:BB}{env:Env}{outer:List Env}{L e:AJ}{cls a0 fl:AH}{Q:Unit->AK->Prop}
  (hfr:A.frames=AA (env::outer)) (hf:env.frame=AA L) (f1:base.StaysIn s.heap) (f2:base.get? e=AE) (f3:s.heap.FunFrames base (env::outer)) (f4:s.heap.TracedAtW base e cls a0 fl)
  (hQ:∀h',Go base outer e cls a0 h'->s.heap.UpToSlots h'->Q () { s with heap:=h' }):AZ M A (leaving env (.ref e)) Q E s:=by
 by_cases hfl:fl=rawInt L
 .subst hfl
  unfold leaving
  refine AI (wpAny_noteFrame_againW hf f4 ?_)
  refine wpAny_landsW ⟨f1,f2,f3,f4⟩ λh' hfl up=>?_
  obtain⟨k1,k2,⟨_,_,k3⟩,k4⟩:=hfl
  exact hQ h' ⟨k1,k2,k3,k4⟩ up
 .obtain⟨oe,vs,T,oT,ts,he,⟨hcls,h0⟩,hd,h1,hnT,hTe,hT,hdT,h3⟩:=f4
  subst hcls
  unfold leaving noteFrame
  simp only[hf]
  refine AI (AI (BN he hd h1 ?_))
  rw[if_pos (show (Ae T != CK)=AC from by simp)]
  refine AI (BN hT hdT h3 ?_)
  rw[if_neg (show ¬((fl == rawInt L)=AC)from λz=>hfl (eq_of_beq z))]
  refine AI (FF hT hdT (ED.mp h3).1 ?_)
  have other:∀b,b≠T->(s.heap.update T (Obj.mapFields (·.setIfInBounds 3 CK))).get? b=s.heap.get? b:=λb hb=>DI _ _ (BG hb)
  have noRecord:∀b o,s.heap.get? b=AA o->(∀vs,o.data ≠ .fields vs)->b≠T:=λb o hb hnf q=>by
   rw[q,hT]at hb;injection hb with hb;subst hb;exact hnf ts hdT
  refine wpAny_newEntryW hfr (f3.of_keeps λb o hb hnf=>⟨o,(other b (noRecord b o hb hnf)).trans hb,rfl⟩) hf ((other e (BG hTe)).trans he)
   (λb o hbo=>(other b λq=>by rw[q,hnT]at hbo;cases hbo).trans (f1 b o hbo)) f2 hd (ED.mp h1).1 h0
   λh' ⟨x1,⟨_,_,x2⟩,x3,x4⟩=>hQ h' ⟨x1,f2,x2,x3⟩ λb o hb hnf=>x4 b o ((other b (noRecord b o hb hnf)).trans hb) hnf
end
section
variable {P:A4}{w:Af}{K:AG}{mg:AR->Option AH}{base:BB}{N:List AR}{qual:AR}{scope:Bi}{f:AJ}{cd:AH}{A:Ar}{outer:List Env}{s₀:AK}{H₀:Hp}{E:XK}
theorem yd8 {pins:List (AJ×CB)}{σ:St}{H:Hp}{s:AK}{e:AH}{s':AK}(I:Inv (yaZ (CX1 P w) P w K mg base N qual scope f cd A outer s₀ H₀ E) pins σ H s)(h:CXH (yaZ (CX1 P w) P w K mg base N qual scope f cd A outer s₀ H₀ E) H s E e s') :
  (yaZ (CX1 P w) P w K mg base N qual scope f cd A outer s₀ H₀ E).xe e s':=by
 obtain⟨C,a,cls,a0,fl,H',B,hC,rfl,os,bare,⟨f1,f2,f3,f4⟩,hok,un,hB,tr,hT,hE⟩:=h
 have bse:Un (frs outer) [] H₀ H s₀.heap s.heap:=I.base
 have lt:∀b o,s₀.heap.get? b=AA o->b≠s₀.heap.objs.size:=λb o q=>An (AY q)
 have neC:∀b o,s₀.heap.get? b=AA o->b≠C:=λb o q=>An (A3 (AY q) hC)
 have niC:∀b o,s₀.heap.get? b=AA o->b∉[C]:=λb o q z=>neC b o q (by simpa using z)
 have hst:∀b,b∈frs (envOfC qual scope s₀.heap.objs.size f cd::outer)->b=s₀.heap.objs.size \/ b∈frs outer:=λb hb=>by
  have hb':b∈s₀.heap.objs.size::frs outer:=hb
  exact AU.mp hb'
 have un':Un (frs (envOfC qual scope s₀.heap.objs.size f cd::outer)) [C] H H' s.heap s'.heap:=un
 have kB:∀b o,s₀.heap.get? b=AA o->H₀ b=AE->b∉frs outer->B.get? b=AA o:=λb o q n hb=>hB b o (bse.keep b o q n hb (by simp)) (bse.free b o q n (by simp)) (λz=>by
  rcases hst b z with z|z
  .exact lt b o q z
  .exact hb z) (neC b o q)
 have kT:∀b o,s₀.heap.get? b=AA o->b∉frs outer->∃o',B.get? b=AA o':=λb o q hb=>by
  obtain⟨o',q1⟩:=bse.there b o q (by simp)
  refine hT b o' q1 (λz=>?_) (neC b o q)
  rcases hst b z with z|z
  .exact lt b o q z
  .exact hb z
 refine zfa I.ok.frames rfl f1 f2 f3 f4 λh'' fl' up=>?_
 refine⟨a,cls,a0,H',B,rfl,os.trans I.os,bare,fl',HOk.inB hok f1 fl'.1 tr,⟨λb o q n hb _=>fl'.1 b o (kB b o q n hb),λb o q n hb _=>?_,λb o q n _=>?_,λb o q _=>?_,λb xs q=>un'.tups b xs (bse.tups b xs q),λb o u q=>un'.frzs b o u (bse.frzs b o u q),λb ps q=>?_⟩,kB,tr,kT,hE⟩
 .obtain⟨sl,q1⟩:=bse.slot b o q n hb (by simp)
  have n1:=bse.free b o q n (by simp)
  obtain⟨sl1,q2⟩:=un'.slot b _ q1 n1 (AS _ hb) (niC b o q)
  obtain⟨_,o',ho',hd⟩:=CP f3 (show b∈DL (λ(z:Env)=>z.frame) _ from AS _ hb)
  obtain⟨sl',q3⟩:=up b _ q2 (by rw[ho']at q2;cases q2;exact hd)
  exact⟨sl',q3⟩
 .obtain⟨o',q1⟩:=bse.there b o q (by simp)
  exact un'.free b o' q1 (bse.free b o q n (by simp)) (niC b o q)
 .obtain⟨o',q1⟩:=bse.there b o q (by simp)
  obtain⟨o2,q2⟩:=un'.there b o' q1 (niC b o q)
  by_cases hb:b∈frs outer
  .obtain⟨_,o3,ho3,hd⟩:=CP f3 (show b∈DL (λ(z:Env)=>z.frame) _ from AS _ hb)
   obtain⟨sl',q3⟩:=up b _ ho3 hd
   exact⟨_,q3⟩
  .obtain⟨o4,q4⟩:=kT b o q hb
   exact⟨o4,fl'.1 b o4 q4⟩
 .obtain⟨m1,e1⟩:=bse.tbls b ps q
  obtain⟨m2,e2⟩:=un'.tbls b _ e1
  exact⟨m1++m2,by rw[e2,Dt]⟩
end
section
variable {pg:A4}{wd:Af}{A:Ar}{R:G3->AK->Prop}{s:AK}
end
section
variable {X:Cx}{sc:Bi}{NC:List AR}{slots:List (Option Nat)}{elt tg iter:AV}{ifs:List AV}{pos:CT}{g:TG}{ti:TT}{te:CI->TE}{E:XK}
end
end L2
namespace L2
open PySem PySem.Spec PyProof.Rows IC
structure Se where
 cl:Nat->AJ
 call:Nat->List PV->Store->R PV
 may:Bool
section
variable (S:Se)(X:Cx)
def ExcAt (σ:St)(B:AJ->Prop)(φ:Ph)(H:Hp)(k:Nat)(st':Store)(e:AH)(s':AK):Prop :=
 (∃pins H1 s φ1,Inv X pins σ H1 s/\Step φ H φ1 H1/\CX1 X.prog X.w X.stack H1 s (λcls _ H'=>cls=.ref (S.cl k)/\∃φ',Step φ1 H1 φ' H'/\yt X.K S.cl B φ' H' st') e s') \/
 (S.may=AC/\∃pins H1 s φ1 h' e0 vs,Inv X pins σ H1 s/\Step φ H φ1 H1/\yt X.K S.cl B φ1 H1 st'/\G8 s.heap h' e0 (.ref (S.cl k)) vs/\e=.ref e0/\s'={ s with heap:=h' }) \/
 (S.may=AC/\∃pins H1 s,Inv X pins σ H1 s/\CXH X H1 s (λcls _ H'=>cls=.ref (S.cl k)/\∃φ',Step φ H φ' H'/\yt X.K S.cl B φ' H' st') e s')
def Run {α β:Type}(σ:St)(B:AJ->Prop)(φ:Ph)(H:Hp)(Rel:Ph->Hp->α->β->Prop)(r:R α)(Q:β->Hp->Prop):Prop :=
 match r with
 | .ok v st'=>∀x H' φ',Step φ H φ' H'->yt X.K S.cl B φ' H' st'->Rel φ' H' v x->Q x H'
 | .exc k st'=>∀e s',ExcAt S X σ B φ H k st' e s'->X.xe e s'
 | .bad=>False
abbrev RV (B:AJ->Prop):Ph->Hp->PV->V->Prop:=λφ H=>yd X.K S.cl B φ H
abbrev RL (B:AJ->Prop):Ph->Hp->List PV->List V->Prop:=λφ H=>yg X.K S.cl B φ H
noncomputable abbrev RB:Ph->Hp->Bool->Bool->Prop:=λ_ _ b c=>b=c
def tE (c:Ce):TE:=λσ H Q=>∃B φ st ρ,yt X.K S.cl B φ H st/\yR X.K S.cl B φ H ρ σ/\Run S X σ B φ H (RV S X B) (ev S.call ρ st c) Q
def tAs (c:Ces):TA:=λσ H Q=>∃B φ st ρ,yt X.K S.cl B φ H st/\yR X.K S.cl B φ H ρ σ/\Run S X σ B φ H (RL S X B) (evs S.call ρ st c) Q
def ya9 (r:R PV):R Bool:=r.bind λx st=>onO (yaP st x) λb=>.ok b st
def tTs (c:Ce):TT:=λσ H Q=>∃B φ st ρ,yt X.K S.cl B φ H st/\yR X.K S.cl B φ H ρ σ/\Run S X σ B φ H RB (ya9 (ev S.call ρ st c)) Q
end
section
variable {S:Se}{X:Cx}{σ:St}{B:AJ->Prop}{φ φ1:Ph}{H H1:Hp}
theorem ExcAt.back {k:Nat}{st':Store}{e:AH}{s':AK}(s:Step φ H φ1 H1)(h:ExcAt S X σ B φ1 H1 k st' e s'):ExcAt S X σ B φ H k st' e s':=by
 rcases h with⟨pins,H2,t,φ2,I,q,c⟩|⟨m,pins,H2,t,φ2,h',e0,vs,I,q,c⟩|⟨m,pins,H2,t,I,c⟩
 .exact .inl ⟨pins,H2,t,φ2,I,s.trans q,c⟩
 .exact .inr (.inl ⟨m,pins,H2,t,φ2,h',e0,vs,I,s.trans q,c⟩)
 .exact .inr (.inr ⟨m,pins,H2,t,I,c.mono λcls H' ⟨e1,φ',s2,r⟩=>⟨e1,φ',s.trans s2,r⟩⟩)
variable {α β γ δ:Type}{Rel:Ph->Hp->α->β->Prop}{Gp:Ph->Hp->γ->δ->Prop}
theorem Run.on {r:R α}{Q:β->Hp->Prop}(s:Step φ H φ1 H1)(h:Run S X σ B φ H Rel r Q):Run S X σ B φ1 H1 Rel r Q:=by
 cases r with
 |ok v st'=>exact λx H' φ' t=>h x H' φ' (s.trans t)
 |exc k st'=>exact λe s' x=>h e s' (x.back s)
 |bad=>exact h
theorem Run.mono {r:R α}{Q Q':β->Hp->Prop}(h:Run S X σ B φ H Rel r Q)(k:∀x H',Q x H'->Q' x H'):Run S X σ B φ H Rel r Q':=by
 cases r with
 |ok v st'=>exact λx H' φ' t rs rv=>k x H' (h x H' φ' t rs rv)
 |exc c st'=>exact h
 |bad=>exact h
theorem Run.bind {r:R α}{k:α->Store->R γ}{Q:δ->Hp->Prop}(h:Run S X σ B φ H Gp (r.bind k) Q) :
  Run S X σ B φ H Rel r λx H1=>∃v st1 φ1,Step φ H φ1 H1/\yt X.K S.cl B φ1 H1 st1/\Rel φ1 H1 v x/\Run S X σ B φ1 H1 Gp (k v st1) Q:=by
 cases r with
 |ok v st'=>exact λx H' φ' t rs rv=>⟨v,st',φ',t,rs,rv,Run.on t h⟩
 |exc c st'=>exact h
 |bad=>exact h
theorem Run.ok {v:α}{st:Store}{Q:β->Hp->Prop}(h:Run S X σ B φ H Rel (.ok v st) Q)(rs:yt X.K S.cl B φ H st){x:β}(rv:Rel φ H v x):Q x H:=h x H φ .rfl rs rv
theorem PE.imp {e:AV}{t t':TE}(h:PE X e t')(k:∀σ H Q,t σ H Q->t' σ H Q):PE X e t:=λpins s σ H Q I q=>h pins s σ H Q I (k σ H Q q)
theorem PT.imp {e:AV}{t t':TT}(h:PT X e t')(k:∀σ H Q,t σ H Q->t' σ H Q):PT X e t:=λpins s σ H Q I q=>h pins s σ H Q I (k σ H Q q)
theorem PW.imp {e:AV}{t t':TT}(h:PW X e t')(k:∀σ H Q,t σ H Q->t' σ H Q):PW X e t:=λwh pins s σ H Q I q=>h wh pins s σ H Q I (k σ H Q q)
theorem PA.imp {e:List AV}{t t':TA}(h:PA X e t')(k:∀σ H Q,t σ H Q->t' σ H Q):PA X e t:=λpos pins s σ H Q I q=>h pos pins s σ H Q I (k σ H Q q)
theorem tE.bind {c:Ce}{ρ:IC.Env}{st:Store}{k:PV->Store->R γ}{Q:δ->Hp->Prop}{P:V->Hp->Prop}(rs:yt X.K S.cl B φ H st)(re:yR X.K S.cl B φ H ρ σ)(h:Run S X σ B φ H Gp ((ev S.call ρ st c).bind k) Q)
  (n:∀x H1 v st1 φ1,Step φ H φ1 H1->yt X.K S.cl B φ1 H1 st1->yR X.K S.cl B φ1 H1 ρ σ->yd X.K S.cl B φ1 H1 v x->Run S X σ B φ1 H1 Gp (k v st1) Q->P x H1):tE S X c σ H P :=
 ⟨B,φ,st,ρ,rs,re,(Run.bind h).mono λx H1 ⟨v,st1,φ1,s,rs1,rv,h1⟩=>n x H1 v st1 φ1 s rs1 (re.step s) rv h1⟩
theorem tAs.bind {c:Ces}{ρ:IC.Env}{st:Store}{k:List PV->Store->R γ}{Q:δ->Hp->Prop}{P:List V->Hp->Prop}(rs:yt X.K S.cl B φ H st)(re:yR X.K S.cl B φ H ρ σ)(h:Run S X σ B φ H Gp ((evs S.call ρ st c).bind k) Q)
  (n:∀x H1 v st1 φ1,Step φ H φ1 H1->yt X.K S.cl B φ1 H1 st1->yR X.K S.cl B φ1 H1 ρ σ->yg X.K S.cl B φ1 H1 v x->Run S X σ B φ1 H1 Gp (k v st1) Q->P x H1):tAs S X c σ H P :=
 ⟨B,φ,st,ρ,rs,re,(Run.bind h).mono λx H1 ⟨v,st1,φ1,s,rs1,rv,h1⟩=>n x H1 v st1 φ1 s rs1 (re.step s) rv h1⟩
variable {i:Int}{b:Bool}{x:AR}{j:Nat}{pos:CT}{e a a':AV}{c ca cb cc:Ce}
theorem zkj:PE X (.Constant (.int i) j pos) (tE S X (.cst (.int i))):=ydp.imp λσ H Q ⟨B,φ,st,ρ,rs,re,h⟩=>by
 simp only[ev]at h
 exact h.ok rs (by simp only[yd])
theorem zoQ:PE X (.Constant (.bool b) j pos) (tE S X (.cst (.bl b))):=yeE.imp λσ H Q ⟨B,φ,st,ρ,rs,re,h⟩=>by
 simp only[ev]at h
 exact h.ok rs (by simp only[yd])
theorem znh:PE X (.Constant .none j pos) (tE S X (.cst .non)):=ydi.imp λσ H Q ⟨B,φ,st,ρ,rs,re,h⟩=>by
 simp only[ev]at h
 exact h.ok rs (by simp only[yd])
theorem zm6:PE X (.Constant (.str x) j pos) (tE S X (.cst (.str x))):=ydy.imp λσ H Q ⟨B,φ,st,ρ,rs,re,h⟩=>by
 simp only[ev]at h
 exact h.ok rs (by simp only[yd])
theorem znY {i:Nat}(hN:X.N[i]?=AA x)(hv:Vis X.env.scope x)(hd:(x == ("__debug__":AR))=false:=by decide)(hcd:(x == ("__classdict__":AR))=false:=by decide):PE X (.Name x pos) (tE S X (.var i)) :=
 (zjO hN hv hd hcd).imp λσ H Q ⟨B,φ,st,ρ,rs,re,h⟩=>by
  simp only[ev]at h
  cases q:ρ[i]? with
  |none=>rw[q]at h;exact h.elim
  |some o =>
   cases o with
   |none=>rw[q]at h;exact h.elim
   |some v =>
    rw[q]at h
    obtain⟨y,hy,rv⟩:=re.get i v q
    exact⟨y,hy,h.ok rs rv⟩
theorem zk4 {v:PV}{y:AJ}(hg:Gl X x)(hm:X.mg x=AA (.ref y))(hk:∀B φ H,yd X.K S.cl B φ H v (.ref y))(hd:(x == ("__debug__":AR))=false:=by decide):PE X (.Name x pos) (tE S X (.cst v)) :=
 (zcP hg hm (show RelV (.ref y) (.ref y)from rfl) hd).imp λσ H Q ⟨B,φ,st,ρ,rs,re,h⟩=>by
  simp only[ev]at h
  exact h.ok rs (hk B φ H)
theorem zag {o:Option PV}{st:Store}{Q:VK}(h:Run S X σ B φ H (RV S X B) (toR o st) Q)(rs:yt X.K S.cl B φ H st):∃z,o=AA z/\∀z' H' φ',Step φ H φ' H'->yt X.K S.cl B φ' H' st->yd X.K S.cl B φ' H' z z'->Q z' H':=by
 cases o with
 |none=>exact h.elim
 |some z=>exact⟨z,rfl,h⟩
def rT2 (S:Se)(X:Cx)(f:PV->PV->Option PV):R2:=λx y H Q=>∃B φ st v w z,yt X.K S.cl B φ H st/\yd X.K S.cl B φ H v x/\yd X.K S.cl B φ H w y/\f v w=AA z /\
 ∀z' H' φ',Step φ H φ' H'->yt X.K S.cl B φ' H' st->yd X.K S.cl B φ' H' z z'->Q z' H'
theorem zmI {op:D6}{o:BOp}(ho:OpR X (binaryOp op) (rT2 S X (yx o)))(ha:PE X a (tE S X ca))(hb:PE X a' (tE S X cb)):PE X (.BinOp a op a' pos) (tE S X (.bin o ca cb)) :=
 (zox ho ha hb).imp λσ H Q ⟨B,φ,st,ρ,rs,re,h⟩=>by
  simp only[ev]at h
  refine tE.bind rs re h λx H1 v st1 φ1 s1 rs1 re1 rv h1=>tE.bind rs1 re1 h1 λy H2 w st2 φ2 s2 rs2 re2 rw h2=>?_
  obtain⟨z,e,q⟩:=zag h2 rs2
  exact⟨B,φ2,st2,v,w,z,rs2,rv.step s2,rw,e,q⟩
theorem zn2 {op:FW}{o:COp}(ho:OpR X (compareOp op) (rT2 S X (yE o)))(ha:PE X a (tE S X ca))(hb:PE X a' (tE S X cb))(hm:behindInMarks op a'=AD):PE X (.Compare a [op] [a'] pos) (tE S X (.cmp o ca cb)) :=
 (zhU ho ha hb hm).imp λσ H Q ⟨B,φ,st,ρ,rs,re,h⟩=>by
  simp only[ev]at h
  refine tE.bind rs re h λx H1 v st1 φ1 s1 rs1 re1 rv h1=>tE.bind rs1 re1 h1 λy H2 w st2 φ2 s2 rs2 re2 rw h2=>?_
  obtain⟨z,e,q⟩:=zag h2 rs2
  exact⟨B,φ2,st2,v,w,z,rs2,rv.step s2,rw,e,q⟩
end
section
variable {S:Se}{X:Cx}{σ:St}{B:AJ->Prop}{φ φ1:Ph}{H H1:Hp}{K:AG}{cl:Nat->AJ}{st:Store}
theorem ybW.sq {k:Bool}{a:AJ}{xs:List V}(r:ybW K B φ H k a xs):SqT K H a xs:=by
 rcases r with⟨r,_⟩|r
 .exact .inl (.inl r)
 .exact .inr r.2
theorem ycN.sq {a:AJ}{xs:List V}(r:ycN B φ H a xs):SqL K H a xs:=.inl (.inl r.1)
theorem yd.tup_new {vs:List PV}{xs:List V}{p:AJ}(hp:H p=AE)(rs:yt K cl B φ H st)(r:yg K cl B φ H vs xs):yd K cl B φ (upd H p (.tup xs)) (.tup vs) (.ref p):=by
 simp only[yd]
 refine⟨p,xs,rfl,.inl ⟨zp,λz=>?_,λz=>?_⟩,r.step (.upd hp)⟩
 .obtain⟨o,e⟩:=rs.dom p z
  rw[hp]at e;cases e
 .obtain⟨o,e⟩:=rs.there z
  rw[hp]at e;cases e
theorem yd.lst_new {vs:List PV}{xs:List V}{p:AJ}(hp:H p=AE)(rs:yt K cl B φ H st)(r:yg K cl B φ H vs xs):yd K cl B φ (upd H p (.lst xs)) (.lst vs) (.ref p):=by
 simp only[yd]
 refine⟨p,xs,rfl,⟨zp,λz=>?_,λz=>?_⟩,r.step (.upd hp)⟩
 .obtain⟨o,e⟩:=rs.dom p z
  rw[hp]at e;cases e
 .obtain⟨o,e⟩:=rs.there z
  rw[hp]at e;cases e
theorem yg.append:∀{vs ws:List PV} {xs ys:List V},yg K cl B φ H vs xs->yg K cl B φ H ws ys->yg K cl B φ H (vs++ws) (xs++ys)
 | [],ws,xs,ys,h,q=>by simp only[yg]at h;subst h;exact q
 |v::vs,ws,xs,ys,h,q=>by
  simp only[yg]at h
  obtain⟨y,zs,rfl,r,l⟩:=h
  show yg K cl B φ H (v::(vs++ws)) (y::(zs++ys))
  simp only[yg]
  exact⟨y,zs++ys,rfl,r,yg.append l q⟩
theorem yg.get:∀{vs:List PV} {xs:List V} (j:Nat) {v:PV},yg K cl B φ H vs xs->vs[j]?=AA v->∃x,xs[j]?=AA x/\yd K cl B φ H v x
 | [],xs,j,v,h,e=>by simp at e
 |w::vs,xs,0,v,h,e=>by
  simp only[yg]at h
  obtain⟨y,zs,rfl,r,l⟩:=h
  simp at e;subst e
  exact⟨y,rfl,r⟩
 |w::vs,xs,j+1,v,h,e=>by
  simp only[yg]at h
  obtain⟨y,zs,rfl,r,l⟩:=h
  obtain⟨x,q1,q2⟩:=yg.get j l (by simpa using e)
  exact⟨x,by simpa using q1,q2⟩
theorem yg.drop:∀{vs:List PV} {xs:List V} (n:Nat),yg K cl B φ H vs xs->yg K cl B φ H (vs.drop n) (xs.drop n)
 |vs,xs,0,h=>by simpa using h
 | [],xs,n+1,h=>by simp only[yg]at h;subst h;simp[yg]
 |v::vs,xs,n+1,h=>by
  simp only[yg]at h
  obtain⟨y,ys,rfl,_,l⟩:=h
  simpa using yg.drop n l
theorem yg.take:∀{vs:List PV} {xs:List V} (n:Nat),yg K cl B φ H vs xs->yg K cl B φ H (vs.take n) (xs.take n)
 |vs,xs,0,h=>by simp[yg]
 | [],xs,n+1,h=>by simp only[yg]at h;subst h;simp[yg]
 |v::vs,xs,n+1,h=>by
  simp only[yg]at h
  obtain⟨y,ys,rfl,r,l⟩:=h
  simp only[List.take_succ_cons,yg]
  exact⟨y,ys.take n,rfl,r,yg.take n l⟩
theorem zb7 {f:AH->AH->Gc AH}{o:BOp}{C:Int->Int->Prop}{g:Int->Int->Int}(h:OpR X f (rI C λi j=>.int (g i j)))
  (hb:∀v w z,yx o v w=AA z->∃i j,v=.int i/\w=.int j/\C i j/\z=.int (g i j)):OpR X f (rT2 S X (yx o)):=by
 rintro pins s σ H x y v u Q I rx ry ⟨B,φ,st,a,b,z,rs,ra,rb,e,q⟩
 obtain⟨i,j,rfl,rfl,hc,rfl⟩:=hb a b z e
 simp only[yd]at ra rb
 subst ra rb
 exact h pins s σ H _ _ v u Q I rx ry ⟨i,j,rfl,rfl,hc,q _ H φ .rfl rs (by simp only[yd])⟩
theorem zcp {f:AH->AH->Gc AH}{o:BOp}{g:Int->Int->Int}(h:OpR X f (rI0 λi j=>.int (g i j)))
  (hb:∀v w z,yx o v w=AA z->∃i j,v=.int i/\w=.int j/\z=.int (g i j)):OpR X f (rT2 S X (yx o)):=by
 rintro pins s σ H x y v u Q I rx ry ⟨B,φ,st,a,b,z,rs,ra,rb,e,q⟩
 obtain⟨i,j,rfl,rfl,rfl⟩:=hb a b z e
 simp only[yd]at ra rb
 subst ra rb
 exact h pins s σ H _ _ v u Q I rx ry ⟨i,j,rfl,rfl,q _ H φ .rfl rs (by simp only[yd])⟩
theorem zlA (v w z:PV)(h:yx .sub v w=AA z):∃i j,v=.int i/\w=.int j/\z=.int (i - j):=by
 unfold yx at h
 split at h <;> first|(cases h;done)|skip
 exact⟨_,_,rfl,rfl,(AX h).symm⟩
theorem zk1 (v w z:PV)(h:yx .mul v w=AA z):∃i j,v=.int i/\w=.int j/\ydz i j/\z=.int (i*j):=by
 unfold yx at h
 split at h <;> first|(cases h;done)|skip
 rename_i i j
 simp only[IC.binI]at h
 split at h
 .rename_i c
  refine⟨i,j,rfl,rfl,?_,(AX h).symm⟩
  simp only[yaA,DA,decide_eq_true_eq]at c
  unfold ydz
  rcases c with c|c
  .left;constructor <;> omega
  .right;constructor <;> omega
 .cases h
theorem ziS (v w z:PV)(h:yx .fdiv v w=AA z):∃i j,v=.int i/\w=.int j/\ydG i j/\z=.int (i / j):=by
 unfold yx at h
 split at h <;> first|(cases h;done)|skip
 rename_i i j
 simp only[IC.binI]at h
 split at h
 .rename_i c
  exact⟨i,j,rfl,rfl,c,(AX h).symm⟩
 .cases h
theorem zk2 (v w z:PV)(h:yx .mod v w=AA z):∃i j,v=.int i/\w=.int j/\0<j/\z=.int (i%j):=by
 unfold yx at h
 split at h <;> first|(cases h;done)|skip
 rename_i i j
 simp only[IC.binI]at h
 split at h
 .rename_i c
  exact⟨i,j,rfl,rfl,c,(AX h).symm⟩
 .cases h
theorem zlM (v w z:PV)(h:yx .pow v w=AA z):∃i j,v=.int i/\w=.int j/\ydW i j/\z=.int (i^j.toNat):=by
 unfold yx at h
 split at h <;> first|(cases h;done)|skip
 rename_i i j
 simp only[IC.binI]at h
 split at h
 .rename_i c
  exact⟨i,j,rfl,rfl,⟨c.1,c.2.1,by have:=c.2.2;omega⟩,(AX h).symm⟩
 .cases h
theorem zkD (v w z:PV)(h:yx .shl v w=AA z):∃i j,v=.int i/\w=.int j/\ydW i j/\z=.int (i*2^j.toNat):=by
 unfold yx at h
 split at h <;> first|(cases h;done)|skip
 rename_i i j
 simp only[IC.binI]at h
 split at h
 .rename_i c
  exact⟨i,j,rfl,rfl,⟨c.1,c.2.1,by have:=c.2.2;omega⟩,(AX h).symm⟩
 .cases h
theorem zlq (v w z:PV)(h:yx .shr v w=AA z):∃i j,v=.int i/\w=.int j/\0<=j/\z=.int (i / 2^j.toNat):=by
 unfold yx at h
 split at h <;> first|(cases h;done)|skip
 rename_i i j
 simp only[IC.binI]at h
 split at h
 .rename_i c
  exact⟨i,j,rfl,rfl,c,(AX h).symm⟩
 .cases h
theorem ziZ (v w z:PV)(h:yx .band v w=AA z):∃i j,v=.int i/\w=.int j/\z=.int (BS i j):=by
 unfold yx at h
 split at h <;> first|(cases h;done)|skip
 exact⟨_,_,rfl,rfl,(AX h).symm⟩
theorem zlN (v w z:PV)(h:yx .bor v w=AA z):∃i j,v=.int i/\w=.int j/\z=.int (Bj i j):=by
 unfold yx at h
 split at h <;> first|(cases h;done)|skip
 exact⟨_,_,rfl,rfl,(AX h).symm⟩
theorem ziU (v w z:PV)(h:yx .bxor v w=AA z):∃i j,v=.int i/\w=.int j/\z=.int (Bl i j):=by
 unfold yx at h
 split at h <;> first|(cases h;done)|skip
 exact⟨_,_,rfl,rfl,(AX h).symm⟩
theorem znM:OpR X (binaryOp .Sub) (rT2 S X (yx .sub)):=zcp zor zlA
theorem zns:OpR X (binaryOp .Mult) (rT2 S X (yx .mul)):=zb7 zmA zk1
theorem zl6:OpR X (binaryOp .FloorDiv) (rT2 S X (yx .fdiv)):=zb7 zjt ziS
theorem zmK:OpR X (binaryOp .Mod) (rT2 S X (yx .mod)):=zb7 zmW zk2
theorem zoh:OpR X (binaryOp .Pow) (rT2 S X (yx .pow)):=zb7 zos zlM
theorem zmT:OpR X (binaryOp .LShift) (rT2 S X (yx .shl)):=zb7 zn3 zkD
theorem zmu:OpR X (binaryOp .RShift) (rT2 S X (yx .shr)):=zb7 znD zlq
theorem zln:OpR X (binaryOp .BitAnd) (rT2 S X (yx .band)):=zcp zm5 ziZ
theorem zmd:OpR X (binaryOp .BitOr) (rT2 S X (yx .bor)):=zcp zoJ zlN
theorem zlz:OpR X (binaryOp .BitXor) (rT2 S X (yx .bxor)):=zcp zm7 ziU
theorem zz:sizeMax=sizeLine:=by rw[D7];rfl
theorem zlr:OpR X (binaryOp .Add) (λx y H Q=>∃a b ys,x=.ref a/\y=.ref b/\SqT X.K H a []/\SqT X.K H b ys/\Q (.ref b) H):=by
 intro pins s σ H x y v u Q I rx ry h
 obtain⟨a,b,ys,rfl,rfl,ha,hb,q⟩:=h
 cases rx
 cases ry
 obtain⟨its,r1,p1,_⟩:=I.tuple ha
 obtain⟨its2,r2,p2,_⟩:=I.tuple hb
 have:its=[]:=r1.nil_iff.mpr rfl
 subst this
 obtain⟨⟨cls,dd,data,sl⟩,ho,hc,n,hd⟩:=id p1
 obtain⟨⟨cls2,dd2,data2,sl2⟩,ho2,hc2,n2,hd2⟩:=id p2
 simp only at hc hd hc2 hd2
 subst hc hd hc2 hd2
 exact Fk ⟨_,ho,rfl⟩ ⟨_,ho2,rfl⟩ Ea FX DH DE (Cw _ _)
   (tuple_addW0 a b [].toArray its2.toArray n n2 dd dd2 sl sl2 (by simp)) ⟨ho,ho2,⟨.ref b,H,I,rfl,q⟩⟩
theorem zmy:OpR X (binaryOp .Add) (rT2 S X (yx .add)):=by
 rintro pins s σ H x y v u Q I rx ry ⟨B,φ,st,a,b,z,rs,ra,rb,e,q⟩
 unfold yx at e
 split at e
 .rename_i i j
  simp only[yd]at ra rb
  subst ra rb
  cases e
  exact znP pins s σ H _ _ v u Q I rx ry ⟨i,j,rfl,rfl,q _ H φ .rfl rs (by simp only[yd])⟩
 .rename_i i k
  simp only[yd]at ra rb
  subst ra rb
  cases e
  exact zhl pins s σ H _ _ v u Q I rx ry ⟨i,k,rfl,rfl,q _ H φ .rfl rs (by simp only[yd];cases k <;> rfl)⟩
 .rename_i i j
  simp only[yd]at ra rb
  subst ra rb
  dsimp only at e
  split at e
  .rename_i c
   cases e
   exact zgl pins s σ H _ _ v u Q I rx ry ⟨i,j,rfl,rfl,by rw[<- zz];exact c,q _ H φ .rfl rs (by simp only[yd])⟩
  .cases e
 .rename_i k1 vs k2 ws
  simp only[yd]at ra rb
  obtain⟨p,xs,rfl,r1,l1⟩:=ra
  obtain⟨p',ys,rfl,r2,l2⟩:=rb
  dsimp only at e
  split at e
  .rename_i c
   cases e
   have n1:=l1.length
   have n2:=l2.length
   unfold yeI at q
   cases vs with
   |nil =>
    have:xs=[]:=by cases xs with|nil=>rfl|cons _ _=>simp at n1
    subst this
    refine zlr pins s σ H _ _ v u Q I rx ry ⟨p,p',ys,rfl,rfl,r1.sq,r2.sq,q _ H φ .rfl rs ?_⟩
    simp only[GH,if_true,yd]
    exact⟨p',ys,rfl,r2,l2⟩
   |cons v1 vr =>
    simp only[Fu,BR,if_false]at q
    refine zlm pins s σ H _ _ v u Q I rx ry ⟨p,p',xs,ys,rfl,rfl,r1.sq,r2.sq,?_,by rw[<- zz];omega,λz=>?_,λz t ht=>?_⟩
    .rintro rfl
     simp at n1
    .subst z
     have:ws=[]:=by cases ws with|nil=>rfl|cons _ _=>simp at n2
     subst this
     simp only[GH,if_true]at q
     refine q _ H φ .rfl rs ?_
     simp only[yd]
     exact⟨p,xs,rfl,r1,l1⟩
    .cases ws with
     |nil=>exact absurd (List.length_eq_zero_iff.mp n2.symm) z
     |cons w1 wr =>
      simp only[Fu,BR,if_false]at q
      exact q _ _ φ (.upd ht) (rs.upd ht) (.tup_new ht rs (l1.append l2))
  .cases e
 .rename_i vs ws
  simp only[yd]at ra rb
  obtain⟨p,xs,rfl,r1,l1⟩:=ra
  obtain⟨p',ys,rfl,r2,l2⟩:=rb
  dsimp only at e
  split at e
  .rename_i c
   cases e
   have n1:=l1.length
   have n2:=l2.length
   exact zna pins s σ H _ _ v u Q I rx ry ⟨p,p',xs,ys,rfl,rfl,r1.1,r2.1,by rw[<- zz];omega,λt ht=>q _ _ φ (.upd ht) (rs.upd ht) (.lst_new ht rs (l1.append l2))⟩
  .cases e
 .cases e
end
mutual
noncomputable def toD:PV->PyData
 | .non=>.none
 | .bl b=>.bool b
 | .int i=>.int i
 | .str x=>.str x
 | .tp _ xs=>.tuple (ybN xs)
 | .lst xs=>.list (ybN xs)
 |_=>.none
noncomputable def ybN:List PV->List PyData
 | []=>[]
 |x::xs=>toD x::ybN xs
end
mutual
theorem zg5:∀(v:PV) (n:Nat),shd n v=AC->(toD v).canLay0=AC/\(toD v).depth<=n
 | .non,n,h=>by simp[toD,Ci,DO]
 | .bl b,n,h=>by simp[toD,Ci,DO]
 | .int i,n,h=>by simp[toD,Ci,DO]
 | .str x,n,h=>by
  simp only[shd]at h
  simp only[toD,Ci,DO,DD,and_true]
  exact h
 | .tp _ xs,n,h=>by
  simp only[shd,AL,decide_eq_true_eq]at h
  obtain⟨q1,q2⟩:=zdL xs (n - 1) h.2
  simp only[toD,Ci,DO]
  exact⟨q1,by omega⟩
 | .lst xs,n,h=>by
  simp only[shd,AL,decide_eq_true_eq]at h
  obtain⟨q1,q2⟩:=zdL xs (n - 1) h.2
  simp only[toD,Ci,DO]
  exact⟨q1,by omega⟩
 | .loc k,n,h=>by simp[shd]at h
 | .exn k,n,h=>by simp[shd]at h
 | .scr xs,n,h=>by simp[shd]at h
theorem zdL:∀(v:List PV) (n:Nat),ybM n v=AC->EU (ybN v)=AC/\Ew (ybN v)<=n
 | [],n,h=>by simp[ybN,EU,Ew]
 |v::vs,n,h=>by
  simp only[ybM,AL]at h
  obtain⟨q1,q2⟩:=zg5 v n h.1
  obtain⟨q3,q4⟩:=zdL vs n h.2
  simp only[ybN,EU,Ew,AL]
  exact⟨⟨q1,q3⟩,by omega⟩
end
theorem zbe {v:PV}(h:shp v=AC):Gq (toD v)=true:=by
 obtain⟨q1,q2⟩:=zg5 v 60 h
 unfold Gq
 rw[q1,D1,decide_eq_true_eq]
 omega
mutual
theorem zfn:∀(v w:PV) (n m:Nat),shd n v=AC->shd m w=AC->B9 (toD v) (toD w)=peq v w
 | .non,w,n,m,h,q=>by cases w <;> simp_all[toD,B9,peq,shd]
 | .bl b,w,n,m,h,q=>by cases w <;> simp_all[toD,B9,peq,shd,bi]
 | .int i,w,n,m,h,q=>by cases w <;> simp_all[toD,B9,peq,shd,bi]
 | .str x,w,n,m,h,q=>by cases w <;> simp_all[toD,B9,peq,shd]
 | .tp _ xs,.tp _ ys,n,m,h,q=>by
  simp only[shd,AL]at h q
  simp only[toD,B9,peq]
  exact zdV xs ys (n - 1) (m - 1) h.2 q.2
 | .lst xs,.lst ys,n,m,h,q=>by
  simp only[shd,AL]at h q
  simp only[toD,B9,peq]
  exact zdV xs ys (n - 1) (m - 1) h.2 q.2
 | .tp _ xs,.non,n,m,h,q=>by simp[toD,B9,peq]
 | .tp _ xs,.bl _,n,m,h,q=>by simp[toD,B9,peq]
 | .tp _ xs,.int _,n,m,h,q=>by simp[toD,B9,peq]
 | .tp _ xs,.str _,n,m,h,q=>by simp[toD,B9,peq]
 | .tp _ xs,.lst _,n,m,h,q=>by simp[toD,B9,peq]
 | .lst xs,.non,n,m,h,q=>by simp[toD,B9,peq]
 | .lst xs,.bl _,n,m,h,q=>by simp[toD,B9,peq]
 | .lst xs,.int _,n,m,h,q=>by simp[toD,B9,peq]
 | .lst xs,.str _,n,m,h,q=>by simp[toD,B9,peq]
 | .lst xs,.tp _ _,n,m,h,q=>by simp[toD,B9,peq]
 | .loc k,w,n,m,h,q=>by simp[shd]at h
 | .exn k,w,n,m,h,q=>by simp[shd]at h
 | .scr k,w,n,m,h,q=>by simp[shd]at h
 |v,.loc k,n,m,h,q=>by simp[shd]at q
 |v,.exn k,n,m,h,q=>by simp[shd]at q
 |v,.scr k,n,m,h,q=>by simp[shd]at q
theorem zdV:∀(v w:List PV) (n m:Nat),ybM n v=AC->ybM m w=AC->D2 (ybN v) (ybN w)=ybu v w
 | [],[],n,m,h,q=>by simp[ybN,D2,ybu]
 | [],y::ys,n,m,h,q=>by simp[ybN,D2,ybu]
 |x::xs,[],n,m,h,q=>by simp[ybN,D2,ybu]
 |x::xs,y::ys,n,m,h,q=>by
  simp only[ybM,AL]at h q
  simp only[ybN,D2,ybu]
  rw[zfn x y n m h.1 q.1,zdV xs ys n m h.2 q.2]
end
section
variable {S:Se}{X:Cx}{σ:St}{B:AJ->Prop}{φ φ1:Ph}{H H1:Hp}{st:Store}{pins:List (AJ×CB)}{s:AK}
mutual
theorem zbQ (I:Inv X pins σ H s):∀(v:PV) (n:Nat) (x:V) (u:AH),shd n v=AC->yd X.K S.cl B φ H v x->RelV x u->∃as,Reads s.heap u (toD v) as
 | .non,n,x,u,h,r,q=>by
  simp only[yd]at r;subst r;cases (show u=CK from q);exact⟨_,.none⟩
 | .bl b,n,x,u,h,r,q=>by
  simp only[yd]at r;subst r;cases (show u=Ds b from q);exact⟨_,.bool b⟩
 | .int i,n,x,u,h,r,q=>by
  simp only[yd]at r;subst r;obtain⟨t,rfl⟩:=q;exact⟨_,.int i t⟩
 | .str y,n,x,u,h,r,q=>by
  simp only[yd]at r;subst r;obtain⟨t,rfl⟩:=q;exact⟨_,.str y t⟩
 | .tp _ vs,n,x,u,h,r,q=>by
  simp only[yd]at r
  obtain⟨a,xs,rfl,rt,l⟩:=r
  cases (show u=Ae a from q)
  simp only[shd,AL]at h
  obtain⟨its,rv,⟨o,g,c,k,d⟩,_⟩:=I.tuple rt.sq
  obtain⟨as,z⟩:=zcJ I vs (n - 1) xs its h.2 l rv
  exact⟨as,.tuple g c d (by simpa using z)⟩
 | .lst vs,n,x,u,h,r,q=>by
  simp only[yd]at r
  obtain⟨a,xs,rfl,rt,l⟩:=r
  cases (show u=Ae a from q)
  simp only[shd,AL]at h
  obtain⟨its,rv,⟨o,k,g,c,_,d⟩,_⟩:=I.list (rt.sq (K:=X.K))
  obtain⟨as,z⟩:=zcJ I vs (n - 1) xs its h.2 l rv
  exact⟨_,.list g c d (by simpa using z)⟩
 | .loc k,n,x,u,h,r,q=>by simp[shd]at h
 | .exn k,n,x,u,h,r,q=>by simp[shd]at h
 | .scr k,n,x,u,h,r,q=>by simp[shd]at h
theorem zcJ (I:Inv X pins σ H s):∀(v:List PV) (n:Nat) (x:List V) (u:List AH),ybM n v=AC->yg X.K S.cl B φ H v x->Vals x u->∃as,ReadsAll s.heap u (ybN v) as
 | [],n,x,u,h,r,q=>by
  simp only[yg]at r;subst r;cases q;exact⟨_,.nil⟩
 |v::vs,n,x,u,h,r,q=>by
  simp only[yg]at r
  obtain⟨y,ys,rfl,rv,l⟩:=r
  simp only[ybM,AL]at h
  cases q with
  |cons q1 q2 =>
   obtain⟨as,z1⟩:=zbQ I v n y _ h.1 rv q1
   obtain⟨bs,z2⟩:=zcJ I vs n ys _ h.2 l q2
   exact⟨_,.cons z1 z2⟩
end
theorem zoB (hu:X.A.units+64<cLine):OpR X (compareOp .Eq) (rT2 S X (yE .eq)):=by
 rintro pins s σ H x y v u Q I rx ry ⟨B,φ,st,a,b,z,rs,ra,rb,e,q⟩
 simp only[yE]at e
 split at e
 .rename_i c
  rw[AL]at c
  cases e
  obtain⟨as,z1⟩:=zbQ (S:=S) I a 60 x v c.1 ra rx
  obtain⟨bs,z2⟩:=zbQ (S:=S) I b 60 y u c.2 rb ry
  refine eq_dataH z1 z2 (zbe c.1) (zbe c.2) hu ⟨.bl _,H,I,rfl,?_⟩
  rw[zfn a b 60 60 c.1 c.2]
  exact q _ H φ .rfl rs (by simp only[yd])
 .cases e
theorem zpe (hu:X.A.units+64<cLine):OpR X (compareOp .NotEq) (rT2 S X (yE .ne)):=by
 rintro pins s σ H x y v u Q I rx ry ⟨B,φ,st,a,b,z,rs,ra,rb,e,q⟩
 simp only[yE]at e
 split at e
 .rename_i c
  rw[AL]at c
  cases e
  obtain⟨as,z1⟩:=zbQ (S:=S) I a 60 x v c.1 ra rx
  obtain⟨bs,z2⟩:=zbQ (S:=S) I b 60 y u c.2 rb ry
  refine ne_dataH z1 z2 (zbe c.1) (zbe c.2) hu ⟨.bl _,H,I,rfl,?_⟩
  rw[zfn a b 60 60 c.1 c.2]
  exact q _ H φ .rfl rs (by simp only[yd])
 .cases e
theorem zgV {f:AH->AH->Gc AH}{o:COp}{g:Int->Int->Bool}(h:OpR X f (rI0 λi j=>.bl (g i j)))
  (hb:∀v w z,yE o v w=AA z->∃i j,v=.int i/\w=.int j/\z=.bl (g i j)):OpR X f (rT2 S X (yE o)):=by
 rintro pins s σ H x y v u Q I rx ry ⟨B,φ,st,a,b,z,rs,ra,rb,e,q⟩
 obtain⟨i,j,rfl,rfl,rfl⟩:=hb a b z e
 simp only[yd]at ra rb
 subst ra rb
 exact h pins s σ H _ _ v u Q I rx ry ⟨i,j,rfl,rfl,q _ H φ .rfl rs (by simp only[yd])⟩
theorem zhW:OpR X (compareOp .LtE) (λx y H Q=>∃i j,x=.str i/\y=.str j/\Q (.bl (!decide (j.cps.toList<i.cps.toList))) H):=by
 intro pins s σ H x y v u Q I rx ry h
 obtain⟨i,j,rfl,rfl,q⟩:=h
 obtain⟨t,rfl⟩:=rx
 obtain⟨t',rfl⟩:=ry
 exact PySem.P.le_str (zhV I q rfl)
theorem zo0:OpR X (compareOp .Lt) (rT2 S X (yE .lt)):=by
 rintro pins s σ H x y v u Q I rx ry ⟨B,φ,st,a,b,z,rs,ra,rb,e,q⟩
 simp only[yE]at e
 split at e
 .rename_i i j
  simp only[yd]at ra rb
  subst ra rb
  cases e
  exact zo8 pins s σ H _ _ v u Q I rx ry ⟨i,j,rfl,rfl,q _ H φ .rfl rs (by simp only[yd])⟩
 .rename_i i j
  simp only[yd]at ra rb
  subst ra rb
  cases e
  exact zg2 pins s σ H _ _ v u Q I rx ry ⟨i,j,rfl,rfl,q _ H φ .rfl rs (by simp only[yd])⟩
 .cases e
theorem zoI:OpR X (compareOp .LtE) (rT2 S X (yE .le)):=by
 rintro pins s σ H x y v u Q I rx ry ⟨B,φ,st,a,b,z,rs,ra,rb,e,q⟩
 simp only[yE]at e
 split at e
 .rename_i i j
  simp only[yd]at ra rb
  subst ra rb
  cases e
  exact zoz pins s σ H _ _ v u Q I rx ry ⟨i,j,rfl,rfl,q _ H φ .rfl rs (by simp only[yd])⟩
 .rename_i i j
  simp only[yd]at ra rb
  subst ra rb
  cases e
  exact zhW pins s σ H _ _ v u Q I rx ry ⟨i,j,rfl,rfl,q _ H φ .rfl rs (by simp only[yd])⟩
 .cases e
theorem zfD {o:COp}{g:Int->Int->Bool}(ho:∀v w,yE o v w=match v,w with
   | .int i,.int j=>ybG o i j
   | .str a,.str b=>yeh o a b
   |_,_=>AE) (hs:∀a b,yeh o a b=AE) (hg:∀i j,ybG o i j=AA (.bl (g i j))) (v w z:PV) (h:yE o v w=AA z):∃i j,v=.int i/\w=.int j/\z=.bl (g i j):=by
 rw[ho]at h
 split at h
 .rename_i i j
  rw[hg]at h
  exact⟨i,j,rfl,rfl,(AX h).symm⟩
 .rw[hs]at h;cases h
 .cases h
theorem zoF:OpR X (compareOp .Gt) (rT2 S X (yE .gt)):=zgV zo7 (zfD (λ_ _=>rfl) (λ_ _=>rfl) λ_ _=>rfl)
theorem zo9:OpR X (compareOp .GtE) (rT2 S X (yE .ge)):=zgV zo3 (zfD (λ_ _=>rfl) (λ_ _=>rfl) λ_ _=>rfl)
theorem yd.isNon {K:AG}{cl:Nat->AJ}{v:PV}{x:V}(r:yd K cl B φ H v x):decide (x=.non)=IC.isNon v:=by
 cases v with
 |loc n=>simp only[yd]at r;obtain⟨_,a,rfl,_⟩:=r;rfl
 |non=>simp only[yd]at r;subst r;rfl
 |bl b=>simp only[yd]at r;subst r;rfl
 |int b=>simp only[yd]at r;subst r;rfl
 |str b=>simp only[yd]at r;subst r;rfl
 |tp k vs=>simp only[yd]at r;obtain⟨a,xs,rfl,_⟩:=r;rfl
 |lst vs=>simp only[yd]at r;obtain⟨a,xs,rfl,_⟩:=r;rfl
 |exn vs=>simp only[yd]at r;obtain⟨a,rfl,_⟩:=r;rfl
 |scr vs=>simp only[yd]at r;obtain⟨a,xs,rfl,_⟩:=r;rfl
theorem yd.flat {K:AG}{cl:Nat->AJ}{v:PV}{x:V}(r:yd K cl B φ H v x)(h:IC.flat v=AC):ya7 x=AC/\∀(w:PV) (y:V),IC.flat w=AC->yd K cl B φ H w y->eqV x y=peq v w:=by
 cases v with
 |non =>
  simp only[yd]at r;subst r
  refine⟨rfl,λw y hw rw=>?_⟩
  cases w <;> first|(simp[IC.flat]at hw;done)|(simp only[yd]at rw;subst rw;simp[eqV,peq,bi])
 |bl b =>
  simp only[yd]at r;subst r
  refine⟨rfl,λw y hw rw=>?_⟩
  cases w <;> first|(simp[IC.flat]at hw;done)|(simp only[yd]at rw;subst rw;simp[eqV,peq,bi])
 |int b =>
  simp only[yd]at r;subst r
  refine⟨rfl,λw y hw rw=>?_⟩
  cases w <;> first|(simp[IC.flat]at hw;done)|(simp only[yd]at rw;subst rw;simp[eqV,peq,bi])
 |str b =>
  simp only[yd]at r;subst r
  refine⟨rfl,λw y hw rw=>?_⟩
  cases w <;> first|(simp[IC.flat]at hw;done)|(simp only[yd]at rw;subst rw;simp[eqV,peq,bi])
 |_=>simp[IC.flat]at h
theorem zfk {K:AG}{cl:Nat->AJ}{v:PV}{x:V}(r:yd K cl B φ H v x)(h:IC.flat v=AC):∀{vs:List PV} {xs:List V},yg K cl B φ H vs xs->vs.all IC.flat=AC->xs.all ya7=AC/\inV x xs=inL v vs
 | [],xs,l,_=>by simp only[yg]at l;subst l;exact⟨rfl,rfl⟩
 |w::vs,xs,l,f=>by
  simp only[yg]at l
  obtain⟨y,ys,rfl,rw,l⟩:=l
  rw[Bc,AL]at f
  obtain⟨q1,q2⟩:=zfk r h l f.2
  obtain⟨q3,q4⟩:=rw.flat f.1
  refine⟨by rw[Bc,q3,q1];rfl,?_⟩
  unfold inV at q2 ⊢
  rw[Bk,q2,q4 v x h r]
  rfl
end
theorem zkz (a b:AR):(!(E7 b a 0 b.length 1).isEmpty)=inS a b:=by
 rw[De,StrLaws.found_iff]
 unfold inS
 rw[Ec]
 constructor
 .rintro⟨i,h1,h2⟩
  exact⟨i,by rw[FB];omega,by rw[AL,decide_eq_true_eq];exact⟨h1,h2⟩⟩
 .rintro⟨i,_,h⟩
  rw[AL,decide_eq_true_eq]at h
  exact⟨i,h.1,h.2⟩
section
variable {S:Se}{X:Cx}{σ:St}{B:AJ->Prop}{φ φ1:Ph}{H H1:Hp}{st:Store}
theorem zpb:OpR X (compareOp .In) (rT2 S X (yE .isin)):=by
 rintro pins s σ H x y v u Q I rx ry ⟨B,φ,st,a,b,z,rs,ra,rb,e,q⟩
 simp only[yE]at e
 split at e
 .rename_i i j
  simp only[yd]at ra rb
  subst ra rb
  cases e
  exact zhZ pins s σ H _ _ v u Q I rx ry ⟨i,j,rfl,rfl,by rw[zkz];exact q _ H φ .rfl rs (by simp only[yd])⟩
 .rename_i l
  split at e
  .rename_i c
   rw[AL]at c
   cases e
   simp only[yd]at rb
   obtain⟨p,xs,rfl,r,l'⟩:=rb
   obtain⟨q1,q2⟩:=zfk ra c.1 l' c.2
   exact zem pins s σ H _ _ v u Q I rx ry ⟨p,xs,rfl,.inr r.sq,(ra.flat c.1).1,q1,q _ H φ .rfl rs (by simp only[yd];rw[<- q2];rfl)⟩
  .cases e
 .rename_i l
  split at e
  .rename_i c
   rw[AL]at c
   cases e
   simp only[yd]at rb
   obtain⟨p,xs,rfl,r,l'⟩:=rb
   obtain⟨q1,q2⟩:=zfk ra c.1 l' c.2
   exact zem pins s σ H _ _ v u Q I rx ry ⟨p,xs,rfl,.inl r.sq,(ra.flat c.1).1,q1,q _ H φ .rfl rs (by simp only[yd];rw[<- q2];rfl)⟩
  .cases e
 .cases e
theorem yg.empty {K:AG}{cl:Nat->AJ}{vs:List PV}{xs:List V}(l:yg K cl B φ H vs xs):vs.isEmpty=xs.isEmpty:=by
 have:=l.length
 cases vs <;> cases xs <;> simp_all
theorem zlf {K:AG}{cl:Nat->AJ}{v:PV}{x:V}{k:Bool}(rs:yt K cl B φ H st)(r:yd K cl B φ H v x)(h:yaP st v=AA k):yeV K x H k:=by
 cases v with
 |non=>simp only[yd]at r;subst r;cases h;rfl
 |bl b=>simp only[yd]at r;subst r;cases h;rfl
 |int b=>simp only[yd]at r;subst r;cases h;rfl
 |str b =>
  simp only[yd]at r;subst r
  simp only[yaP]at h
  split at h
  .rename_i c
   cases h
   exact⟨by rw[<- zz];exact c,rfl⟩
  .cases h
 |tp k vs =>
  simp only[yd]at r
  obtain⟨a,xs,rfl,rt,l⟩:=r
  cases h
  exact .inr (.inl ⟨xs,rt.sq,by rw[l.empty]⟩)
 |lst vs =>
  simp only[yd]at r
  obtain⟨a,xs,rfl,rt,l⟩:=r
  cases h
  exact .inl ⟨xs,rt.sq,by rw[l.empty]⟩
 |loc n =>
  simp only[yd]at r
  obtain⟨hn,a,rfl,ha⟩:=r
  simp only[yaP]at h
  split at h
  .rename_i vs hv
   cases h
   obtain⟨b,hb⟩:=rs.liv n _ hv (by intro z;cases z)
   obtain rfl:=ha b hb
   obtain⟨o,ho,ro⟩:=rs.obj n b hb
   rw[hv]at ho;cases ho
   obtain⟨xs,hx,l⟩:=ro
   exact .inl ⟨xs,.of hx,by rw[l.empty]⟩
  .cases h
 |exn c=>cases h
 |scr c=>cases h
end
theorem R.bind_assoc {α β γ:Type}{r:R α}{k:α->Store->R β}{l:β->Store->R γ}:(r.bind k).bind l=r.bind λa s=>(k a s).bind l:=by
 cases r <;> rfl
section
variable {S:Se}{X:Cx}{σ:St}{B:AJ->Prop}{φ φ1:Ph}{H H1:Hp}{st:Store}{ρ:IC.Env}{pos:CT}{a b c d:AV}{ca cb cc:Ce}{es:List AV}{ces:Ces}
theorem zdG {o:COp}{v w z:PV}(h:yE o v w=AA z):∃k,z=.bl k:=by
 cases o <;> simp only[yE]at h
 all_goals (repeat' split at h) <;> first|(cases h;done)|(cases h;exact⟨_,rfl⟩)|skip
 all_goals (simp only[ybG]at h;cases h;exact⟨_,rfl⟩)
theorem zne {op:FW}{o:COp}(ho:OpR X (compareOp op) (rT2 S X (yE o)))(ha:PE X a (tE S X ca))(hb:PE X b (tE S X cb))(hm:behindInMarks op b=AD):PT X (.Compare a [op] [b] pos) (tTs S X (.cmp o ca cb)) :=
 (zlL ho ha hb hm).imp λσ H Q ⟨B,φ,st,ρ,rs,re,h⟩=>by
  simp only[ev,ya9,R.bind_assoc]at h
  refine tE.bind rs re h λx H1 v st1 φ1 s1 rs1 re1 rv h1=>tE.bind rs1 re1 h1 λy H2 w st2 φ2 s2 rs2 re2 rw h2=>?_
  cases e:yE o v w with
  |none=>rw[e]at h2;exact h2.elim
  |some z =>
   obtain⟨k,rfl⟩:=zdG e
   rw[e]at h2
   refine⟨B,φ2,st2,v,w,.bl k,rs2,rv.step s2,rw,e,λz' H' φ' s' rs' rz=>?_⟩
   simp only[yd]at rz
   exact⟨k,rz,h2 k H' φ' s' rs' rfl⟩
theorem zmF (ha:PE X a (tE S X ca))(he:∀whole,isTrue a X.env whole=(do let v <- whole;standAt a.pos;holding [v] (truthy v)):=by intro _;rfl):PT X a (tTs S X ca) :=
 (ziy ha he).imp λσ H Q ⟨B,φ,st,ρ,rs,re,h⟩=>by
  simp only[ya9]at h
  refine tE.bind rs re h λx H1 v st1 φ1 s1 rs1 re1 rv h1=>?_
  cases e:yaP st1 v with
  |none=>rw[e]at h1;exact h1.elim
  |some k =>
   rw[e]at h1
   exact⟨k,zlf rs1 rv e,h1.ok rs1 rfl⟩
theorem tTs.bind {γ δ:Type}{Gp:Ph->Hp->γ->δ->Prop}{k:Bool->Store->R γ}{Q:δ->Hp->Prop}{P:Bool->Hp->Prop}(rs:yt X.K S.cl B φ H st)(re:yR X.K S.cl B φ H ρ σ)(h:Run S X σ B φ H Gp ((ya9 (ev S.call ρ st ca)).bind k) Q)
  (n:∀b H1 st1 φ1,Step φ H φ1 H1->yt X.K S.cl B φ1 H1 st1->yR X.K S.cl B φ1 H1 ρ σ->Run S X σ B φ1 H1 Gp (k b st1) Q->P b H1):tTs S X ca σ H P :=
 ⟨B,φ,st,ρ,rs,re,(Run.bind h).mono λx H1 ⟨v,st1,φ1,s,rs1,rv,h1⟩=>by
  subst rv
  exact n v H1 st1 φ1 s rs1 (re.step s) h1⟩
theorem zfb (r:R PV)(f:Bool->Store->R PV):ya9 (r.bind λx st1=>onBl x λb=>f b st1)=r.bind λx st1=>onBl x λb=>ya9 (f b st1):=by
 unfold ya9
 rw[R.bind_assoc]
 congr 1
 funext x st1
 cases x <;> rfl
theorem Run.bl_tru {r:R PV}{k:Bool->Store->R Bool}{Q:Bool->Hp->Prop}(h:Run S X σ B φ H RB (r.bind λx st1=>onBl x λb=>k b st1) Q):Run S X σ B φ H RB ((ya9 r).bind k) Q:=by
 cases r with
 |bad=>exact h
 |exc c s=>exact h
 |ok v s =>
  cases v with
  |bl b=>exact h
  |_=>exact h.elim
theorem znw (ha:PT X a (tTs S X ca)):PT X (.UnaryOp .Not a pos) (tTs S X (.not ca)) :=
 (znl ha).imp λσ H Q ⟨B,φ,st,ρ,rs,re,h⟩=>by
  simp only[ev]at h
  rw[zfb _ λk st1=>.ok (.bl (!k)) st1]at h
  exact tTs.bind rs re (Run.bl_tru (k:=λb st1=>.ok (!b) st1) h) λb H1 st1 φ1 s1 rs1 re1 h1=>h1.ok rs1 rfl
variable {rest:List AV}
theorem zle (ha:PT X a (tTs S X ca)):PW X (.BoolOp .And [a] pos) (tTs S X ca):=zk9 ha
theorem znW (ha:PT X a (tTs S X ca)):PW X (.BoolOp .Or [a] pos) (tTs S X ca):=znA ha
theorem zmi (ha:PT X a (tTs S X ca))(hb:PW X (.BoolOp .And (b::rest) pos) (tTs S X cb)):PW X (.BoolOp .And (a::b::rest) pos) (tTs S X (.and ca cb)) :=
 (znK ha hb).imp λσ H Q ⟨B,φ,st,ρ,rs,re,h⟩=>by
  simp only[ev]at h
  rw[zfb _ λk st1=>cond k (ev S.call ρ st1 cb) (.ok (.bl AD) st1)]at h
  refine tTs.bind rs re (Run.bl_tru h) λk H1 st1 φ1 s1 rs1 re1 h1=>?_
  cases k with
  |false=>exact h1.ok rs1 rfl
  |true=>exact⟨B,φ1,st1,ρ,rs1,re1,h1⟩
theorem zo2 (ha:PT X a (tTs S X ca))(hb:PW X (.BoolOp .Or (b::rest) pos) (tTs S X cb)):PW X (.BoolOp .Or (a::b::rest) pos) (tTs S X (.or ca cb)) :=
 (zoV ha hb).imp λσ H Q ⟨B,φ,st,ρ,rs,re,h⟩=>by
  simp only[ev]at h
  rw[zfb _ λk st1=>cond k (.ok (.bl AC) st1) (ev S.call ρ st1 cb)]at h
  refine tTs.bind rs re (Run.bl_tru h) λk H1 st1 φ1 s1 rs1 re1 h1=>?_
  cases k with
  |true=>exact h1.ok rs1 rfl
  |false=>exact⟨B,φ1,st1,ρ,rs1,re1,h1⟩
theorem zkp {op:Gr}(h:PE X a (tE S X ca)):PE X (.BoolOp op [a] pos) (tE S X ca):=znq h
theorem zj8 (ha:PE X a (tE S X ca))(hb:PE X (.BoolOp .And (b::rest) pos) (tE S X cb)):PE X (.BoolOp .And (a::b::rest) pos) (tE S X (.and ca cb)) :=
 (znE ha hb).imp λσ H Q ⟨B,φ,st,ρ,rs,re,h⟩=>by
  simp only[ev]at h
  refine tE.bind rs re h λx H1 v st1 φ1 s1 rs1 re1 rv h1=>?_
  cases v with
  |bl k =>
   simp only[yd]at rv
   refine⟨k,rv,?_⟩
   cases k with
   |true=>exact⟨B,φ1,st1,ρ,rs1,re1,h1⟩
   |false=>exact h1.ok rs1 (by simp only[yd])
  |_=>exact h1.elim
theorem zmU (ha:PE X a (tE S X ca))(hb:PE X (.BoolOp .Or (b::rest) pos) (tE S X cb)):PE X (.BoolOp .Or (a::b::rest) pos) (tE S X (.or ca cb)) :=
 (zoL ha hb).imp λσ H Q ⟨B,φ,st,ρ,rs,re,h⟩=>by
  simp only[ev]at h
  refine tE.bind rs re h λx H1 v st1 φ1 s1 rs1 re1 rv h1=>?_
  cases v with
  |bl k =>
   simp only[yd]at rv
   refine⟨k,rv,?_⟩
   cases k with
   |false=>exact⟨B,φ1,st1,ρ,rs1,re1,h1⟩
   |true=>exact h1.ok rs1 (by simp only[yd])
  |_=>exact h1.elim
theorem zni (ha:PE X a (tE S X ca)):PE X (.UnaryOp .Not a pos) (tE S X (.not ca)) :=
 (zn7 ha).imp λσ H Q ⟨B,φ,st,ρ,rs,re,h⟩=>by
  simp only[ev]at h
  refine tE.bind rs re h λx H1 v st1 φ1 s1 rs1 re1 rv h1=>?_
  cases v with
  |bl k =>
   simp only[yd]at rv
   exact⟨k,rv,h1.ok rs1 (by simp only[yd])⟩
  |_=>exact h1.elim
theorem zka (ha:PE X a (tE S X ca)):PE X (.UnaryOp .USub a pos) (tE S X (.neg ca)) :=
 (zoP znV ha).imp λσ H Q ⟨B,φ,st,ρ,rs,re,h⟩=>by
  simp only[ev]at h
  refine tE.bind rs re h λx H1 v st1 φ1 s1 rs1 re1 rv h1=>?_
  split at h1
  .simp only[yd]at rv
   exact⟨_,rv,h1.ok rs1 (by simp only[yd])⟩
  .exact h1.elim
theorem zoc (hc:PT X c (tTs S X cc))(ha:PE X a (tE S X ca))(hb:PE X b (tE S X cb)):PE X (.IfExp c a b pos) (tE S X (.ite cc ca cb)) :=
 (ziv hc ha hb).imp λσ H Q ⟨B,φ,st,ρ,rs,re,h⟩=>by
  simp only[ev]at h
  have e:((ev S.call ρ st cc).bind λx st1=>onO (yaP st1 x) λk=>cond k (ev S.call ρ st1 ca) (ev S.call ρ st1 cb))=(ya9 (ev S.call ρ st cc)).bind λk st1=>cond k (ev S.call ρ st1 ca) (ev S.call ρ st1 cb):=by
   unfold ya9
   rw[R.bind_assoc]
   congr 1
   funext x st1
   cases yaP st1 x <;> rfl
  rw[e]at h
  refine tTs.bind rs re h λk H1 st1 φ1 s1 rs1 re1 h1=>?_
  cases k with
  |true=>exact⟨B,φ1,st1,ρ,rs1,re1,h1⟩
  |false=>exact⟨B,φ1,st1,ρ,rs1,re1,h1⟩
theorem zhA:PA X [] (tAs S X .nil):=ybr.imp λσ H Q ⟨B,φ,st,ρ,rs,re,h⟩=>by
 simp only[evs]at h
 exact h.ok rs (by simp only[yg])
theorem zed (ha:PE X a (tE S X ca))(hr:PA X es (tAs S X ces))(hs:starEach (a::es) X.env=(AD,eval a X.env)::starEach es X.env:=by rfl):PA X (a::es) (tAs S X (.cons ca ces)) :=
 (zbr ha hr hs).imp λσ H Q ⟨B,φ,st,ρ,rs,re,h⟩=>by
  simp only[evs]at h
  refine tE.bind rs re h λx H1 v st1 φ1 s1 rs1 re1 rv h1=>tAs.bind rs1 re1 h1 λxs H2 vs st2 φ2 s2 rs2 re2 rvs h2=>?_
  refine h2.ok rs2 ?_
  simp only[yg]
  exact⟨x,xs,rfl,rv.step s2,rvs⟩
theorem zmP {k:Nat}(h:PA X es (tAs S X ces)):PE X (.Tuple es k pos) (tE S X (.tup ces)) :=
 (zmM h).imp λσ H Q ⟨B,φ,st,ρ,rs,re,h⟩=>by
  simp only[ev]at h
  refine tAs.bind rs re h λxs H1 vs st1 φ1 s1 rs1 re1 rv h1=>?_
  split at h1
  .rename_i c
   refine⟨by rw[<- zz,<- rv.length];exact c,λp hp=>h1 _ _ φ1 (.upd hp) (rs1.upd hp) (.tup_new hp rs1 rv)⟩
  .exact h1.elim
theorem zm2 (h:PA X es (tAs S X ces)):PE X (.List es pos) (tE S X (.lst ces)) :=
 (zjQ h).imp λσ H Q ⟨B,φ,st,ρ,rs,re,h⟩=>by
  simp only[ev]at h
  refine tAs.bind rs re h λxs H1 vs st1 φ1 s1 rs1 re1 rv h1=>?_
  split at h1
  .rename_i c
   refine⟨by rw[<- zz,<- rv.length];exact c,λp hp=>h1 _ _ φ1 (.upd hp) (rs1.upd hp) (.lst_new hp rs1 rv)⟩
  .exact h1.elim
theorem Step.push {p:AJ}{o:HO}(hp:H p=AE):Step φ H (φ++[AA p]) (L2.upd H p o):=by
 refine⟨λb u n e=>by rw[zj (zl e hp)];exact e,by simp,λn a hn e=>?_,λb h=>?_⟩
 .rw[Ac hn]at e
  exact e
 .rw[Ag]at h
  rcases h with h|h
  .exact .inl h
  .have:b=p:=by simpa using h
   subst this
   exact .inr hp
theorem yt.push {K:AG}{cl:Nat->AJ}{p:AJ}{u:HO}{o:Ob}(rs:yt K cl B φ H st)(hp:H p=AE)(hb:¬B p)(ho:yco K cl B (φ++[AA p]) (L2.upd H p u) o p):yt K cl B (φ++[AA p]) (L2.upd H p u) (st++[o]):=by
 have s:Step φ H (φ++[AA p]) (L2.upd H p u):=.push hp
 have np:AA p∉φ:=λz=>by
  obtain⟨w,e⟩:=rs.there z
  rw[hp]at e;cases e
 have hl:φ.length=st.length:=rs.len
 refine⟨by simp[hl],λm n a e1 e2=>?_,λn a e=>?_,λn o' e ho'=>?_,λa h=>?_,λa h=>?_⟩
 .by_cases hm:m<φ.length
  .rw[Ac hm]at e1
   by_cases hn:n<φ.length
   .rw[Ac hn]at e2
    exact rs.inj m n a e1 e2
   .rw[Ao (by omega)]at e2
    have:a=p:=by
     cases q:n - φ.length with
     |zero=>rw[q]at e2;simpa using e2.symm
     |succ k=>rw[q]at e2;simp at e2
    subst this
    exact absurd (A1 e1) np
  .rw[Ao (by omega)]at e1
   have:m - φ.length=0/\a=p:=by
    cases q:m - φ.length with
    |zero=>rw[q]at e1;exact⟨rfl,by simpa using e1.symm⟩
    |succ k=>rw[q]at e1;simp at e1
   obtain⟨q1,rfl⟩:=this
   by_cases hn:n<φ.length
   .rw[Ac hn]at e2
    exact absurd (A1 e2) np
   .rw[Ao (by omega)]at e2
    have:n - φ.length=0:=by
     cases q:n - φ.length with
     |zero=>rfl
     |succ k=>rw[q]at e2;simp at e2
    omega
 .by_cases hn:n<φ.length
  .rw[Ac hn]at e
   obtain⟨o',q,r⟩:=rs.obj n a e
   refine⟨o',by rw[Ac (by omega)];exact q,r.step s ?_⟩
   rw[zj]
   rintro rfl
   exact np (A1 e)
  .rw[Ao (by omega)]at e
   have:n - φ.length=0/\a=p:=by
    cases q:n - φ.length with
    |zero=>rw[q]at e;exact⟨rfl,by simpa using e.symm⟩
    |succ k=>rw[q]at e;simp at e
   obtain⟨q1,rfl⟩:=this
   refine⟨o,?_,ho⟩
   rw[Ao (by omega)]
   have:n - st.length=0:=by omega
   rw[this];rfl
 .by_cases hn:n<φ.length
  .rw[Ac (by omega)]at e
   obtain⟨a,q⟩:=rs.liv n o' e ho'
   exact⟨a,by rw[Ac hn];exact q⟩
  .rw[Ao (by omega)]at e
   have:n - st.length=0:=by
    cases q:n - st.length with
    |zero=>rfl
    |succ k=>rw[q]at e;simp at e
   refine⟨p,?_⟩
   rw[Ao (by omega)]
   have:n - φ.length=0:=by omega
   rw[this];rfl
 .rw[Ag]at h
  rcases h with h|h
  .exact rs.nb a h
  .have:a=p:=by simpa using h
   subst this
   exact hb
 .obtain⟨w,e⟩:=rs.dom a h
  exact⟨w,by rw[zj (zl e hp)];exact e⟩
theorem yt.nB {K:AG}{cl:Nat->AJ}{p:AJ}(rs:yt K cl B φ H st)(hp:H p=AE):¬B p:=λz=>by
 obtain⟨o,e⟩:=rs.dom p z
 rw[hp]at e;cases e
theorem yd.loc_new {K:AG}{cl:Nat->AJ}{p:AJ}(rs:yt K cl B φ H st):yd K cl B (φ++[AA p]) H1 (.loc st.length) (.ref p):=by
 simp only[yd]
 have hl:=rs.len
 refine⟨by simp[hl],p,rfl,λb e=>?_⟩
 rw[Ao (by omega)]at e
 have:st.length - φ.length=0:=by omega
 rw[this]at e
 simpa using e.symm
theorem zk6 (h:PA X es (tAs S X ces)):PE X (.List es pos) (tE S X (.newl ces)) :=
 (zjQ h).imp λσ H Q ⟨B,φ,st,ρ,rs,re,h⟩=>by
  simp only[ev]at h
  refine tAs.bind rs re h λxs H1 vs st1 φ1 s1 rs1 re1 rv h1=>?_
  split at h1
  .rename_i c
   refine⟨by rw[<- zz,<- rv.length];exact c,λp hp=>h1 _ _ (φ1++[AA p]) (.push hp) (rs1.push hp (rs1.nB hp) ⟨xs,zp,rv.step (.push hp)⟩) (.loc_new rs1)⟩
  .exact h1.elim
end
section
variable {S:Se}{X:Cx}{σ:St}{B:AJ->Prop}{φ φ1:Ph}{H H1:Hp}{st:Store}{ρ:IC.Env}{pos p2:CT}{a b c d:AV}{ca cb cc:Ce}{es:List AV}{ces:Ces}{K:AG}{cl:Nat->AJ}
theorem zgF {o:COp}{v w:PV}{α β:Type}{Rel:Ph->Hp->α->β->Prop}{k:Bool->R α}{Q:β->Hp->Prop}(h:Run S X σ B φ H Rel (onO (blO (yE o v w)) k) Q):∃b,yE o v w=AA (.bl b)/\Run S X σ B φ H Rel (k b) Q:=by
 cases e:yE o v w with
 |none=>rw[e]at h;exact h.elim
 |some z =>
  obtain⟨b,rfl⟩:=zdG e
  rw[e]at h
  exact⟨b,rfl,h⟩
theorem zjE {op op':FW}{o p:COp}(ho:OpR X (compareOp op) (rT2 S X (yE o)))(ho':OpR X (compareOp op') (rT2 S X (yE p)))(ha:PE X a (tE S X ca))(hb:PE X b (tE S X cb))(hc:PE X c (tE S X cc))
  (hm:lastMarks [op,op'] [b,c]=false:=by ac_rfl):PE X (.Compare a [op,op'] [b,c] pos) (tE S X (.chain o p ca cb cc)) :=
 (ziD ho ho' ha hb hc hm).imp λσ H Q ⟨B,φ,st,ρ,rs,re,h⟩=>by
  simp only[ev]at h
  refine tE.bind rs re h λx H1 v st1 φ1 s1 rs1 re1 rv h1=>tE.bind rs1 re1 h1 λy H2 w st2 φ2 s2 rs2 re2 rw h2=>?_
  obtain⟨k,e,h2⟩:=zgF h2
  refine⟨B,φ2,st2,v,w,.bl k,rs2,rv.step s2,rw,e,λz' H' φ' s' rs' rz=>?_⟩
  simp only[yd]at rz
  refine⟨k,rz,?_⟩
  cases k with
  |false=>exact h2 _ H' φ' s' rs' (by simp only[yd])
  |true =>
   refine tE.bind rs' (re2.step s') (Run.on s' h2) λz H3 v3 st3 φ3 s3 rs3 re3 rv3 h3=>?_
   obtain⟨q,eq,hq⟩:=zag h3 rs3
   exact⟨B,φ3,st3,w,v3,q,rs3,(rw.step s').step s3,rv3,eq,hq⟩
theorem ziC {op op':FW}{o p:COp}(ho:OpR X (compareOp op) (rT2 S X (yE o)))(ho':OpR X (compareOp op') (rT2 S X (yE p)))(ha:PE X a (tE S X ca))(hb:PE X b (tE S X cb))(hc:PE X c (tE S X cc))
  (hm:lastMarks [op,op'] [b,c]=false:=by ac_rfl):PT X (.Compare a [op,op'] [b,c] pos) (tTs S X (.chain o p ca cb cc)) :=
 (zjD ho ho' ha hb hc hm).imp λσ H Q ⟨B,φ,st,ρ,rs,re,h⟩=>by
  simp only[ev,ya9,R.bind_assoc]at h
  refine tE.bind rs re h λx H1 v st1 φ1 s1 rs1 re1 rv h1=>tE.bind rs1 re1 h1 λy H2 w st2 φ2 s2 rs2 re2 rw h2=>?_
  have h2':Run S X σ B φ2 H2 RB (onO (blO (yE o v w)) λk=>cond k ((ev S.call ρ st2 cc).bind λz st3=>(toR (yE p w z) st3).bind λx st=>onO (yaP st x) λb=>.ok b st) (.ok AD st2)) Q:=by
   cases e:yE o v w with
   |none=>rw[e]at h2;exact h2
   |some z =>
    obtain⟨b,rfl⟩:=zdG e
    rw[e]at h2
    cases b with
    |false=>exact h2
    |true =>
     simp only[blO,onO,cond_true,R.bind_assoc]at h2 ⊢
     exact h2
  obtain⟨k,e,h2⟩:=zgF h2'
  refine⟨B,φ2,st2,v,w,.bl k,rs2,rv.step s2,rw,e,λz' H' φ' s' rs' rz=>?_⟩
  simp only[yd]at rz
  refine⟨k,rz,?_⟩
  cases k with
  |false=>exact⟨AD,rfl,h2 _ H' φ' s' rs' rfl⟩
  |true =>
   refine tE.bind rs' (re2.step s') (Run.on s' h2) λz H3 v3 st3 φ3 s3 rs3 re3 rv3 h3=>?_
   cases eq:yE p w v3 with
   |none=>rw[eq]at h3;exact h3.elim
   |some q =>
    obtain⟨b,rfl⟩:=zdG eq
    rw[eq]at h3
    refine⟨B,φ3,st3,w,v3,.bl b,rs3,(rw.step s').step s3,rv3,eq,λz2 H4 φ4 s4 rs4 rz4=>?_⟩
    simp only[yd]at rz4
    exact⟨b,rz4,h3 b H4 φ4 s4 rs4 rfl⟩
theorem yg.at {vs:List PV}{xs:List V}{i:Int}{v:PV}(l:yg K cl B φ H vs xs)(h:at? vs i=AA v):∃x,atI xs i=AA x/\yd K cl B φ H v x:=by
 unfold at? at h
 rw[l.length]at h
 unfold atI
 cases e:ixI xs.length i with
 |none=>rw[e]at h;cases h
 |some j =>
  rw[e]at h
  have e':ixN xs.length i=AA j:=e
  rw[e']
  exact l.get j h
theorem yt.list {n:Nat}{vs:List PV}{x:V}(rs:yt K cl B φ H st)(r:yd K cl B φ H (.loc n) x)(h:st[n]?=AA (.lst vs)):∃a xs,x=.ref a/\φ[n]?=AA (AA a)/\H a=AA (.lst xs)/\yg K cl B φ H vs xs:=by
 simp only[yd]at r
 obtain⟨hn,a,rfl,ha⟩:=r
 obtain⟨b,hb⟩:=rs.liv n _ h (by intro z;cases z)
 obtain rfl:=ha b hb
 obtain⟨o,ho,ro⟩:=rs.obj n b hb
 rw[h]at ho;cases ho
 obtain⟨xs,hx,l⟩:=ro
 exact⟨b,xs,rfl,hb,hx,l⟩
def rTS (S:Se)(X:Cx)(f:Store->PV->PV->Option PV):R2:=λx y H Q=>∃B φ st v w z,yt X.K S.cl B φ H st/\yd X.K S.cl B φ H v x/\yd X.K S.cl B φ H w y/\f st v w=AA z /\
 ∀z' H' φ',Step φ H φ' H'->yt X.K S.cl B φ' H' st->yd X.K S.cl B φ' H' z z'->Q z' H'
theorem zcj {α:Type}{xs:List α}{i:PV}{z:α}(h:yba xs i=AA z):∃k,i=.int k/\at? xs k=AA z:=by
 cases i with
 |int k=>exact⟨k,rfl,h⟩
 |_=>cases h
theorem zlC:IxR X (rTS S X idxV):=by
 rintro value slice pins s σ H x y v u Q I rx ry ⟨B,φ,st,a,i,z,rs,ra,ri,e,q⟩ hs
 cases a with
 |tp k vs =>
  obtain⟨k,rfl,e⟩:=zcj e
  simp only[yd]at ra ri
  subst ri
  obtain⟨p,xs,rfl,rt,l⟩:=ra
  obtain⟨w,e1,rw⟩:=l.at e
  exact zfF value slice pins s σ H _ _ v u Q I rx ry (.inr (.inl ⟨p,xs,k,w,rfl,rfl,rt.sq,e1,q w H φ .rfl rs rw⟩)) hs
 |lst vs =>
  obtain⟨k,rfl,e⟩:=zcj e
  simp only[yd]at ra ri
  subst ri
  obtain⟨p,xs,rfl,rt,l⟩:=ra
  obtain⟨w,e1,rw⟩:=l.at e
  exact zfF value slice pins s σ H _ _ v u Q I rx ry (.inl ⟨p,xs,k,w,rfl,rfl,rt.sq,e1,q w H φ .rfl rs rw⟩) hs
 |loc n =>
  simp only[idxV]at e
  split at e
  .rename_i vs h1
   obtain⟨k,rfl,e⟩:=zcj e
   simp only[yd]at ri
   subst ri
   obtain⟨p,xs,rfl,_,hx,l⟩:=rs.list ra h1
   obtain⟨w,e1,rw⟩:=l.at e
   exact zfF value slice pins s σ H _ _ v u Q I rx ry (.inl ⟨p,xs,k,w,rfl,rfl,.of hx,e1,q w H φ .rfl rs rw⟩) hs
  .cases e
 |str t =>
  simp only[idxV]at e
  split at e
  .rename_i hl
   cases e1:yba t.cps.toList i with
   |none=>rw[e1]at e;cases e
   |some c =>
    rw[e1]at e
    cases e
    obtain⟨k,rfl,e1⟩:=zcj e1
    simp only[yd]at ra ri
    subst ra ri
    exact zfF value slice pins s σ H _ _ v u Q I rx ry (.inr (.inr ⟨t,k,c,rfl,rfl,by rw[<- zz];exact hl,e1,q _ H φ .rfl rs (by simp only[yd])⟩)) hs
  .cases e
 |_=>cases e
theorem zmO (ha:PE X a (tE S X ca))(hb:PE X b (tE S X cb))(hs:ybB b:=by exact λ_ _=>rfl):PE X (.Subscript a b pos) (tE S X (.idx ca cb)) :=
 (zoM zlC ha hb hs).imp λσ H Q ⟨B,φ,st,ρ,rs,re,h⟩=>by
  simp only[ev]at h
  refine tE.bind rs re h λx H1 v st1 φ1 s1 rs1 re1 rv h1=>tE.bind rs1 re1 h1 λy H2 w st2 φ2 s2 rs2 re2 rw h2=>?_
  obtain⟨z,e,q⟩:=zag h2 rs2
  exact⟨B,φ2,st2,v,w,z,rs2,rv.step s2,rw,e,q⟩
theorem yg.cut {vs:List PV}{xs:List V}(lo hi:Option Int)(l:yg K cl B φ H vs xs):yg K cl B φ H (IC.cut vs lo hi) (ycy xs lo hi):=by
 have e1:∀n o,ycS n o=HT.sIx n 0 o:=λn o=>by cases o <;> rfl
 have e2:∀n o,yc6 n o=HT.sIx n n o:=λn o=>by cases o <;> rfl
 unfold IC.cut ycy
 rw[l.length,e1,e2]
 exact(l.drop _).take _
def tO (S:Se)(X:Cx)(c:Ce):TO:=λσ H Q=>tE S X c σ H λx H1=>(x=.non/\Q AE H1) \/ ∃i,x=.int i/\Q (AA i) H1
theorem zl2:PO X AE (tO S X (.cst .non)):=λpins s σ H Q I h=>by
 refine zls pins s σ H Q I ?_
 obtain⟨B,φ,st,ρ,rs,re,h⟩:=h
 simp only[ev]at h
 rcases h.ok rs (x:=V.non) (by simp only[yd])with q|⟨i,z,_⟩
 .exact q.2
 .cases z
theorem zkQ (ha:PE X a (tE S X ca)):PO X (AA a) (tO S X ca):=by
 intro pins s σ H Q I hw
 rw[evalPart_some]
 refine thn (ha pins s σ H _ I hw) λu s1 ⟨x,H1,I1,r1,q1⟩=>?_
 rcases q1 with⟨rfl,q⟩|⟨i,rfl,q⟩
 .cases r1
  exact⟨AE,H1,I1,.none,q⟩
 .obtain⟨t,rfl⟩:=r1
  exact⟨AA i,H1,I1,.int i t,q⟩
def rSl (S:Se)(X:Cx):V->Option Int->Option Int->Hp->VK->Prop:=λx lo hi H Q=>∃B φ st v z,yt X.K S.cl B φ H st/\yd X.K S.cl B φ H v x/\ycA v lo hi=AA z /\
 ∀z' H' φ',Step φ H φ' H'->yt X.K S.cl B φ' H' st->yd X.K S.cl B φ' H' z z'->Q z' H'
theorem zbt {prog:A4}{w:Af}{A:Ar}{E:AH->AK->Prop}{s:AK}{t sl:AJ}{items:Array AH}{vl vu:AH}{lo hi:Option Int}{Q:AH->AK->Prop}(ht:Gg s.heap t items)(hs:s.heap.IsSliceOf sl vl vu .none)(pl:Eh vl lo)(pu:Eh vu hi)
  (hw:HT.sIx items.size 0 lo=0/\HT.sIx items.size items.size hi=items.size)
  (h:Q (.ref t) s):AZ (model prog w) A (getItem (.ref t) (.ref sl)) Q E s:=by
 obtain⟨os,hos,hcs,hds⟩:=id hs
 have hTs:s.TypeIs (.ref sl) "slice":=⟨os,hos,hcs⟩
 unfold getItem
 try with_reducible refine Cv ?_
 first|refine AI (AQ ?_)|skip
 refine AI (ES ht.typeIs (by decide) ?_)
 refine AI (B1 (name:=AF "__getitem__") ht.typeIs Ab
  (CG Ab ht.typeIs Dj ?_ (EB _ _)))
 show AZ _ _ (Cg (.ref t) >>= _) _ _ s
 refine AI (EL ht ?_)
 refine AI (Ei hTs ?_)
 rw[if_pos (by decide)]
 refine AI (HT.sliceApplied_gen hs pl pu ?_)
 have hyes:(((HT.sIx items.size 0 lo:Nat):Int) == 0 && (1:Int) == 1 && (HT.sIx items.size items.size hi - HT.sIx items.size 0 lo) == items.size)=true:=by
  rw[hw.1,hw.2]
  simp
 show AZ _ _ (if (((HT.sIx items.size 0 lo:Nat):Int) == 0 && (1:Int) == 1 && (HT.sIx items.size items.size hi - HT.sIx items.size 0 lo) == items.size)=AC then _ else _) _ _ s
 rw[if_pos hyes]
 refine AI (AI (Ei ht.typeIs (AQ ?_)))
 rw[if_pos (by decide)]
 first
  | exact AI (AQ (AQ ⟨_,rfl,AQ h⟩))
  | exact AI (Ee (AQ ⟨_,rfl,AQ h⟩))
  | (wp_step;wp_step;exact⟨_,rfl,AQ h⟩)
noncomputable def ygd (K:AG):V->Option Int->Option Int->Hp->VK->Prop:=λx lo hi H Q=>∃a xs,x=.ref a/\SqT K H a xs /\
 (HT.sIx xs.length 0 lo=0/\HT.sIx xs.length xs.length hi=xs.length)/\Q (.ref a) H
theorem zjp:SlR X (ygd X.K):=by
 intro pins s σ H x v vl vu lo hi sl Q I rx hs pl pu h
 obtain⟨a,xs,rfl,hx,hw,q⟩:=h
 cases rx
 obtain⟨its,r,ht,hz⟩:=I.tuple hx
 have hlen:its.toArray.size=xs.length:=by rw[AW];exact r.length.symm
 refine⟨"tuple",_,Ab.lookup,ht.typeIs,?_⟩
 exact zbt ht hs pl pu (by rw[hlen];exact hw) ⟨.ref a,H,I,rfl,q⟩
noncomputable def ygJ:V->Option Int->Option Int->Hp->VK->Prop:=λx lo hi H Q=>∃y:AR,x=.str y/\y.length<=sizeLine/\Q (.str ⟨((y.cps.toList.drop (HT.sIx y.cps.toList.length 0 lo)).take (HT.sIx y.cps.toList.length y.cps.toList.length hi - HT.sIx y.cps.toList.length 0 lo)).toArray⟩) H
theorem yg6 (lo hi:Option Int)(n:Nat):Dp lo hi 1 n=sliceRange ((HT.sIx n 0 lo:Nat):Int) ((HT.sIx n n hi:Nat):Int) 1:=by
 unfold Dp
 simp only[show (1:Int) > 0 by decide,if_true]
 congr 1
 .cases lo with
  |none=>simp[HT.sIx]
  |some i =>
   simp only[HT.sIx]
   by_cases h:i<0
   .simp only[h,if_true] <;> omega
   .simp only[h,if_false] <;> omega
 .cases hi with
  |none=>simp[HT.sIx]
  |some i =>
   simp only[HT.sIx]
   by_cases h:i<0
   .simp only[h,if_true] <;> omega
   .simp only[h,if_false] <;> omega
theorem zhS (y:AR)(lo hi:Option Int):Txt.slice y lo hi=⟨((y.cps.toList.drop (HT.sIx y.cps.toList.length 0 lo)).take (HT.sIx y.cps.toList.length y.cps.toList.length hi - HT.sIx y.cps.toList.length 0 lo)).toArray⟩:=by
 have hn:y.length=y.cps.toList.length:=by simp[Str.length]
 unfold Txt.slice
 rw[yg6,hn,sliceRange_one]
 have ha:=HT.sIx_le y.cps.toList.length 0 (DD _) lo
 have hb:=HT.sIx_le y.cps.toList.length y.cps.toList.length (AT _) hi
 generalize HT.sIx y.cps.toList.length 0 lo=a at *
 generalize HT.sIx y.cps.toList.length y.cps.toList.length hi=b at *
 split
 .rename_i c
  simp only[Ap,List.length_range,AL,beq_iff_eq]at c
  obtain⟨rfl,rfl⟩:a=0/\b=y.cps.toList.length:=by omega
  rw[G9,Nat.sub_zero,GI]
 .rw[pick_run]
theorem zk0:SlR X ygJ:=by
 intro pins s σ H x v vl vu lo hi sl Q I rx hs pl pu h
 obtain⟨y,rfl,hz,q⟩:=h
 obtain⟨t,rfl⟩:=rx
 rw[<- zhS]at q
 refine⟨"str",_,PySem.F.slot_str_getitem.lookup,G6 _ _ _,?_⟩
 have go:∀l u:Option (Int×HF),vl=partValue l->vu=partValue u->lo=l.map (·.1)->hi=u.map (·.1)->AZ (model X.prog X.w) X.A (getItem (.str y t) (.ref sl)) (EP X pins σ Q) X.xe s:=by
  rintro l u rfl rfl rfl rfl
  refine wpAny_getItem_str_slice (l:=l) (u:=u) (st:=AE) hs rfl ?_
  exact post_val_or_str ⟨BZ (Txt.slice_le y _ _) hz,λt' k=>⟨.str _,H,I.tok k,⟨_,rfl⟩,q⟩⟩
 cases pl with
 |none =>
  cases pu with
  |none=>exact go AE AE rfl rfl rfl rfl
  |int j u=>exact go AE (AA (j,u)) rfl rfl rfl rfl
 |int i t1 =>
  cases pu with
  |none=>exact go (AA (i,t1)) AE rfl rfl rfl rfl
  |int j u=>exact go (AA (i,t1)) (AA (j,u)) rfl rfl rfl rfl
theorem zkH:SlR X (rSl S X):=by
 rintro pins s σ H x v vl vu lo hi sl Q I rx hs pl pu ⟨B,φ,st,w,z,rs,rw,e,q⟩
 have e1:∀n o,ycS n o=HT.sIx n 0 o:=λn o=>by cases o <;> rfl
 have e2:∀n o,yc6 n o=HT.sIx n n o:=λn o=>by cases o <;> rfl
 cases w with
 |tp k vs =>
  simp only[ycA]at e
  split at e
  .rename_i c
   cases e
   have rw':=rw
   simp only[yd]at rw
   obtain⟨p,xs,rfl,rt,l⟩:=rw
   refine zjp pins s σ H _ v vl vu lo hi sl Q I rx hs pl pu ⟨p,xs,rfl,rt.sq,?_,q _ H φ .rfl rs rw'⟩
   rw[l.length,e1,e2]at c
   exact c
  .rename_i c
   cases e
   simp only[yd]at rw
   obtain⟨p,xs,rfl,rt,l⟩:=rw
   refine zmR pins s σ H _ v vl vu lo hi sl Q I rx hs pl pu ⟨p,xs,rfl,rt.sq,?_,λt ht=>q _ _ φ (.upd ht) (rs.upd ht) (.tup_new ht rs (l.cut lo hi))⟩
   rw[l.length,e1,e2]at c
   exact c
 |str y =>
  simp only[ycA]at e
  split at e
  .rename_i c
   cases e
   simp only[yd]at rw
   subst rw
   refine zk0 pins s σ H _ v vl vu lo hi sl Q I rx hs pl pu ⟨y,rfl,by rw[<- zz];exact c,?_⟩
   have:=q (.str ⟨(cut y.cps.toList lo hi).toArray⟩) H φ .rfl rs (by simp only[yd])
   rw[cut,e1,e2]at this
   exact this
  .cases e
 |lst vs =>
  simp only[ycA]at e
  cases e
  simp only[yd]at rw
  obtain⟨p,xs,rfl,rt,l⟩:=rw
  exact zhR pins s σ H _ v vl vu lo hi sl Q I rx hs pl pu ⟨p,xs,rfl,rt.sq,λt ht=>q _ _ φ (.upd ht) (rs.upd ht) (.lst_new ht rs (l.cut lo hi))⟩
 |scr vs =>
  simp only[ycA]at e
  cases e
  simp only[yd]at rw
  obtain⟨p,xs,rfl,rt,l⟩:=rw
  exact zhR pins s σ H _ v vl vu lo hi sl Q I rx hs pl pu ⟨p,xs,rfl,(by rcases rt with rt|rt;exact .inl rt.1;exact .inr rt),λt ht=>q _ _ φ (.upd ht) (rs.upd ht) (.lst_new ht rs (l.cut lo hi))⟩
 |_=>cases e
theorem znB {lo hi:Option AV}(ha:PE X a (tE S X ca))(hl:PO X lo (tO S X cb))(hh:PO X hi (tO S X cc)):PE X (.Subscript a (.Slice lo hi AE p2) pos) (tE S X (.slc ca cb cc)) :=
 (zjv zkH ha hl hh).imp λσ H Q ⟨B,φ,st,ρ,rs,re,h⟩=>by
  simp only[ev]at h
  have oi:∀{v:PV} {x:V} {o:Option Int} {B φ H},yd X.K S.cl B φ H v x->yb1 v=AA o->(x=.non/\o=AE) \/ ∃i,x=.int i/\o=AA i:=λ{v x o B φ H} r e=>by
   cases v with
   |non=>simp only[yd]at r;cases e;exact .inl ⟨r,rfl⟩
   |int i=>simp only[yd]at r;cases e;exact .inr ⟨i,r,rfl⟩
   |_=>cases e
  refine tE.bind rs re h λx H1 v st1 φ1 s1 rs1 re1 rv h1=>tE.bind rs1 re1 h1 λy H2 w st2 φ2 s2 rs2 re2 rw h2=>?_
  cases eo:yb1 w with
  |none=>rw[eo]at h2;exact h2.elim
  |some o1 =>
   rw[eo]at h2
   have key:tO S X cc σ H2 λu H3=>rSl S X x o1 u H3 Q:=by
    refine tE.bind rs2 re2 h2 λy' H3 w' st3 φ3 s3 rs3 re3 rw' h3=>?_
    obtain⟨z,e,q⟩:=zag h3 rs3
    unfold ycm at e
    cases eo':yb1 w' with
    |none=>rw[eo']at e;cases e
    |some o2 =>
     rw[eo']at e
     have fin:rSl S X x o1 o2 H3 Q:=⟨B,φ3,st3,v,z,rs3,(rv.step s2).step s3,e,q⟩
     rcases oi rw' eo' with⟨rfl,rfl⟩|⟨i,rfl,rfl⟩
     .exact .inl ⟨rfl,fin⟩
     .exact .inr ⟨i,rfl,fin⟩
   rcases oi rw eo with⟨rfl,rfl⟩|⟨i,rfl,rfl⟩
   .exact .inl ⟨rfl,key⟩
   .exact .inr ⟨i,rfl,key⟩
end
section
variable {S:Se}{X:Cx}{σ:St}{B:AJ->Prop}{φ φ1:Ph}{H H1:Hp}{st:Store}{ρ:IC.Env}{p pos p2:CT}{a b c d:AV}{ca cb cc:Ce}{es:List AV}{ces:Ces}{K:AG}{cl:Nat->AJ}
def rB (S:Se)(X:Cx)(k:Blt):List V->Hp->VK->Prop:=λxs H Q=>∃B φ st vs z,yt X.K S.cl B φ H st/\yg X.K S.cl B φ H vs xs/\yay k st vs=AA z /\
 ∀z' H' φ',Step φ H φ' H'->yt X.K S.cl B φ' H' st->yd X.K S.cl B φ' H' z z'->Q z' H'
theorem yg.one {v:PV}{xs:List V}(l:yg K cl B φ H [v] xs):∃x,xs=[x]/\yd K cl B φ H v x:=by
 simp only[yg]at l
 obtain⟨y,ys,rfl,r,rfl⟩:=l
 exact⟨y,rfl,r⟩
theorem yg.two {v w:PV}{xs:List V}(l:yg K cl B φ H [v,w] xs):∃x y,xs=[x,y]/\yd K cl B φ H v x/\yd K cl B φ H w y:=by
 simp only[yg]at l
 obtain⟨y,ys,rfl,r,z,zs,rfl,r2,rfl⟩:=l
 exact⟨y,z,rfl,r,r2⟩
theorem zdU {k:Blt}{st:Store}{vs:List PV}{z:PV}(h:yay k st vs=AA z)(h2:∀x y,yay k st [x,y]=AE):∃x,vs=[x]:=by
 match vs,h with
 | [x],_=>exact⟨x,rfl⟩
 | [x,y],h=>rw[h2]at h;cases h
theorem zc7 {v:PV}{x:V}{vs:List PV}(rs:yt K cl B φ H st)(r:yd K cl B φ H v x)(h:yaa st v=AA vs):∃a xs,x=.ref a/\SqL K H a xs/\yg K cl B φ H vs xs:=by
 cases v with
 |lst ws =>
  cases h
  simp only[yd]at r
  obtain⟨a,xs,rfl,rt,l⟩:=r
  exact⟨a,xs,rfl,rt.sq,l⟩
 |loc n =>
  simp only[yaa]at h
  split at h
  .rename_i ws hw
   cases h
   obtain⟨a,xs,rfl,_,hx,l⟩:=rs.list r hw
   exact⟨a,xs,rfl,.of hx,l⟩
  .cases h
 |_=>cases h
theorem zmz {v:PV}{x:V}{vs:List PV}(rs:yt K cl B φ H st)(r:yd K cl B φ H v x)(h:yb9 st v=AA vs):∃a xs,x=.ref a/\(SqL K H a xs \/ SqT K H a xs)/\yg K cl B φ H vs xs:=by
 cases v with
 |tp k ws =>
  cases h
  simp only[yd]at r
  obtain⟨a,xs,rfl,rt,l⟩:=r
  exact⟨a,xs,rfl,.inr rt.sq,l⟩
 |lst ws =>
  obtain⟨a,xs,e,q,l⟩:=zc7 rs r (vs:=vs) h
  exact⟨a,xs,e,.inl q,l⟩
 |loc n =>
  obtain⟨a,xs,e,q,l⟩:=zc7 rs r (vs:=vs) h
  exact⟨a,xs,e,.inl q,l⟩
 |_=>cases h
theorem znU:yao X (.builtin "len") (rB S X .len):=by
 rintro pins s σ H xs us Q I r ⟨B,φ,st,vs,z,rs,l,e,q⟩
 obtain⟨v,rfl⟩:=zdU e λ_ _=>rfl
 obtain⟨x,rfl,rv⟩:=l.one
 simp only[yay,lenV]at e
 split at e
 .rename_i t
  split at e
  .rename_i c
   cases e
   simp only[yd]at rv
   subst rv
   exact zeu pins s σ H _ us Q I r ⟨t,rfl,by rw[<- zz];exact c,q _ H φ .rfl rs (by simp only[yd])⟩
  .cases e
 .cases e1:yb9 st v with
  |none=>rw[e1]at e;cases e
  |some ws =>
   rw[e1]at e
   cases e
   obtain⟨a,ys,rfl,h,l⟩:=zmz rs rv e1
   refine zeD pins s σ H _ us Q I r ⟨a,ys,rfl,?_,q _ H φ .rfl rs (by simp only[yd];rw[l.length])⟩
   exact h
theorem zjU:∀{vs:List PV} {m:Int},ydN vs=AA m->∃ns:List Int,vs=ns.map .int/\m∈ns/\∀a∈ns,a<=m
 | [],m,h=>by cases h
 | [.int i],m,h=>by cases h;exact⟨[i],rfl,by simp,by simp⟩
 | .int i::w::r,m,h=>by
  simp only[ydN]at h
  split at h
  .rename_i c e
   cases h
   obtain⟨ns,e1,e2,e3⟩:=zjU e
   refine⟨i::ns,by rw[e1];rfl,?_,λa ha=>?_⟩
   .split
    .exact AS _ e2
    .exact Ai
   .rcases AU.mp ha with rfl|ha
    .split <;> omega
    .have:=e3 a ha
     split <;> omega
  .cases h
 | .non::r,m,h=>by cases r <;> cases h
 | .bl _::r,m,h=>by cases r <;> cases h
 | .str _::r,m,h=>by cases r <;> cases h
 | .tp _ _::r,m,h=>by cases r <;> cases h
 | .lst _::r,m,h=>by cases r <;> cases h
 | .loc _::r,m,h=>by cases r <;> cases h
 | .exn _::r,m,h=>by cases r <;> cases h
 | .scr _::r,m,h=>by cases r <;> cases h
theorem yg.ints:∀{ns:List Int} {xs:List V},yg K cl B φ H (ns.map .int) xs->xs=ns.map V.int
 | [],xs,h=>by simpa only[A6,yg] using h
 |n::ns,xs,h=>by
  simp only[AM,yg]at h
  obtain⟨y,ys,rfl,r,l⟩:=h
  simp only[yd]at r
  rw[r,yg.ints l]
  rfl
theorem yg.bls:∀{ns:List Bool} {xs:List V},yg K cl B φ H (ns.map .bl) xs->xs=ns.map V.bl
 | [],xs,h=>by simpa only[A6,yg] using h
 |n::ns,xs,h=>by
  simp only[AM,yg]at h
  obtain⟨y,ys,rfl,r,l⟩:=h
  simp only[yd]at r
  rw[r,yg.bls l]
  rfl
theorem zkA {v w z:PV}(e:maxV v w=AA z):∃i j,v=.int i/\w=.int j/\z=.int (if i<j then j else i):=by
 unfold maxV at e
 split at e
 .exact⟨_,_,rfl,rfl,(AX e).symm⟩
 .cases e
theorem zmh (hc:X.calm=AC):yao X (.builtin "max") (rB S X .max):=by
 rintro pins s σ H xs us Q I r ⟨B,φ,st,vs,z,rs,l,e,q⟩
 rcases vs with _|⟨v,_|⟨w,_|⟨u',t⟩⟩⟩
 .simp[yay]at e
 .obtain⟨x,rfl,rv⟩:=l.one
  simp only[yay]at e
  cases e1:yaa st v with
  |none=>rw[e1]at e;cases e
  |some ws =>
   rw[e1]at e
   simp only[BW]at e
   cases e2:ydN ws with
   |none=>rw[e2]at e;cases e
   |some m =>
    rw[e2]at e
    obtain rfl:=AX e
    obtain⟨ns,rfl,hm,hb⟩:=zjU e2
    obtain⟨a,ys,rfl,h,l⟩:=zc7 rs rv e1
    rw[l.ints]at h
    refine zhi hc pins s σ H _ us Q I r ⟨a,ns,rfl,h,List.length_pos_of_mem hm,λM h1 h2=>?_⟩
    have:M=m:=by
     have:=hb M h1
     have:=h2 m hm
     omega
    subst this
    exact q _ H φ .rfl rs (by simp only[yd])
 .obtain⟨x,y,rfl,rv,rw⟩:=l.two
  have e:maxV v w=AA z:=e
  obtain⟨i,j,rfl,rfl,rfl⟩:=zkA e
  simp only[yd]at rv rw
  subst rv rw
  exact zhv hc pins s σ H _ us Q I r ⟨i,j,rfl,q (.int (if i<j then j else i)) H φ .rfl rs (by simp only[yd])⟩
 .simp[yay]at e
theorem zi4:yao X (.type "tuple") (rB S X .tuple):=by
 rintro pins s σ H xs us Q I r ⟨B,φ,st,vs,z,rs,l,e,q⟩
 obtain⟨v,rfl⟩:=zdU e λ_ _=>rfl
 obtain⟨x,rfl,rv⟩:=l.one
 simp only[yay,yea]at e
 split at e
 .cases e
  simp only[yd]at rv
  obtain⟨a,ys,rfl,rt,l⟩:=rv
  exact zbw pins s σ H _ us Q I r ⟨a,ys,rfl,.inr ⟨rt.sq,q _ H φ .rfl rs (by simp only[yd];exact⟨a,ys,rfl,rt,l⟩)⟩⟩
 .cases e1:yaa st v with
  |none=>rw[e1]at e;cases e
  |some ws =>
   rw[e1]at e
   cases e
   obtain⟨a,ys,rfl,h,l⟩:=zc7 rs rv e1
   exact zbw pins s σ H _ us Q I r ⟨a,ys,rfl,.inl ⟨h,λt ht=>q _ _ φ (.upd ht) (rs.upd ht) (.tup_new ht rs l)⟩⟩
theorem zkg:∀{vs:List PV} {m:Bool},IC.allB vs=AA m->∃ns:List Bool,vs=ns.map .bl/\m=ns.all id
 | [],m,h=>by cases h;exact⟨[],rfl,rfl⟩
 | .bl i::r,m,h=>by
  simp only[IC.allB]at h
  split at h
  .rename_i c e
   cases h
   obtain⟨ns,e1,e2⟩:=zkg e
   exact⟨i::ns,by rw[e1];rfl,by rw[e2];rfl⟩
  .cases h
 | .non::r,m,h=>by cases h
 | .int _::r,m,h=>by cases h
 | .str _::r,m,h=>by cases h
 | .tp _ _::r,m,h=>by cases h
 | .lst _::r,m,h=>by cases h
 | .loc _::r,m,h=>by cases h
 | .exn _::r,m,h=>by cases h
 | .scr _::r,m,h=>by cases h
theorem zjW:∀{vs:List PV} {m:Int},ycB vs=AA m->∃ns:List Int,vs=ns.map .int/\m=ns.sum
 | [],m,h=>by cases h;exact⟨[],rfl,rfl⟩
 | .int i::r,m,h=>by
  simp only[ycB]at h
  split at h
  .rename_i c e
   cases h
   obtain⟨ns,e1,e2⟩:=zjW e
   exact⟨i::ns,by rw[e1];rfl,by rw[e2,F1]⟩
  .cases h
 | .non::r,m,h=>by cases h
 | .bl _::r,m,h=>by cases h
 | .str _::r,m,h=>by cases h
 | .tp _ _::r,m,h=>by cases h
 | .lst _::r,m,h=>by cases h
 | .loc _::r,m,h=>by cases h
 | .exn _::r,m,h=>by cases h
 | .scr _::r,m,h=>by cases h
theorem znp (hc:X.calm=AC):yao X (.builtin "all") (rB S X .all):=by
 rintro pins s σ H xs us Q I r ⟨B,φ,st,vs,z,rs,l,e,q⟩
 obtain⟨v,rfl⟩:=zdU e λ_ _=>rfl
 obtain⟨x,rfl,rv⟩:=l.one
 simp only[yay]at e
 cases e1:yaa st v with
 |none=>rw[e1]at e;cases e
 |some ws =>
  rw[e1]at e
  simp only[BW]at e
  cases e2:IC.allB ws with
  |none=>rw[e2]at e;cases e
  |some m =>
   rw[e2]at e
   cases e
   obtain⟨ns,rfl,rfl⟩:=zkg e2
   obtain⟨a,ys,rfl,h,l⟩:=zc7 rs rv e1
   rw[l.bls]at h
   exact zjk hc pins s σ H _ us Q I r ⟨a,ns,rfl,h,q _ H φ .rfl rs (by simp only[yd])⟩
theorem znO (hc:X.calm=AC):yao X (.builtin "sum") (rB S X .sum):=by
 rintro pins s σ H xs us Q I r ⟨B,φ,st,vs,z,rs,l,e,q⟩
 obtain⟨v,rfl⟩:=zdU e λ_ _=>rfl
 obtain⟨x,rfl,rv⟩:=l.one
 simp only[yay]at e
 cases e1:yaa st v with
 |none=>rw[e1]at e;cases e
 |some ws =>
  rw[e1]at e
  simp only[BW]at e
  cases e2:ycB ws with
  |none=>rw[e2]at e;cases e
  |some m =>
   rw[e2]at e
   cases e
   obtain⟨ns,rfl,rfl⟩:=zjW e2
   obtain⟨a,ys,rfl,h,l⟩:=zc7 rs rv e1
   rw[l.ints]at h
   exact zjM hc pins s σ H _ us Q I r ⟨a,ns,rfl,h,q _ H φ .rfl rs (by simp only[yd])⟩
variable {x:AR}{id T:String}{k:Blt}
theorem znf (hc:yao X (.builtin id) (rB S X k))(hg:Gl X x)(hm:X.mg x=AE)(hv:bootBuiltins x=AA (.builtin id))(ha:PA X (a::es) (tAs S X ces))(hn:x ≠ "__name__":=by decide)(hdb:(x == ("__debug__":AR))=false:=by decide)
  (he:starEach (a::es) X.env=(AD,eval a X.env)::starEach es X.env:=by rfl) (hpl:(backTo pos (starEach es X.env)).any (·.1)=false:=by rfl):PE X (.Call (.Name x p) (a::es) [] pos) (tE S X (.blt k ces)) :=
 (zfJ hc hg hm hv ha hn hdb he hpl).imp λσ H Q ⟨B,φ,st,ρ,rs,re,h⟩=>by
  simp only[ev]at h
  refine tAs.bind rs re h λxs H1 vs st1 φ1 s1 rs1 re1 rv h1=>?_
  obtain⟨z,e,q⟩:=zag h1 rs1
  exact⟨B,φ1,st1,vs,z,rs1,rv,e,q⟩
theorem zlx (hc:yao X (.type T) (rB S X k))(hg:Gl X x)(hm:X.mg x=AE)(hv:bootBuiltins x=AA (.type T))(ha:PA X (a::es) (tAs S X ces))(hn:x ≠ "__name__":=by decide)(hdb:(x == ("__debug__":AR))=false:=by decide)
  (he:starEach (a::es) X.env=(AD,eval a X.env)::starEach es X.env:=by rfl) (hpl:(backTo pos (starEach es X.env)).any (·.1)=false:=by rfl):PE X (.Call (.Name x p) (a::es) [] pos) (tE S X (.blt k ces)) :=
 (zho hc hg hm hv ha hn hdb he hpl).imp λσ H Q ⟨B,φ,st,ρ,rs,re,h⟩=>by
  simp only[ev]at h
  refine tAs.bind rs re h λxs H1 vs st1 φ1 s1 rs1 re1 rv h1=>?_
  obtain⟨z,e,q⟩:=zag h1 rs1
  exact⟨B,φ1,st1,vs,z,rs1,rv,e,q⟩
end
section
variable {S:Se}{X:Cx}{σ:St}{B:AJ->Prop}{φ φ1:Ph}{H H1:Hp}{st:Store}{ρ:IC.Env}{p pos p2 apos:CT}{a b c d:AV}{ca cb cc:Ce}{es:List AV}{ces:Ces}{K:AG}{cl:Nat->AJ}
theorem Step.put {l:AJ}{u:HO}(hl:AA l∈φ):Step φ H φ (L2.upd H l u) :=
 ⟨λb o n e=>by rw[zj (show b≠l from λz=>n (by rw[z];exact hl))];exact e,AT _,λ_ _ _ e=>e,λ_ h=>.inl h⟩
theorem yt.put {n:Nat}{l:AJ}{u:HO}{o:Ob}(rs:yt K cl B φ H st)(hn:φ[n]?=AA (AA l))(ho:yco K cl B φ (L2.upd H l u) o l):yt K cl B φ (L2.upd H l u) (st.set n o):=by
 have hm:AA l∈φ:=A1 hn
 have s:Step φ H φ (L2.upd H l u):=.put hm
 have hlt:n<st.length:=by rw[<- rs.len];exact(BK.mp hn).1
 refine⟨by rw[B6];exact rs.len,rs.inj,λm a e=>?_,λm o' e ho'=>?_,rs.nb,λa h=>?_⟩
 .by_cases hmn:m=n
  .subst hmn
   rw[hn]at e;cases e
   exact⟨o,by rw[A5 hlt],ho⟩
  .obtain⟨o',q,r⟩:=rs.obj m a e
   refine⟨o',by rw[AO (BG hmn)];exact q,r.step s ?_⟩
   rw[zj]
   rintro rfl
   exact hmn (rs.inj m n a e hn)
 .by_cases hmn:m=n
  .subst hmn
   exact⟨l,hn⟩
  .rw[AO (BG hmn)]at e
   exact rs.liv m o' e ho'
 .obtain⟨w,e⟩:=rs.dom a h
  by_cases z:a=l
  .subst z;exact⟨u,zp⟩
  .exact⟨w,by rw[zj z];exact e⟩
theorem ycc:1000000<=sizeLine:=by rw[D7];decide
theorem zgK {m:Mth}{v:PV}{st:Store}{α β:Type}{Rel:Ph->Hp->α->β->Prop}{k:Bool->R α}{Q:β->Hp->Prop}(h:Run S X σ B φ H Rel (onO (yaO m st v) k) Q):∃b,yaO m st v=AA b/\Run S X σ B φ H Rel (k b) Q:=by
 cases e:yaO m st v with
 |none=>rw[e]at h;exact h.elim
 |some z=>rw[e]at h;exact⟨z,rfl,h⟩
theorem zhO (ha:PE X a (tE S X ca))(hb:PE X b (tE S X cb))(hs:starEach [b] X.env=[(AD,eval b X.env)]:=by rfl)(hbase:attributeBase a "append" X.env (eval a X.env)=eval a X.env:=by rfl)(hline:(apos.endLine == pos.line)=true:=by rfl)
  (hfew:((backTo pos (starEach [b] X.env)).all (λx=>!x.1) && (backToKw pos (keywordEach [] X.env)).all (λx=>x.1.isSome) && decide (([b]:List AV).length+([]:List CW).length+(if ([]:List CW).isEmpty then 0 else 1)<30))=true:=by rfl) :
  PE X (.Call (.Attribute a "append" apos) [b] [] pos) (tE S X (.mth .append ca (.cons cb .nil))) :=
 (zoA PySem.F.plainAttrs_list Ez PySem.F.type_list_append zep ha (zed (S:=S) hb zhA hs) hbase hfew hline hs rfl).imp λσ H Q ⟨B,φ,st,ρ,rs,re,h⟩=>by
  simp only[ev]at h
  refine tE.bind rs re h λx H1 v st1 φ1 s1 rs1 re1 rv h1=>?_
  obtain⟨_,e1,h1⟩:=zgK h1
  have t1:∃ws,yaa st1 v=AA ws:=by
   simp only[yaO]at e1
   cases q:yaa st1 v with
   |none=>rw[q]at e1;cases e1
   |some ws=>exact⟨ws,rfl⟩
  obtain⟨ws,t1⟩:=t1
  obtain⟨l,xs,rfl,hl,_⟩:=zc7 rs1 rv t1
  refine⟨.inl ⟨rfl,xs,hl⟩,tAs.bind rs1 re1 h1 λys H2 vs st2 φ2 s2 rs2 re2 rvs h2=>?_⟩
  have rv2:=rv.step s2
  rcases vs with _|⟨w,_|⟨w',t⟩⟩
  .exact h2.elim
  .obtain⟨y,rfl,rw⟩:=rvs.one
   unfold ycu at h2;simp only[ydZ]at h2
   split at h2
   .rename_i n
    split at h2
    .rename_i zs hz
     split at h2
     .rename_i c
      obtain⟨l',xs',e,hn,hx,lr⟩:=rs2.list rv2 hz
      cases e
      refine⟨l,xs',y,rfl,rfl,hx,by have:=ycc;have:=lr.length;omega,?_⟩
      exact h2 _ _ φ2 (.put (A1 hn)) (rs2.put hn ⟨_,zp,(lr.append (by simp only[yg];exact⟨y,[],rfl,rw,rfl⟩)).step (.put (A1 hn))⟩) (by simp only[yd])
     .exact h2.elim
    .exact h2.elim
   .exact h2.elim
  .exact h2.elim
theorem znn (ha:PE X a (tE S X ca)):PE X a (tE S X (.frz ca)) :=
 ha.imp λσ H Q ⟨B,φ,st,ρ,rs,re,h⟩=>by
  simp only[ev]at h
  refine tE.bind rs re h λx H1 v st1 φ1 s1 rs1 re1 rv h1=>?_
  unfold ydP at h1
  split at h1
  .rename_i n
   split at h1
   .rename_i vs hv
    obtain⟨l,xs,rfl,hn,hx,lr⟩:=rs1.list rv hv
    have hm:AA l∈φ1:=A1 hn
    have hlt:n<φ1.length:=(BK.mp hn).1
    have nl:AA l∉φ1.set n none:=λz=>by
     obtain⟨m,e⟩:=DW.mp z
     by_cases hmn:m=n
     .subst hmn
      rw[A5 hlt]at e;cases e
     .rw[AO (BG hmn)]at e
      exact hmn (rs1.inj m n l e hn)
    have sb:∀b,AA b∈φ1.set n AE->AA b∈φ1:=λb z=>by
     obtain⟨m,e⟩:=DW.mp z
     by_cases hmn:m=n
     .subst hmn
      rw[A5 hlt]at e;cases e
     .rw[AO (BG hmn)]at e
      exact A1 e
    have s:Step φ1 H1 (φ1.set n AE) H1:=⟨λ_ _ _ e=>e,by simp,λm a hm' e=>by
     by_cases hmn:m=n
     .subst hmn
      rw[A5 hlt]at e;cases e
     .rw[AO (BG hmn)]at e
      exact e,λb z=>.inl (sb b z)⟩
    refine h1 _ H1 (φ1.set n AE) s ⟨by simp[rs1.len],λm k a e1 e2=>?_,λm a e=>?_,λm o e ho=>?_,λa z=>rs1.nb a (sb a z),rs1.dom⟩ ?_
    .by_cases h1':m=n
     .subst h1';rw[A5 hlt]at e1;cases e1
     .by_cases h2':k=n
      .subst h2';rw[A5 hlt]at e2;cases e2
      .rw[AO (BG h1')]at e1
       rw[AO (BG h2')]at e2
       exact rs1.inj m k a e1 e2
    .by_cases hmn:m=n
     .subst hmn;rw[A5 hlt]at e;cases e
     .rw[AO (BG hmn)]at e
      obtain⟨o,q,r⟩:=rs1.obj m a e
      exact⟨o,by rw[AO (BG hmn)];exact q,r.step s rfl⟩
    .by_cases hmn:m=n
     .subst hmn
      rw[A5 (by rw[<- rs1.len];exact hlt)]at e;cases e
      exact absurd rfl ho
     .rw[AO (BG hmn)]at e ⊢
      exact rs1.liv m o e ho
    .simp only[yd]
     exact⟨l,xs,rfl,⟨hx,rs1.nb l hm,nl⟩,lr.step s⟩
   .exact h1.elim
  .exact h1.ok rs1 rv
end
section
variable (S:Se)(X:Cx)
def yaH (B:AJ->Prop)(φ:Ph)(H:Hp)(f:Fl)(D:Ends):Prop :=
 match f with
 | .nx ρ' st'=>∀σ' H' φ',Step φ H φ' H'->yt X.K S.cl B φ' H' st'->yR X.K S.cl B φ' H' ρ' σ'->D.nx σ' H'
 | .rt v st'=>∀x H' φ',Step φ H φ' H'->yt X.K S.cl B φ' H' st'->yd X.K S.cl B φ' H' v x->D.rt x H'
 | .bk ρ' st'=>∀σ' H' φ',Step φ H φ' H'->yt X.K S.cl B φ' H' st'->yR X.K S.cl B φ' H' ρ' σ'->D.bk σ' H'
 | .ct ρ' st'=>∀σ' H' φ',Step φ H φ' H'->yt X.K S.cl B φ' H' st'->yR X.K S.cl B φ' H' ρ' σ'->D.ct σ' H'
 | .exc k ρ' st'=>∀σ' φ1 H1 e s',Step φ H φ1 H1->yR X.K S.cl B φ1 H1 ρ' σ'->ExcAt S X σ' B φ1 H1 k st' e s'->X.xe e s'
 | .bad=>False
def tS (c:Cs):TS:=λD σ H=>∃B φ st ρ,yt X.K S.cl B φ H st/\yR X.K S.cl B φ H ρ σ/\yaH S X B φ H (ex S.call ρ st c) D
def tSs (c:Css):TS:=λD σ H=>∃B φ st ρ,yt X.K S.cl B φ H st/\yR X.K S.cl B φ H ρ σ/\yaH S X B φ H (exs S.call ρ st c) D
end
section
variable {S:Se}{X:Cx}{σ:St}{B:AJ->Prop}{φ φ1:Ph}{H H1:Hp}{st:Store}{ρ:IC.Env}{D:Ends}{pos p2 px:CT}{a b c o:AV}{ca cb cc:Ce}{s1:Bv}{ss ss':List Bv}{c1:Cs}{cs cs':Css}
theorem yaH.on {f:Fl}(s:Step φ H φ1 H1)(h:yaH S X B φ H f D):yaH S X B φ1 H1 f D:=by
 cases f with
 |nx ρ st=>exact λσ' H' φ' t=>h σ' H' φ' (s.trans t)
 |rt ρ st=>exact λσ' H' φ' t=>h σ' H' φ' (s.trans t)
 |bk ρ st=>exact λσ' H' φ' t=>h σ' H' φ' (s.trans t)
 |ct ρ st=>exact λσ' H' φ' t=>h σ' H' φ' (s.trans t)
 |exc k ρ st=>exact λσ' φ2 H2 e s' t=>h σ' φ2 H2 e s' (s.trans t)
 |bad=>exact h
theorem tE.fl {k:PV->Store->Fl}{P:V->Hp->Prop}(rs:yt X.K S.cl B φ H st)(re:yR X.K S.cl B φ H ρ σ)(h:yaH S X B φ H ((ev S.call ρ st ca).fl ρ k) D)
  (n:∀x H1 v st1 φ1,Step φ H φ1 H1->yt X.K S.cl B φ1 H1 st1->yR X.K S.cl B φ1 H1 ρ σ->yd X.K S.cl B φ1 H1 v x->yaH S X B φ1 H1 (k v st1) D->P x H1):tE S X ca σ H P:=by
 refine⟨B,φ,st,ρ,rs,re,?_⟩
 cases e:ev S.call ρ st ca with
 |ok v st' =>
  rw[e]at h
  exact λx H' φ' s rs' rv=>n x H' v st' φ' s rs' (re.step s) rv (h.on s)
 |exc k st' =>
  rw[e]at h
  exact λe s' x=>h σ φ H e s' .rfl re x
 |bad=>rw[e]at h;exact h
theorem PS.imp {t t':TS}(h:PS X s1 t')(k:∀D σ H,t D σ H->t' D σ H):PS X s1 t:=λpins s σ H D I q=>h pins s σ H D I (k D σ H q)
theorem PSs.imp {t t':TS}(h:PSs X ss t')(k:∀D σ H,t D σ H->t' D σ H):PSs X ss t:=λpins s σ H D I q=>h pins s σ H D I (k D σ H q)
theorem yR.set {K:AG}{cl:Nat->AJ}(r:yR K cl B φ H ρ σ)(i:Nat){v:PV}{x:V}(rv:yd K cl B φ H v x):yR K cl B φ H (ρ.set i (AA v)) (σ.set i (AA x)):=by
 refine⟨by rw[B6,B6];exact r.len,λj w e=>?_⟩
 by_cases h:j=i
 .subst h
  by_cases hl:j<ρ.length
  .rw[A5 hl]at e
   cases e
   exact⟨x,by rw[A5 (by rw[<- r.len];exact hl)],rv⟩
  .rw[BI (by rw[B6];omega)]at e
   cases e
 .rw[AO (BG h)]at e ⊢
  exact r.get j w e
theorem znz:PSs X [] (tSs S X .nil):=ycK.imp λD σ H ⟨B,φ,st,ρ,rs,re,h⟩=>by
 simp only[exs]at h
 exact h σ H φ .rfl rs re
theorem zlT (h1:PS X s1 (tS S X c1))(h2:PSs X ss (tSs S X cs)):PSs X (s1::ss) (tSs S X (.cons c1 cs)) :=
 (zft h1 h2).imp λD σ H ⟨B,φ,st,ρ,rs,re,h⟩=>by
  simp only[exs]at h
  refine⟨B,φ,st,ρ,rs,re,?_⟩
  cases e:ex S.call ρ st c1 with
  |nx ρ1 st1 =>
   rw[e]at h
   exact λσ' H' φ' s rs' re'=>⟨B,φ',st1,ρ1,rs',re',h.on s⟩
  |rt v st1=>rw[e]at h;exact h
  |bk ρ1 st1=>rw[e]at h;exact h
  |ct ρ1 st1=>rw[e]at h;exact h
  |exc k ρ1 st1=>rw[e]at h;exact h
  |bad=>rw[e]at h;exact h
theorem zkw (he:PE X a (tE S X ca))(hs:swapsWith a AE pos.line X.env=pure false:=by rfl):PS X (.Expr a pos) (tS S X (.expr ca)) :=
 (zkV he hs).imp λD σ H ⟨B,φ,st,ρ,rs,re,h⟩=>by
  simp only[ex]at h
  exact tE.fl rs re h λx H1 v st1 φ1 s rs1 re1 rv h1=>h1 σ H1 φ1 .rfl rs1 re1
theorem znm (he:PE X a (tE S X ca)):PS X (.Return (AA a) pos) (tS S X (.ret ca)) :=
 (zkn he).imp λD σ H ⟨B,φ,st,ρ,rs,re,h⟩=>by
  simp only[ex]at h
  exact tE.fl rs re h λx H1 v st1 φ1 s rs1 re1 rv h1=>h1 x H1 φ1 .rfl rs1 rv
theorem zkF:PS X (.Return AE pos) (tS S X (.ret (.cst .non))) :=
 ycZ.imp λD σ H ⟨B,φ,st,ρ,rs,re,h⟩=>by
  simp only[ex,ev,R.fl]at h
  exact h .non H φ .rfl rs (by simp only[yd])
theorem znG {i:Nat}{x:AR}(hN:X.N.Nodup)(hi:X.N[i]?=AA x)(hx:Loc X.env.scope x)(he:PE X a (tE S X ca))(hs:swapsWith a (AA (.Name x px)) pos.line X.env=pure false:=by rfl)
  (hf:X.fn x=AC \/ X.env.scope.names.lookup x=AA .local:=by first|exact .inl rfl|exact .inr rfl|assumption):PS X (.Assign [.Name x px] a pos) (tS S X (.asg (.n i) ca)) :=
 (zjP hN hi hx he hs hf).imp λD σ H ⟨B,φ,st,ρ,rs,re,h⟩=>by
  simp only[ex]at h
  exact tE.fl rs re h λx H1 v st1 φ1 s rs1 re1 rv h1=>h1 _ H1 φ1 .rfl rs1 (re1.set i rv)
theorem flT (r:R PV)(f:Bool->Store->Fl):(r.fl ρ λx st1=>onF (yaP st1 x) λk=>f k st1)=(ya9 r).fl ρ f:=by
 cases r with
 |ok v s =>
  simp only[R.fl,ya9,R.bind]
  cases yaP s v <;> rfl
 |exc c s=>rfl
 |bad=>rfl
theorem tTs.fl {k:Bool->Store->Fl}{P:Bool->Hp->Prop}(rs:yt X.K S.cl B φ H st)(re:yR X.K S.cl B φ H ρ σ)(h:yaH S X B φ H ((ya9 (ev S.call ρ st ca)).fl ρ k) D)
  (n:∀b H1 st1 φ1,Step φ H φ1 H1->yt X.K S.cl B φ1 H1 st1->yR X.K S.cl B φ1 H1 ρ σ->yaH S X B φ1 H1 (k b st1) D->P b H1):tTs S X ca σ H P:=by
 refine⟨B,φ,st,ρ,rs,re,?_⟩
 cases e:ya9 (ev S.call ρ st ca)with
 |ok v st' =>
  rw[e]at h
  exact λx H' φ' s rs' rv=>by
   subst rv
   exact n v H' st' φ' s rs' (re.step s) (h.on s)
 |exc k st' =>
  rw[e]at h
  exact λe s' x=>h σ φ H e s' .rfl re x
 |bad=>rw[e]at h;exact h
theorem zou (hc:PT X c (tTs S X cc))(ha:PSs X ss (tSs S X cs))(hb:PSs X ss' (tSs S X cs')):PS X (.If c ss ss' pos) (tS S X (.ite cc cs cs')) :=
 (zoE hc ha hb).imp λD σ H ⟨B,φ,st,ρ,rs,re,h⟩=>by
  simp only[ex]at h
  rw[flT _ λk st1=>cond k (exs S.call ρ st1 cs) (exs S.call ρ st1 cs')]at h
  refine tTs.fl rs re h λk H1 st1 φ1 s rs1 re1 h1=>?_
  cases k with
  |true=>exact⟨B,φ1,st1,ρ,rs1,re1,h1⟩
  |false=>exact⟨B,φ1,st1,ρ,rs1,re1,h1⟩
theorem zmq {i:Nat}{x:AR}{op:D6}{bo:BOp}(hN:X.N.Nodup)(hi:X.N[i]?=AA x)(hx:Loc X.env.scope x)(he:PE X a (tE S X ca))(ho:PIp X op (rT2 S X (ybY bo)))
  (hf:X.fn x=AC \/ X.env.scope.names.lookup x=AA .local:=by first|exact .inl rfl|exact .inr rfl|assumption) (hd:(x == ("__debug__":AR))=false:=by decide) (hcd:(x == ("__classdict__":AR))=false:=by decide):PS X (.AugAssign (.Name x px) op a pos) (tS S X (.aug i bo ca)) :=
 (zke hN hi hx he ho hf).imp λD σ H ⟨B,φ,st,ρ,rs,re,h⟩=>by
  simp only[ex]at h
  cases q:ρ[i]? with
  |none=>rw[q]at h;exact h.elim
  |some w =>
   cases w with
   |none=>rw[q]at h;exact h.elim
   |some w =>
    rw[q]at h
    obtain⟨y,hy,rw⟩:=re.get i w q
    refine⟨y,hy,tE.fl rs re h λz H1 v st1 φ1 s rs1 re1 rv h1=>?_⟩
    cases e:ybY bo w v with
    |none=>rw[e]at h1;exact h1.elim
    |some u =>
     rw[e]at h1
     exact⟨B,φ1,st1,w,v,u,rs1,rw.step s,rv,e,λz' H' φ' s' rs' rz=>h1 _ H' φ' s' rs' ((re1.step s').set i rz)⟩
end
section
variable (S:Se)(X:Cx)
structure Drw (B:AJ->Prop)(φ0:Ph)(H0:Hp)(xs:List PV)(J:It):Prop where
 stop:∀φ H,Step φ0 H0 φ H->J.stop xs.length H
 go:∀(i:Nat) φ H,Step φ0 H0 φ H->i<xs.length->J.go i H
 yld:∀(i:Nat) φ H st x H' (B':AJ->Prop),(∀y,B' y->B y \/ H0 y=AE)->Step φ0 H0 φ H->yt X.K S.cl B' φ H st->i<xs.length->J.yld i H x H'->∃v,xs[i]?=AA v/\yd X.K S.cl B' φ H' v x/\∀b o,H b=AA o->H' b=AA o
noncomputable abbrev RD (B:AJ->Prop):Ph->Hp->List PV->It->Prop:=λφ H=>Drw S X B φ H
def tI (c:Cit):TI:=λσ H R=>∃B φ st ρ,yt X.K S.cl B φ H st/\yR X.K S.cl B φ H ρ σ/\Run S X σ B φ H (RD S X B) (evi S.call ρ st c) R
end
section
variable {S:Se}{X:Cx}{σ:St}{B:AJ->Prop}{φ φ1:Ph}{H H1:Hp}{st:Store}{ρ:IC.Env}{D:Ends}{pos p p2 px:CT}{a b c o tg l:AV}{ca cb cc:Ce}{es:List AV}{ces:Ces}{ss:List Bv}{cs:Css}{ci:Cit}{ct:Tg}
theorem zlE:PE X a (tE S X .nope):=λpins s σ H Q I ⟨B,φ,st,ρ,rs,re,h⟩=>by
 simp only[ev]at h
 exact h.elim
theorem zl8 {s1:Bv}:PS X s1 (tS S X .nope):=λpins s σ H D I ⟨B,φ,st,ρ,rs,re,h⟩=>by
 simp only[ex]at h
 exact h.elim
theorem PI.imp {t t':TI}(h:PI X tg l t')(k:∀σ H R,t σ H R->t' σ H R):PI X tg l t:=λpins s σ H R I q=>h pins s σ H R I (k σ H R q)
theorem zoq {tl:TE}(hl:PE X l tl):PI X tg l (λσ H R=>tl σ H λx H1=>∃a,x=.ref a/\(((∃xs,SqL X.K H1 a xs)/\R (Itl X.K a) H1) \/ ((∃xs,SqT X.K H1 a xs)/\R (Itt X.K a) H1))):=by
 intro pins s σ H R I h
 refine thn (hl pins s σ H _ I h) λv s1 ⟨x,H1,I1,r1,q1⟩=>?_
 obtain⟨a,e,q1⟩:=q1
 subst e
 cases r1
 rcases q1 with⟨⟨xs,hq⟩,q⟩|⟨⟨xs,hq⟩,q⟩
 .obtain⟨its,rv,p,hz⟩:=I1.list hq
  refine Fr p.isList ?_
  refine⟨s1.heap.objs.size,[s1.heap.objs.size],_,_,H1,rfl,I1.kept (t':=s1.toks) λb o e=>AN _ e,zh0 a _,⟨_,A2 _ rfl,rfl,rfl⟩,λb hb=>?_,q⟩
  have e:b=s1.heap.objs.size:=by simpa using hb
  subst e
  exact I1.fpOk (AT _) (I1.hok.fresh (AT _))
 .obtain⟨its,rv,p,hz⟩:=I1.tuple hq
  refine CO (show s1.heap.IsTuple a its.toArray from p) ?_
  refine⟨s1.heap.objs.size,[s1.heap.objs.size],_,_,H1,rfl,I1.kept (t':=s1.toks) λb o e=>AN _ e,zge a _,⟨_,A2 _ rfl,rfl,rfl⟩,λb hb=>?_,q⟩
  have e:b=s1.heap.objs.size:=by simpa using hb
  subst e
  exact I1.fpOk (AT _) (I1.hok.fresh (AT _))
theorem zll {k:Bool}{vs:List PV}{xs:List V}{y:AJ}(rt:ybW X.K B φ H k y xs)(l:yg X.K S.cl B φ H vs xs):Drw S X B φ H vs (Itt X.K y):=by
 have hl:=l.length
 refine⟨λφ' H' s=>⟨xs,(rt.step s).sq,by omega⟩,λi φ' H' s hi=>⟨xs,xs[i]'(by omega),(rt.step s).sq,by simp[show i<xs.length by omega]⟩,λi φ' H' st x H2 B' hB s rs hi q=>?_⟩
 obtain⟨rfl,q⟩:=q
 obtain⟨v,hv⟩:∃v,vs[i]?=AA v:=⟨vs[i],by simp[hi]⟩
 obtain⟨x',hx',rv⟩:=l.get i hv
 have:=q xs (rt.step s).sq
 rw[this]at hx'
 cases hx'
 exact⟨v,hv,(rv.moreB hB).step s,λ_ _ e=>e⟩
theorem zkR {vs:List PV}{xs:List V}{y:AJ}(rt:ycN B φ H y xs)(l:yg X.K S.cl B φ H vs xs):Drw S X B φ H vs (Itl X.K y):=by
 have hl:=l.length
 refine⟨λφ' H' s=>⟨xs,(rt.step s).sq,by omega⟩,λi φ' H' s hi=>⟨xs,xs[i]'(by omega),(rt.step s).sq,by simp[show i<xs.length by omega]⟩,λi φ' H' st x H2 B' hB s rs hi q=>?_⟩
 obtain⟨rfl,q⟩:=q
 obtain⟨v,hv⟩:∃v,vs[i]?=AA v:=⟨vs[i],by simp[hi]⟩
 obtain⟨x',hx',rv⟩:=l.get i hv
 have:=q xs (rt.step s).sq
 rw[this]at hx'
 cases hx'
 exact⟨v,hv,(rv.moreB hB).step s,λ_ _ e=>e⟩
theorem znk (hl:PE X l (tE S X ca)):PI X tg l (tI S X (.seq ca)) :=
 (zoq hl).imp λσ H R ⟨B,φ,st,ρ,rs,re,h⟩=>by
  simp only[evi]at h
  refine tE.bind rs re h λx H1 v st1 φ1 s1 rs1 re1 rv h1=>?_
  cases v with
  |tp k vs =>
   simp only[yd]at rv
   obtain⟨y,xs,rfl,rt,l⟩:=rv
   exact⟨y,rfl,.inr ⟨⟨xs,rt.sq⟩,h1.ok rs1 (zll rt l)⟩⟩
  |lst vs =>
   simp only[yd]at rv
   obtain⟨y,xs,rfl,rt,l⟩:=rv
   exact⟨y,rfl,.inl ⟨⟨xs,rt.sq⟩,h1.ok rs1 (zkR rt l)⟩⟩
  |_=>exact h1.elim
theorem zds:∀(n:Nat) (lo d:Int) (i:Nat),(yo n lo d)[i]?=if i<n then AA (.int (lo+i*d))else AE
 |0,lo,d,i=>by simp[yo]
 |n+1,lo,d,0=>by simp[yo]
 |n+1,lo,d,i+1=>by
  simp only[yo,A9]
  rw[zds n (lo+d) d i]
  by_cases h:i<n
  .rw[if_pos h,if_pos (by omega),Int.natCast_succ,Bu,Cj,Gf,Dq d]
  .rw[if_neg h,if_neg (by omega)]
theorem zbf:∀(n:Nat) (lo d:Int),(yo n lo d).length=n
 |0,lo,d=>rfl
 |n+1,lo,d=>by simp[yo,zbf n]
theorem zg4 {lo:Int}{n:Nat}:Drw S X B φ H (yo n lo 1) (Itr lo n):=by
 refine⟨λφ' H' s=>by rw[zbf];exact AT _,λi φ' H' s hi=>by rw[zbf]at hi;exact hi,λi φ' H' st x H2 B' hB s rs hi q=>?_⟩
 rw[zbf]at hi
 obtain⟨rfl,rfl⟩:=q
 refine⟨.int (lo+i),?_,by simp only[yd],λ_ _ e=>e⟩
 rw[zds,if_pos hi,Cd]
theorem zhX {o:Option (List PV)}{st:Store}{Q:It->Hp->Prop}(h:Run S X σ B φ H (RD S X B) (toL o st) Q):∃xs,o=AA xs/\Run S X σ B φ H (RD S X B) (.ok xs st) Q:=by
 cases o with
 |none=>exact h.elim
 |some z=>exact⟨z,rfl,h⟩
theorem zij (hg:Gl X "range")(hm:X.mg "range"=AE)(ha:PE X a (tE S X ca))(hs:starEach [a] X.env=[(AD,eval a X.env)]:=by rfl):PI X tg (.Call (.Name "range" p) [a] [] pos) (tI S X (.range1 ca)) :=
 (zgM hg hm (zbr ha ybr hs) hs).imp λσ H R ⟨B,φ,st,ρ,rs,re,h⟩=>by
  simp only[evi]at h
  refine tE.bind rs re h λx H1 v st1 φ1 s1 rs1 re1 rv h1=>?_
  obtain⟨xs,e,h1⟩:=zhX h1
  cases v with
  |int j =>
   simp only[yb2]at e
   split at e
   .cases e
    simp only[yd]at rv
    subst rv
    exact⟨j,rfl,by omega,by omega,h1.ok rs1 zg4⟩
   .cases e
  |_=>cases e
theorem zcY:∀(xs:List PV) (k i:Nat),(yD k xs)[i]?=(xs[i]?).map λx=>.tup [.int ((k+i:Nat):Int),x]
 | [],k,i=>by simp[yD]
 |x::xs,k,0=>by simp[yD]
 |x::xs,k,i+1=>by
  simp only[yD,A9]
  rw[zcY xs (k+1) i]
  have:k+1+i=k+(i+1):=by omega
  rw[this]
theorem zcS:∀(xs:List PV) (k:Nat),(yD k xs).length=xs.length
 | [],k=>rfl
 |x::xs,k=>by simp[yD,zcS xs]
theorem zjH {k:Bool}{vs:List PV}{xs:List V}{y:AJ}(rt:ybW X.K B φ H k y xs)(l:yg X.K S.cl B φ H vs xs):Drw S X B φ H (yD 0 vs) (Ite X.K y):=by
 have hl:=l.length
 have hp:=zcS vs 0
 refine⟨λφ' H' s=>⟨xs,(rt.step s).sq,by omega⟩,λi φ' H' s hi=>⟨xs,xs[i]'(by omega),(rt.step s).sq,by simp[show i<xs.length by omega]⟩,λi φ' H' st x H2 B' hB s rs hi q=>?_⟩
 obtain⟨T,hT,rfl,q⟩:=q
 obtain⟨v,hv⟩:∃v,vs[i]?=AA v:=⟨vs[i]'(by omega),by simp[show i<vs.length by omega]⟩
 obtain⟨x',hx',rv⟩:=l.get i hv
 have e:=q xs x' (rt.step s).sq hx'
 subst e
 refine⟨.tup [.int i,v],?_,.tup_new hT rs ?_,λb o e=>by rw[zj (zl e hT)];exact e⟩
 .rw[zcY,hv]
  simp
 .simp only[yg,yd]
  exact⟨_,_,rfl,rfl,x',[],rfl,(rv.moreB hB).step s,rfl⟩
theorem zkP {es:List AV}{kk:Nat}{tp:CT}(hg:Gl X "enumerate")(hm:X.mg "enumerate"=AE)(ha:PE X a (tE S X ca))(hs:starEach [a] X.env=[(AD,eval a X.env)]:=by rfl) :
  PI X (.Tuple es kk tp) (.Call (.Name "enumerate" p) [a] [] pos) (tI S X (.enum ca)) :=
 (zi3 hg hm (zbr ha ybr hs) hs).imp λσ H R ⟨B,φ,st,ρ,rs,re,h⟩=>by
  simp only[evi]at h
  refine tE.bind rs re h λx H1 v st1 φ1 s1 rs1 re1 rv h1=>?_
  cases v with
  |tp k vs =>
   simp only[yd]at rv
   obtain⟨y,xs,rfl,rt,l⟩:=rv
   exact⟨y,rfl,⟨xs,rt.sq⟩,h1.ok rs1 (zjH rt l)⟩
  |_=>exact h1.elim
def tG (S:Se)(X:Cx)(t:Tg):TG:=λv σ H Q=>∃B φ st ρ w ρ',yt X.K S.cl B φ H st/\yR X.K S.cl B φ H ρ σ/\yd X.K S.cl B φ H w v/\yM t w ρ=AA ρ'/\∀σ',yR X.K S.cl B φ H ρ' σ'->Q σ' H
theorem PG.imp {t t':TG}(h:PG X tg t')(k:∀v σ H Q,t v σ H Q->t' v σ H Q):PG X tg t:=λpins s σ H v u Q I rv q=>h pins s σ H v u Q I rv (k v σ H Q q)
theorem zk3 {i:Nat}{x:AR}(hN:X.N.Nodup)(hi:X.N[i]?=AA x)(hx:Loc X.env.scope x)(hf:X.fn x=AC \/ X.env.scope.names.lookup x=AA .local:=by first|exact .inl rfl|exact .inr rfl|assumption):PG X (.Name x pos) (tG S X (.n i)) :=
 (zhG hN hi hx hf).imp λv σ H Q ⟨B,φ,st,ρ,w,ρ',rs,re,rv,e,q⟩=>by
  cases e
  exact q _ (re.set i rv)
noncomputable def gNs (l:List Nat):TGs:=λvs σ H Q=>vs.length=l.length/\Q ((l.zip vs).foldl (λσ p=>σ.set p.1 (AA p.2)) σ) H
theorem PGs.imp {es:List AV}{t t':TGs}(h:PGs X es t')(k:∀v σ H Q,t v σ H Q->t' v σ H Q):PGs X es t:=λpins s σ H vs us Q I rv q=>h pins s σ H vs us Q I rv (k vs σ H Q q)
theorem zlX:PGs X [] (gNs []):=yc1.imp λvs σ H Q ⟨h,q⟩=>by
 cases vs with
 |nil=>exact⟨rfl,q⟩
 |cons _ _=>cases h
theorem zjq {es:List AV}{l:List Nat}{i:Nat}{x:AR}(hN:X.N.Nodup)(hi:X.N[i]?=AA x)(hx:Loc X.env.scope x)(h2:PGs X es (gNs l))(hf:X.fn x=AC \/ X.env.scope.names.lookup x=AA .local:=by first|exact .inl rfl|exact .inr rfl|assumption):PGs X (.Name x pos::es) (gNs (i::l)) :=
 (ziF (zhG hN hi hx hf) h2).imp λvs σ H Q ⟨h,q⟩=>by
  cases vs with
  |nil=>cases h
  |cons v vs=>exact⟨v,vs,rfl,by simpa using h,q⟩
theorem yR.sets {K:AG}{cl:Nat->AJ}:∀(l:List Nat) {vs:List PV} {xs:List V} {ρ:IC.Env} {σ:St},yR K cl B φ H ρ σ->yg K cl B φ H vs xs ->
  yR K cl B φ H ((l.zip vs).foldl (λρ p=>ρ.set p.1 (AA p.2)) ρ) ((l.zip xs).foldl (λσ p=>σ.set p.1 (AA p.2)) σ)
 | [],vs,xs,ρ,σ,re,l=>by simpa using re
 |i::is,[],xs,ρ,σ,re,l=>by
  simp only[yg]at l
  subst l
  simpa using re
 |i::is,v::vs,xs,ρ,σ,re,l=>by
  simp only[yg]at l
  obtain⟨y,ys,rfl,r,l⟩:=l
  simp only[EF,Dd]
  exact yR.sets is (re.set i r) l
theorem zn5 {es:List AV}{l:List Nat}{k:Nat}(hc:X.calm=AC)(h:PGs X es (gNs l))(hn:(assignEach es X.env).length=l.length:=by rfl)(hst:(assignEach es X.env).findIdx? (·.1)=none:=by rfl):PG X (.Tuple es k pos) (tG S X (.t l)) :=
 (zoa hc h hn hst).imp λv σ H Q ⟨B,φ,st,ρ,w,ρ',rs,re,rv,e,q⟩=>by
  cases w with
  |tp kk vs =>
   simp only[yM]at e
   split at e
   .rename_i c
    cases e
    simp only[yd]at rv
    obtain⟨y,xs,rfl,rt,lr⟩:=rv
    have hl:=lr.length
    exact⟨y,xs,rfl,rt.sq,by omega,by omega,q _ (yR.sets l re lr)⟩
   .cases e
  |_=>cases e
theorem zlK {es:List AV}{l:List Nat}{k:Nat}(he:PE X a (tE S X ca))(hg:PG X (.Tuple es k p2) (tG S X (.t l)))(hs:swapsWithSole [.Tuple es k p2] a pos.line X.env=pure false:=by rfl)(hw:swappedStores [.Tuple es k p2] a X.env=pure none:=by rfl) :
  PS X (.Assign [.Tuple es k p2] a pos) (tS S X (.asg (.t l) ca)) :=
 (zj6 he hg hs hw).imp λD σ H ⟨B,φ,st,ρ,rs,re,h⟩=>by
  simp only[ex]at h
  refine tE.fl rs re h λx H1 v st1 φ1 s rs1 re1 rv h1=>?_
  cases e:yM (.t l) v ρ with
  |none=>rw[e]at h1;exact h1.elim
  |some ρ' =>
   rw[e]at h1
   exact⟨B,φ1,st1,ρ,v,ρ',rs1,re1,rv,e,λσ' re'=>h1 σ' H1 φ1 .rfl rs1 re'⟩
theorem tI.fl {k:List PV->Store->Fl}{P:It->Hp->Prop}(rs:yt X.K S.cl B φ H st)(re:yR X.K S.cl B φ H ρ σ)(h:yaH S X B φ H ((evi S.call ρ st ci).fl ρ k) D)
  (n:∀x H1 v st1 φ1,Step φ H φ1 H1->yt X.K S.cl B φ1 H1 st1->yR X.K S.cl B φ1 H1 ρ σ->Drw S X B φ1 H1 v x->yaH S X B φ1 H1 (k v st1) D->P x H1):tI S X ci σ H P:=by
 refine⟨B,φ,st,ρ,rs,re,?_⟩
 cases e:evi S.call ρ st ci with
 |ok v st' =>
  rw[e]at h
  exact λx H' φ' s rs' rv=>n x H' v st' φ' s rs' (re.step s) rv (h.on s)
 |exc k st' =>
  rw[e]at h
  exact λe s' x=>h σ φ H e s' .rfl re x
 |bad=>rw[e]at h;exact h
theorem zn1 (hp:E6 (model X.prog X.w) X.A X.env X.xe)(hc:X.calm=AC)(hi:PI X tg l (tI S X ci))(hg:PG X tg (tG S X ct))(hb:PSs X ss (tSs S X cs))(hs:∀x,foldedSetIterable l X.env x=pure x:=by intro _;rfl) :
  PS X (.For tg l ss [] pos) (tS S X (.for ct ci cs)) :=
 (zmN hp hc hi hg hb hs).imp λD σ H ⟨B,φ,st,ρ,rs,re,h⟩=>by
  simp only[ex]at h
  refine tI.fl rs re h λJ H1 xs st1 φ1 s1 rs1 re1 dr h1=>?_
  refine⟨λi m σ H=>∃φ st ρ,i+m=xs.length/\Step φ1 H1 φ H/\yt X.K S.cl B φ H st/\yR X.K S.cl B φ H ρ σ/\yaH S X B φ H (forL ct (λρ2 st2=>exs S.call ρ2 st2 cs) (xs.drop i) ρ st) D,
   ⟨xs.length,φ1,st1,ρ,by omega,.rfl,rs1,re1,by simpa using h1⟩,?_⟩
  rintro i m σ2 H2 ⟨φ2,st2,ρ2,hm,s2,rs2,re2,h2⟩
  by_cases hi:i<xs.length
  .refine .inr ⟨dr.go i φ2 H2 s2 hi,λσ' H'=>∃φ st ρ,Step φ1 H1 φ H'/\yt X.K S.cl B φ H' st/\yR X.K S.cl B φ H' ρ σ'/\yaH S X B φ H' (forL ct (λρ2 st2=>exs S.call ρ2 st2 cs) (xs.drop (i+1)) ρ st) D,
    λσ' H' ⟨φ,st,ρ,s,q⟩=>⟨m - 1,by omega,φ,st,ρ,by omega,s,q⟩,λx H3 hy=>?_⟩
   obtain⟨v,hv,rv,kk⟩:=dr.yld i φ2 H2 st2 x H3 B (λ_ z=>.inl z) s2 rs2 hi hy
   have e:xs.drop i=v::xs.drop (i+1):=by
    rw[EM hi]
    rw[Bq hi]at hv
    rw[AX hv]
   have s3:Step φ2 H2 φ2 H3:=⟨λb o _ e=>kk b o e,AT _,λ_ _ _ e=>e,λ_ h=>.inl h⟩
   have rs3:yt X.K S.cl B φ2 H3 st2:=rs2.same kk
   rw[e,forL]at h2
   cases eb:yM ct v ρ2 with
   |none=>rw[eb]at h2;exact h2.elim
   |some ρ3 =>
    rw[eb]at h2
    refine⟨B,φ2,st2,ρ2,v,ρ3,rs3,re2.step s3,rv,eb,λσ' re'=>⟨B,φ2,st2,ρ3,rs3,re',?_⟩⟩
    have h3:=yaH.on s3 h2
    dsimp only at h3
    cases ee:exs S.call ρ3 st2 cs with
    |nx ρ4 st4 =>
     rw[ee]at h3
     exact λσ4 H4 φ4 s4 rs4 re4=>⟨φ4,st4,ρ4,s2.trans (s3.trans s4),rs4,re4,yaH.on s4 h3⟩
    |ct ρ4 st4 =>
     rw[ee]at h3
     exact λσ4 H4 φ4 s4 rs4 re4=>⟨φ4,st4,ρ4,s2.trans (s3.trans s4),rs4,re4,yaH.on s4 h3⟩
    |bk ρ4 st4=>rw[ee]at h3;exact h3
    |rt v4 st4=>rw[ee]at h3;exact h3
    |exc k ρ4 st4=>rw[ee]at h3;exact h3
    |bad=>rw[ee]at h3;exact h3
  .have e:i=xs.length:=by omega
   subst e
   rw[GJ,forL]at h2
   exact .inl ⟨dr.stop φ2 H2 s2,h2 σ2 H2 φ2 .rfl rs2 re2⟩
theorem zjB (hp:E6 (model X.prog X.w) X.A X.env X.xe)(hc:PT X c (tTs S X cc))(hb:PSs X ss (tSs S X cs)):PS X (.While c ss [] pos) (tS S X (.while cc cs)) :=
 (ziT hp hc hb).imp λD σ H ⟨B,φ,st,ρ,rs,re,h⟩=>by
  simp only[ex]at h
  refine⟨λm σ H=>∃φ st ρ,yt X.K S.cl B φ H st/\yR X.K S.cl B φ H ρ σ/\yaH S X B φ H (yaq (λρ2 st2=>ev S.call ρ2 st2 cc) (λρ2 st2=>exs S.call ρ2 st2 cs) m ρ st) D,⟨100000,φ,st,ρ,rs,re,h⟩,?_⟩
  rintro m σ2 H2 ⟨φ2,st2,ρ2,rs2,re2,h2⟩
  cases m with
  |zero=>exact h2.elim
  |succ m =>
   rw[yaq]at h2
   rw[flT _ λk st1=>cond k (yaz (exs S.call ρ2 st1 cs) λρ2 st2=>yaq (λρ2 st2=>ev S.call ρ2 st2 cc) (λρ2 st2=>exs S.call ρ2 st2 cs) m ρ2 st2) (.nx ρ2 st1)]at h2
   refine tTs.fl rs2 re2 h2 λk H3 st3 φ3 s3 rs3 re3 h3=>?_
   cases k with
   |false=>exact h3 σ2 H3 φ3 .rfl rs3 re3
   |true =>
    refine⟨λσ' H'=>∃φ st ρ,yt X.K S.cl B φ H' st/\yR X.K S.cl B φ H' ρ σ'/\yaH S X B φ H' (yaq (λρ2 st2=>ev S.call ρ2 st2 cc) (λρ2 st2=>exs S.call ρ2 st2 cs) m ρ st) D,
     λσ' H' q=>⟨m,by omega,q⟩,B,φ3,st3,ρ2,rs3,re3,?_⟩
    simp only[cond_true]at h3
    cases ee:exs S.call ρ2 st3 cs with
    |nx ρ4 st4 =>
     rw[ee]at h3
     exact λσ4 H4 φ4 s4 rs4 re4=>⟨φ4,st4,ρ4,rs4,re4,yaH.on s4 h3⟩
    |ct ρ4 st4 =>
     rw[ee]at h3
     exact λσ4 H4 φ4 s4 rs4 re4=>⟨φ4,st4,ρ4,rs4,re4,yaH.on s4 h3⟩
    |bk ρ4 st4=>rw[ee]at h3;exact h3
    |rt v4 st4=>rw[ee]at h3;exact h3
    |exc k ρ4 st4=>rw[ee]at h3;exact h3
    |bad=>rw[ee]at h3;exact h3
end
section
variable (S:Se)(K:AG)
def yfo {α β:Type}(B:AJ->Prop)(φ:Ph)(H:Hp)(Rel:Ph->Hp->α->β->Prop)(r:R α)(Q:β->Hp->Prop):Prop :=
 match r with
 | .ok v st'=>∀x H' φ',Step φ H φ' H'->yt K S.cl B φ' H' st'->Rel φ' H' v x->Q x H'
 |_=>False
def tE0 (c:Ce):TE:=λσ H Q=>∃B φ st ρ,yt K S.cl B φ H st/\yR K S.cl B φ H ρ σ/\yfo S K B φ H (λφ H=>yd K S.cl B φ H) (ev S.call ρ st c) Q
def tT0 (c:Ce):TT:=λσ H Q=>∃B φ st ρ,yt K S.cl B φ H st/\yR K S.cl B φ H ρ σ/\yfo S K B φ H RB (ya9 (ev S.call ρ st c)) Q
def tG0 (t:Tg):TG:=λv σ H Q=>∃B φ st ρ w ρ',yt K S.cl B φ H st/\yR K S.cl B φ H ρ σ/\yd K S.cl B φ H w v/\yM t w ρ=AA ρ'/\∀σ',yR K S.cl B φ H ρ' σ'->Q σ' H
end
section
variable {S:Se}{X:Cx}{K:AG}{cl:Nat->AJ}{σ:St}{B:AJ->Prop}{φ φ1:Ph}{H H1:Hp}{st:Store}{ρ:IC.Env}{pos p p2 px:CT}{a b c o tg l elt iter:AV}{ca cb cc ce:Ce}{ci:Cit}{ct:Tg}
theorem zlR (hK:X.K=K)(h:PE X a (tE S X ca)):PE X a (tE0 S K ca):=by
 subst hK
 refine h.imp λσ H Q ⟨B,φ,st,ρ,rs,re,q⟩=>⟨B,φ,st,ρ,rs,re,?_⟩
 cases e:ev S.call ρ st ca with
 |ok v st'=>rw[e]at q;exact q
 |exc k st'=>rw[e]at q;exact q.elim
 |bad=>rw[e]at q;exact q
theorem zkC (hK:X.K=K)(h:PT X a (tTs S X ca)):PTs X [a] (tT0 S K ca):=by
 subst hK
 refine zl4 (h.imp λσ H Q ⟨B,φ,st,ρ,rs,re,q⟩=>⟨B,φ,st,ρ,rs,re,?_⟩)
 cases e:ya9 (ev S.call ρ st ca)with
 |ok v st'=>rw[e]at q;exact q
 |exc k st'=>rw[e]at q;exact q.elim
 |bad=>rw[e]at q;exact q
theorem zis:PTs X [] (tT0 S K (.cst (.bl AC))):=λpins s σ H Q I ⟨B,φ,st,ρ,rs,re,q⟩=>by
 refine zk7 pins s σ H Q I ?_
 simp only[ev,ya9,R.bind,yaP,onO]at q
 exact q AC H φ .rfl rs rfl
theorem zly (hK:X.K=K)(h:PG X tg (tG S X ct)):PG X tg (tG0 S K ct):=by
 subst hK
 exact h
theorem ybW.skip {k:Bool}{D y:AJ}{u:HO}{xs:List V}(hD:B D)(r:ybW K B φ H k y xs):ybW K B φ (L2.upd H D u) k y xs:=by
 rcases r with⟨r,b,n⟩|r
 .exact .inl ⟨by rw[zj (show y≠D from λz=>b (z ▸ hD))];exact r,b,n⟩
 .exact .inr r
mutual
theorem yd.skip {D:AJ}{u:HO}(hD:B D):∀(v:PV) (x:V),yd K cl B φ H v x->yd K cl B φ (L2.upd H D u) v x
 | .non,x,h=>by simp only[yd]at h ⊢;exact h
 | .bl b,x,h=>by simp only[yd]at h ⊢;exact h
 | .int i,x,h=>by simp only[yd]at h ⊢;exact h
 | .str y,x,h=>by simp only[yd]at h ⊢;exact h
 | .tp k vs,x,h=>by
  simp only[yd]at h ⊢
  obtain⟨y,xs,e,r,l⟩:=h
  exact⟨y,xs,e,r.skip hD,yg.skip hD vs xs l⟩
 | .lst vs,x,h=>by
  simp only[yd]at h ⊢
  obtain⟨y,xs,e,⟨r,b,n⟩,l⟩:=h
  exact⟨y,xs,e,⟨by rw[zj (show y≠D from λz=>b (z ▸ hD))];exact r,b,n⟩,yg.skip hD vs xs l⟩
 | .loc n,x,h=>by simp only[yd]at h ⊢;exact h
 | .exn c,x,h=>by
  simp only[yd]at h ⊢
  obtain⟨y,e,r,b,n⟩:=h
  exact⟨y,e,by rw[zj (show y≠D from λz=>b (z ▸ hD))];exact r,b,n⟩
 | .scr vs,x,h=>by
  simp only[yd]at h ⊢
  obtain⟨y,xs,e,r,l⟩:=h
  refine⟨y,xs,e,?_,yg.skip hD vs xs l⟩
  rcases r with⟨r,b,n⟩|r
  .refine .inl ⟨?_,b,n⟩
   have ne:y≠D:=λz=>b (z ▸ hD)
   rcases r with r|⟨o,r⟩
   .exact .inl (by rw[zj ne];exact r)
   .exact .inr ⟨o,by rw[zj ne];exact r⟩
  .exact .inr r
theorem yg.skip {D:AJ}{u:HO}(hD:B D):∀(v:List PV) (x:List V),yg K cl B φ H v x->yg K cl B φ (L2.upd H D u) v x
 | [],x,h=>by simp only[yg]at h ⊢;exact h
 |v::vs,x,h=>by
  simp only[yg]at h ⊢
  obtain⟨y,ys,e,r,l⟩:=h
  exact⟨y,ys,e,yd.skip hD v y r,yg.skip hD vs ys l⟩
end
theorem DK.skip {D:AJ}{u:HO}(hD:B D):∀{kvs:List (PV×PV)} {ks:List (Key×V)},DK K cl B φ H kvs ks->DK K cl B φ (L2.upd H D u) kvs ks
 | [],ks,h=>h
 | (k,v)::r,ks,h=>by
  obtain⟨q,x,t,e,m,rv,l⟩:=h
  exact⟨q,x,t,e,m,rv.skip hD,DK.skip hD l⟩
theorem DT.skip {D:AJ}{u:HO}(hD:B D):∀{kvs:List (PV×PV)} {ks:List (List Key×V)},DT K cl B φ H kvs ks->DT K cl B φ (L2.upd H D u) kvs ks
 | [],ks,h=>h
 | (k,v)::r,ks,h=>by
  obtain⟨q,x,t,e,m,rv,l⟩:=h
  exact⟨q,x,t,e,m,rv.skip hD,DT.skip hD l⟩
theorem FS.skip {D:AJ}{u:HO}(hD:B D):∀{kvs:List (AR×PV)} {ks:List (AR×V)},FS K cl B φ H kvs ks->FS K cl B φ (L2.upd H D u) kvs ks
 | [],ks,h=>h
 | (k,v)::r,ks,h=>by
  obtain⟨x,t,e,rv,l⟩:=h
  exact⟨x,t,e,rv.skip hD,FS.skip hD l⟩
theorem yt.skip {D:AJ}{u:HO}(hD:B D)(rs:yt K cl B φ H st):yt K cl B φ (L2.upd H D u) st:=by
 refine⟨rs.len,rs.inj,λn y e=>?_,rs.liv,rs.nb,λy h=>?_⟩
 .obtain⟨o,q,r⟩:=rs.obj n y e
  have ne:y≠D:=λz=>rs.nb y (A1 e) (z ▸ hD)
  refine⟨o,q,?_⟩
  cases o with
  |lst vs =>
   obtain⟨xs,hx,l⟩:=r
   exact⟨xs,by rw[zj ne];exact hx,l.skip hD⟩
  |dct t kvs =>
   cases t with
   |false =>
    obtain⟨xs,hx,l⟩:=r
    exact⟨xs,by rw[zj ne];exact hx,l.skip hD⟩
   |true =>
    obtain⟨xs,hx,l⟩:=r
    exact⟨xs,by rw[zj ne];exact hx,l.skip hD⟩
  |ins c fs =>
   obtain⟨ks,⟨dx,hx⟩,l⟩:=r
   exact⟨ks,⟨dx,by rw[zj ne];exact hx⟩,l.skip hD⟩
  |dead=>exact r.elim
 .by_cases z:y=D
  .subst z;exact⟨u,zp⟩
  .obtain⟨w,e⟩:=rs.dom y h
   exact⟨w,by rw[zj z];exact e⟩
theorem yR.skip {D:AJ}{u:HO}(hD:B D)(re:yR K cl B φ H ρ σ):yR K cl B φ (L2.upd H D u) ρ σ:=⟨re.len,λi v e=>by
 obtain⟨x,h,q⟩:=re.get i v e
 exact⟨x,h,q.skip hD⟩⟩
noncomputable def Bx (B:AJ->Prop)(D:AJ):AJ->Prop:=λy=>B y \/ y=D
theorem zgC {D:AJ}(hn:H D=AE):∀y,Bx B D y->B y \/ H y=none:=λy z=>z.elim .inl λq=>.inr (q ▸ hn)
theorem yd.more {D:AJ}(hn:H D=AE){v:PV}{x:V}(h:yd K cl B φ H v x):yd K cl (Bx B D) φ H v x:=h.moreB (zgC hn)
theorem yg.more {D:AJ}(hn:H D=AE){v:List PV}{x:List V}(h:yg K cl B φ H v x):yg K cl (Bx B D) φ H v x:=h.moreB (zgC hn)
mutual
theorem yd.less {D:AJ}:∀(v:PV) (x:V),yd K cl (Bx B D) φ H v x->yd K cl B φ H v x
 | .non,x,h=>by simp only[yd]at h ⊢;exact h
 | .bl b,x,h=>by simp only[yd]at h ⊢;exact h
 | .int i,x,h=>by simp only[yd]at h ⊢;exact h
 | .str y,x,h=>by simp only[yd]at h ⊢;exact h
 | .tp k vs,x,h=>by
  simp only[yd]at h ⊢
  obtain⟨y,xs,e,r,l⟩:=h
  refine⟨y,xs,e,?_,yg.less vs xs l⟩
  rcases r with⟨r,b,n⟩|r
  .exact .inl ⟨r,λz=>b (.inl z),n⟩
  .exact .inr r
 | .lst vs,x,h=>by
  simp only[yd]at h ⊢
  obtain⟨y,xs,e,⟨r,b,n⟩,l⟩:=h
  exact⟨y,xs,e,⟨r,λz=>b (.inl z),n⟩,yg.less vs xs l⟩
 | .loc n,x,h=>by simp only[yd]at h ⊢;exact h
 | .exn c,x,h=>by
  simp only[yd]at h ⊢
  obtain⟨y,e,r,b,n⟩:=h
  exact⟨y,e,r,λz=>b (.inl z),n⟩
 | .scr vs,x,h=>by
  simp only[yd]at h ⊢
  obtain⟨y,xs,e,r,l⟩:=h
  refine⟨y,xs,e,?_,yg.less vs xs l⟩
  rcases r with⟨r,b,n⟩|r
  .exact .inl ⟨r,λz=>b (.inl z),n⟩
  .exact .inr r
theorem yg.less {D:AJ}:∀(v:List PV) (x:List V),yg K cl (Bx B D) φ H v x->yg K cl B φ H v x
 | [],x,h=>by simp only[yg]at h ⊢;exact h
 |v::vs,x,h=>by
  simp only[yg]at h ⊢
  obtain⟨y,ys,e,r,l⟩:=h
  exact⟨y,ys,e,yd.less v y r,yg.less vs ys l⟩
end
theorem DK.more {D:AJ}(hn:H D=AE):∀{kvs:List (PV×PV)} {ks:List (Key×V)},DK K cl B φ H kvs ks->DK K cl (Bx B D) φ H kvs ks
 | [],ks,h=>h
 | (k,v)::r,ks,h=>by
  obtain⟨q,x,t,e,m,rv,l⟩:=h
  exact⟨q,x,t,e,m,rv.more hn,DK.more hn l⟩
theorem DT.more {D:AJ}(hn:H D=AE):∀{kvs:List (PV×PV)} {ks:List (List Key×V)},DT K cl B φ H kvs ks->DT K cl (Bx B D) φ H kvs ks
 | [],ks,h=>h
 | (k,v)::r,ks,h=>by
  obtain⟨q,x,t,e,m,rv,l⟩:=h
  exact⟨q,x,t,e,m,rv.more hn,DT.more hn l⟩
theorem FS.more {D:AJ}(hn:H D=AE):∀{kvs:List (AR×PV)} {ks:List (AR×V)},FS K cl B φ H kvs ks->FS K cl (Bx B D) φ H kvs ks
 | [],ks,h=>h
 | (k,v)::r,ks,h=>by
  obtain⟨x,t,e,rv,l⟩:=h
  exact⟨x,t,e,rv.more hn,FS.more hn l⟩
theorem DK.less {D:AJ}:∀{kvs:List (PV×PV)} {ks:List (Key×V)},DK K cl (Bx B D) φ H kvs ks->DK K cl B φ H kvs ks
 | [],ks,h=>h
 | (k,v)::r,ks,h=>by
  obtain⟨q,x,t,e,m,rv,l⟩:=h
  exact⟨q,x,t,e,m,rv.less,DK.less l⟩
theorem DT.less {D:AJ}:∀{kvs:List (PV×PV)} {ks:List (List Key×V)},DT K cl (Bx B D) φ H kvs ks->DT K cl B φ H kvs ks
 | [],ks,h=>h
 | (k,v)::r,ks,h=>by
  obtain⟨q,x,t,e,m,rv,l⟩:=h
  exact⟨q,x,t,e,m,rv.less,DT.less l⟩
theorem FS.less {D:AJ}:∀{kvs:List (AR×PV)} {ks:List (AR×V)},FS K cl (Bx B D) φ H kvs ks->FS K cl B φ H kvs ks
 | [],ks,h=>h
 | (k,v)::r,ks,h=>by
  obtain⟨x,t,e,rv,l⟩:=h
  exact⟨x,t,e,rv.less,FS.less l⟩
theorem yt.less {D:AJ}(rs:yt K cl (Bx B D) φ H st):yt K cl B φ H st:=by
 refine⟨rs.len,rs.inj,λn y e=>?_,rs.liv,λy h z=>rs.nb y h (.inl z),λy h=>rs.dom y (.inl h)⟩
 obtain⟨o,q,r⟩:=rs.obj n y e
 refine⟨o,q,?_⟩
 cases o with
 |lst vs=>obtain⟨xs,hx,l⟩:=r;exact⟨xs,hx,l.less⟩
 |dct t kvs=>cases t <;> (obtain⟨xs,hx,l⟩:=r;exact⟨xs,hx,l.less⟩)
 |ins c fs=>obtain⟨ks,hx,l⟩:=r;exact⟨ks,hx,l.less⟩
 |dead=>exact r.elim
theorem yt.more {D:AJ}{u:HO}(hn:H D=AE)(rs:yt K cl B φ H st):yt K cl (Bx B D) φ (L2.upd H D u) st:=by
 have nD:AA D∉φ:=λz=>by
  obtain⟨w,e⟩:=rs.there z
  rw[hn]at e;cases e
 have s:Step φ H φ (L2.upd H D u):=.upd hn
 have rs':=rs.upd (o:=u) hn
 refine⟨rs.len,rs.inj,λn y e=>?_,rs.liv,λy h z=>z.elim (rs.nb y h) λq=>nD (q ▸ h),λy h=>?_⟩
 .obtain⟨o,q,r⟩:=rs.obj n y e
  have ne:y≠D:=λz=>nD (z ▸ A1 e)
  have hD:Bx B D D:=.inr rfl
  refine⟨o,q,?_⟩
  cases o with
  |lst vs=>obtain⟨xs,hx,l⟩:=r;exact⟨xs,by rw[zj ne];exact hx,(l.more hn).skip hD⟩
  |dct t kvs =>
   cases t with
   |false=>obtain⟨xs,hx,l⟩:=r;exact⟨xs,by rw[zj ne];exact hx,(l.more hn).skip hD⟩
   |true=>obtain⟨xs,hx,l⟩:=r;exact⟨xs,by rw[zj ne];exact hx,(l.more hn).skip hD⟩
  |ins c fs=>obtain⟨ks,⟨dx,hx⟩,l⟩:=r;exact⟨ks,⟨dx,by rw[zj ne];exact hx⟩,(l.more hn).skip hD⟩
  |dead=>exact r.elim
 .rcases h with h|h
  .exact rs'.dom y h
  .subst h;exact⟨u,zp⟩
theorem yR.more {D:AJ}{u:HO}(hn:H D=AE)(re:yR K cl B φ H ρ σ):yR K cl (Bx B D) φ (L2.upd H D u) ρ σ:=⟨re.len,λi v e=>by
 obtain⟨x,h,q⟩:=re.get i v e
 exact⟨x,h,(q.more hn).skip (.inr rfl)⟩⟩
noncomputable def yaC:Tg->List (Option Nat)->Bool
 | .n i,sl=>decide (sl[i]?=AA AE)
 | .t l,sl=>l.all λi=>decide (sl[i]?=AA AE)
theorem zf0:∀(l:List Nat) (vs:List PV) (ρ:IC.Env) (j:Nat),j∉l->((l.zip vs).foldl (λρ p=>ρ.set p.1 (AA p.2)) ρ)[j]?=ρ[j]?
 | [],vs,ρ,j,h=>by simp
 |i::is,[],ρ,j,h=>by simp
 |i::is,v::vs,ρ,j,h=>by
  simp only[EF,Dd]
  rw[zf0 is vs _ j λz=>h (AS _ z),AO]
  rintro rfl
  exact h Ai
theorem zfr:∀(l:List Nat) (vs:List PV) (ρ:IC.Env),((l.zip vs).foldl (λρ p=>ρ.set p.1 (AA p.2)) ρ).length=ρ.length
 | [],vs,ρ=>by simp
 |i::is,[],ρ=>by simp
 |i::is,v::vs,ρ=>by
  simp only[EF,Dd]
  rw[zfr is vs,B6]
theorem yR.untgt {sl:List (Option Nat)}{ρ0 ρ1:IC.Env}{v:PV}(hf:yaC ct sl=AC)(h0:∀(i:Nat),sl[i]?=AA AE->ρ0[i]?=AA AE)(hb:yM ct v ρ0=AA ρ1)(re:yR K cl B φ H ρ1 σ):yR K cl B φ H ρ0 σ:=by
 cases ct with
 |n i =>
  cases hb
  simp only[yaC,decide_eq_true_eq]at hf
  refine⟨by rw[<- re.len,B6],λj w e=>re.get j w ?_⟩
  rw[AO]
  .exact e
  .rintro rfl
   rw[h0 _ hf]at e;cases e
 |t l =>
  cases v with
  |tp k vs =>
   simp only[yM]at hb
   split at hb
   .cases hb
    simp only[yaC,BX,decide_eq_true_eq]at hf
    refine⟨by rw[<- re.len,zfr],λj w e=>re.get j w ?_⟩
    rw[zf0]
    .exact e
    .intro z
     rw[h0 _ (hf j z)]at e;cases e
   .cases hb
  |_=>cases hb
theorem yR.inn {sl:List (Option Nat)}(re:yR K cl B φ H ρ σ):yR K cl B φ H (sl.map λo=>o.bind λj=>(ρ[j]?).join) (L2.inn sl σ):=by
 unfold L2.inn
 refine⟨by simp,λi v e=>?_⟩
 rw[Bm]at e ⊢
 cases q:sl[i]? with
 |none=>rw[q]at e;cases e
 |some o =>
  rw[q]at e
  cases o with
  |none=>cases e
  |some j =>
   simp only[DB,BW,Option.some.injEq]at e ⊢
   cases q2:ρ[j]? with
   |none=>rw[q2]at e;cases e
   |some w =>
    rw[q2]at e
    simp only[GL]at e
    subst e
    obtain⟨x,hx,rv⟩:=re.get j v q2
    exact⟨x,by rw[hx];rfl,rv⟩
theorem ycv:1000000<sizeLine:=by rw[D7];decide
theorem zng {α:Type}{o:Option Bool}{k:Bool->R α}{z:α}{s:Store}(h:onO o k=.ok z s):∃b,o=AA b/\k b=.ok z s:=by
 cases o with
 |none=>cases h
 |some b=>exact⟨b,rfl,h⟩
theorem zaT {α β:Type}{r:R α}{k:α->Store->R β}{z:β}{s:Store}(h:r.bind k=.ok z s):∃a s1,r=.ok a s1/\k a s1=.ok z s:=by
 cases r with
 |ok a s1=>exact⟨a,s1,rfl,h⟩
 |exc c s=>cases h
 |bad=>cases h
theorem zhw {sl:List (Option Nat)}(hf:yaC ct sl=AC){H:Hp}{Q:VK}(h:tE S X (.comp sl ct ci cc ce) σ H Q):ydv sl (tI S X ci) (tG0 S X.K ct) (tT0 S X.K cc) (tE0 S X.K ce) σ H Q:=by
  obtain⟨B,φ,st,ρ,rs,re,h⟩:=h
  simp only[ev]at h
  refine⟨B,φ,st,ρ,rs,re,(Run.bind h).mono λJ H1 ⟨xs,st1,φ1,s1,rs1,dr,h1⟩=>λD hD=>?_⟩
  generalize hone:(λ(x:PV) (st2:Store)=>match yM ct x (sl.map λo=>o.bind λj=>(ρ[j]?).join)with
   |none=>(R.bad:R (Option PV))
   |some ρ1=>(ev S.call ρ1 st2 cc).bind λb st3=>onO (yaP st3 b) λk=>cond k ((ev S.call ρ1 st3 ce).bind λy st4=>.ok (AA y) st4) (.ok AE st3))=one at h1
  cases e:yaT one xs st1 with
  |exc k s=>rw[e]at h1;exact h1.elim
  |bad=>rw[e]at h1;exact h1.elim
  |ok zs st5 =>
   rw[e]at h1
   simp only[yca]at h1
   split at h1
   case isFalse=>exact h1.elim
   rename_i hz
   have nB:¬B D:=rs1.nB hD
   have nD:AA D∉φ1:=λz=>by
    obtain⟨w,e⟩:=rs1.there z
    rw[hD]at e;cases e
   refine⟨λi m σc ys H2=>∃φ2 st2 vs rest,i+m=xs.length/\Step φ1 H1 φ2 H2/\H2 D=AA (.lst ys)/\AA D∉φ2/\yt X.K S.cl (Bx B D) φ2 H2 st2/\yR X.K S.cl (Bx B D) φ2 H2 (sl.map λo=>o.bind λj=>(ρ[j]?).join) σc /\
     yg X.K S.cl (Bx B D) φ2 H2 vs ys/\yaT one (xs.drop i) st2=.ok rest st5/\vs++rest=zs,
    ⟨xs.length,φ1,st1,[],zs,by omega,.upd hD,zp,nD,rs1.more hD,(yR.inn (re.step s1)).more hD,by simp only[yg],by simpa using e,rfl⟩,?_⟩
   rintro i m σc ys H2 ⟨φ2,st2,vs,rest,hm,s2,hD2,nD2,rs2,re2,l2,ec,ez⟩
   refine⟨hD2,?_⟩
   by_cases hi:i<xs.length
   .have hl2:=l2.length
    have hml:=ycv
    have hzl:=congrArg C0 ez
    rw[A7]at hzl
    refine .inr ⟨dr.go i φ2 H2 s2 hi,by omega,λσ' ys' H'=>∃φ2 st2 vs rest,Step φ1 H1 φ2 H'/\H' D=AA (.lst ys')/\AA D∉φ2/\yt X.K S.cl (Bx B D) φ2 H' st2/\yR X.K S.cl (Bx B D) φ2 H' (sl.map λo=>o.bind λj=>(ρ[j]?).join) σ' /\
     yg X.K S.cl (Bx B D) φ2 H' vs ys'/\yaT one (xs.drop (i+1)) st2=.ok rest st5/\vs++rest=zs,λσ' ys' H' ⟨φ2,st2,vs,rest,q⟩=>⟨m - 1,by omega,φ2,st2,vs,rest,by omega,q⟩,λx H3 hy=>?_⟩
    obtain⟨v,hv,rv,kk⟩:=dr.yld i φ2 H2 st2 x H3 (Bx B D) (λy z=>z.elim .inl λq=>.inr (q ▸ hD)) s2 rs2 hi hy
    have s3:Step φ2 H2 φ2 H3:=⟨λb o _ e=>kk b o e,AT _,λ_ _ _ e=>e,λ_ h=>.inl h⟩
    have rs3:yt X.K S.cl (Bx B D) φ2 H3 st2:=rs2.same kk
    have ed:xs.drop i=v::xs.drop (i+1):=by
     rw[EM hi]
     rw[Bq hi]at hv
     rw[AX hv]
    rw[ed,yaT]at ec
    obtain⟨o,st3,e1,ec⟩:=zaT ec
    obtain⟨rest',st4,e2,ec⟩:=zaT ec
    rw[<- hone]at e1
    dsimp only at e1
    cases eb:yM ct v (sl.map λo=>o.bind λj=>(ρ[j]?).join)with
    |none=>rw[eb]at e1;cases e1
    |some ρ1 =>
     rw[eb]at e1
     dsimp only at e1
     obtain⟨bv,st6,e3,e1⟩:=zaT e1
     obtain⟨k,e4,e1⟩:=zng e1
     have er:st4=st5/\ycb o rest'=rest:=by
      injection ec with q1 q2
      exact⟨q2,q1⟩
     obtain⟨rfl,rfl⟩:=er
     refine⟨Bx B D,φ2,st2,_,v,ρ1,rs3,re2.step s3,rv,eb,λσ4 re4=>⟨Bx B D,φ2,st2,ρ1,rs3,re4,?_⟩⟩
     have et:ya9 (ev S.call ρ1 st2 cc)=.ok k st6:=by
      rw[e3]
      simp only[ya9,R.bind,e4,onO]
     rw[et]
     rintro k' H5 φ5 s5 rs5 rfl
     have nD5:AA D∉φ5:=λz=>by
      rcases s5.new D z with q|q
      .exact nD2 q
      .rw[kk D _ hD2]at q;cases q
     have hD5:H5 D=AA (.lst ys):=s5.keep D _ nD2 (kk D _ hD2)
     have s25:Step φ1 H1 φ5 H5:=s2.trans (s3.trans s5)
     have l5:=(l2.step s3).step s5
     have re5:yR X.K S.cl (Bx B D) φ5 H5 ρ1 σ4:=re4.step s5
     have h0:∀(i:Nat),sl[i]?=AA AE->(sl.map λo=>o.bind λj=>(ρ[j]?).join)[i]?=AA none:=λi q=>by
      rw[Bm,q];rfl
     cases k with
     |false =>
      simp only[cond_false]at e1
      cases e1
      exact⟨φ5,_,vs,rest',s25,hD5,nD5,rs5,yR.untgt hf h0 eb re5,l5,e2,ez⟩
     |true =>
      simp only[cond_true]at e1
      obtain⟨y,st7,e5,e1⟩:=zaT e1
      cases e1
      refine⟨Bx B D,φ5,st6,ρ1,rs5,re5,?_⟩
      rw[e5]
      intro y' H6 φ6 s6 rs6 ry
      have nD6:AA D∉φ6:=λz=>by
       rcases s6.new D z with q|q
       .exact nD5 q
       .rw[hD5]at q;cases q
      have hD6:H6 D=AA (.lst ys):=s6.keep D _ nD5 hD5
      have hBD:Bx B D D:=.inr rfl
      refine⟨hD6,φ6,_,vs++[y],rest',?_,zp,nD6,rs6.skip hBD,(yR.untgt hf h0 eb (re5.step s6)).skip hBD,((l5.step s6).append (by simp only[yg];exact⟨y',[],rfl,ry,rfl⟩)).skip hBD,e2,?_⟩
      .have s16:=s25.trans s6
       exact⟨λb o n q=>by rw[zj (zl q hD)];exact s16.keep b o n q,s16.len,s16.pre,s16.new⟩
      .simpa [ycb] using ez
   .have ei:i=xs.length:=by omega
    subst ei
    rw[GJ,yaT]at ec
    cases ec
    refine .inl ⟨dr.stop φ2 H2 s2,h1 (.ref D) H2 φ2 s2 rs2.less ?_⟩
    simp only[yd]
    exact⟨D,ys,rfl,⟨hD2,nB,nD2⟩,by rw[<- ez,Ah];exact l2.less⟩
theorem zla {sc:Bi}{NC:List AR}{sl:List (Option Nat)}{ifs:List AV}(hc:X.calm=AC)(O:yak X sc NC sl)(hf:yaC ct sl=AC)(hi:PI X tg iter (tI S X ci))(hg:∀j,PG (cxC X sc NC j) tg (tG0 S X.K ct))
  (ht:∀j,PTs (cxC X sc NC j) ifs (tT0 S X.K cc)) (he:∀j,PE (cxC X sc NC j) elt (tE0 S X.K ce)) (hs:∀x,foldedSetIterable iter X.env x=pure x:=by intro _;rfl) :
  PE X (.ListComp elt [⟨tg,iter,ifs,0⟩] sc pos) (tE S X (.comp sl ct ci cc ce)) :=
 (zlY hc O hi hg ht he hs).imp λσ H Q h=>zhw hf h
end
end L2
namespace IC
open PySem
def RLe {α:Type}(r q:R α):Prop:=r=.bad \/ r=q
def FLe (f g:Fl):Prop:=f=.bad \/ f=g
abbrev Cl:=Nat->List PV->Store->R PV
def CLe (c d:Cl):Prop:=∀f a s,RLe (c f a s) (d f a s)
theorem RLe.rfl {α:Type}{r:R α}:RLe r r:=.inr (DN _)
theorem FLe.rfl {f:Fl}:FLe f f:=.inr (DN _)
theorem RLe.bind {α β:Type}{r q:R α}{k l:α->Store->R β}(h:RLe r q)(hk:∀a s,RLe (k a s) (l a s)):RLe (r.bind k) (q.bind l):=by
 rcases h with h|h
 .subst h;exact .inl (DN _)
 .subst h
  cases r with
  |ok a s=>exact hk a s
  |exc c s=>exact .rfl
  |bad=>exact .rfl
theorem RLe.fl {α:Type}{r q:R α}{ρ:Env}{k l:α->Store->Fl}(h:RLe r q)(hk:∀a s,FLe (k a s) (l a s)):FLe (r.fl ρ k) (q.fl ρ l):=by
 rcases h with h|h
 .subst h;exact .inl (DN _)
 .subst h
  cases r with
  |ok a s=>exact hk a s
  |exc c s=>exact .rfl
  |bad=>exact .rfl
theorem RLe.comp {r q:R (List PV)}(h:RLe r q):RLe (yca r) (yca q):=by
 rcases h with h|h
 .subst h;exact .inl (DN _)
 .subst h;exact .rfl
theorem zgN {α:Type}{x:PV}{k l:Bool->R α}(h:∀b,RLe (k b) (l b)):RLe (onBl x k) (onBl x l):=by
 cases x with
 |bl b=>exact h b
 |_=>exact .rfl
theorem zeO {α:Type}{x:Option Bool}{k l:Bool->R α}(h:∀b,RLe (k b) (l b)):RLe (onO x k) (onO x l):=by
 cases x with
 |some b=>exact h b
 |none=>exact .rfl
theorem zkq {x:Option Bool}{k l:Bool->Fl}(h:∀b,FLe (k b) (l b)):FLe (onF x k) (onF x l):=by
 cases x with
 |some b=>exact h b
 |none=>exact .rfl
theorem zmw {α:Type}{x:Option (Option Int)}{k l:Option Int->R α}(h:∀b,RLe (k b) (l b)):RLe (onP x k) (onP x l):=by
 cases x with
 |some b=>exact h b
 |none=>exact .rfl
theorem zc3 {α:Type}{b:Bool}{r q r' q':R α}(h:RLe r q)(h':RLe r' q'):RLe (cond b r r') (cond b q q'):=by
 cases b
 .exact h'
 .exact h
theorem zfs {b:Bool}{r q r' q':Fl}(h:FLe r q)(h':FLe r' q'):FLe (cond b r r') (cond b q q'):=by
 cases b
 .exact h'
 .exact h
theorem zck {f g:PV->Store->R (Option PV)}(h:∀x s,RLe (f x s) (g x s)):∀xs s,RLe (yaT f xs s) (yaT g xs s)
 | [],s=>.rfl
 |x::xs,s=>(h x s).bind λo s1=>(zck h xs s1).bind λys s2=>.rfl
theorem zcB {f g:Fl}{k l:Env->Store->Fl}(h:FLe f g)(hk:∀ρ s,FLe (k ρ s) (l ρ s)):FLe (yaz f k) (yaz g l):=by
 rcases h with h|h
 .subst h;exact .inl (DN _)
 .subst h
  cases f with
  |nx ρ s=>exact hk ρ s
  |ct ρ s=>exact hk ρ s
  |_=>exact .rfl
theorem zdT {t:Tg}{f g:Env->Store->Fl}(h:∀ρ s,FLe (f ρ s) (g ρ s)):∀xs ρ s,FLe (forL t f xs ρ s) (forL t g xs ρ s)
 | [],ρ,s=>.rfl
 |x::xs,ρ,s=>by
  unfold forL
  cases yM t x ρ with
  |none=>exact .rfl
  |some ρ1=>exact zcB (h ρ1 s) λρ2 s2=>zdT h xs ρ2 s2
theorem zej {t u:Env->Store->R PV}{f g:Env->Store->Fl}(ht:∀ρ s,RLe (t ρ s) (u ρ s))(h:∀ρ s,FLe (f ρ s) (g ρ s)):∀n ρ s,FLe (yaq t f n ρ s) (yaq u g n ρ s)
 |0,ρ,s=>.rfl
 |n+1,ρ,s=>by
  unfold yaq
  exact(ht ρ s).fl λx s1=>zkq λb=>zfs (zcB (h ρ s1) λρ2 s2=>zej ht h n ρ2 s2) .rfl
mutual
theorem zh {c d:Cl}(h:CLe c d):∀(e:Ce) (ρ:Env) (s:Store),RLe (ev c ρ s e) (ev d ρ s e)
 | .cst v,ρ,s=>by exact .rfl
 | .var i,ρ,s=>by exact .rfl
 | .bin o a b,ρ,s=>by
  exact(zh h a ρ s).bind λx s1=>(zh h b ρ s1).bind λy s2=>.rfl
 | .neg a,ρ,s=>by
  exact(zh h a ρ s).bind λx s1=>.rfl
 | .not a,ρ,s=>by
  exact(zh h a ρ s).bind λx s1=>.rfl
 | .and a b,ρ,s=>by
  refine(zh h a ρ s).bind λx s1=>?_
  exact zgN λk=>zc3 (zh h b ρ s1) .rfl
 | .or a b,ρ,s=>by
  refine(zh h a ρ s).bind λx s1=>?_
  exact zgN λk=>zc3 .rfl (zh h b ρ s1)
 | .cmp o a b,ρ,s=>by
  exact(zh h a ρ s).bind λx s1=>(zh h b ρ s1).bind λy s2=>.rfl
 | .chain o p a b k,ρ,s=>by
  refine(zh h a ρ s).bind λx s1=>(zh h b ρ s1).bind λy s2=>?_
  exact zeO λq=>zc3 ((zh h k ρ s2).bind λz s3=>.rfl) .rfl
 | .ite k a b,ρ,s=>by
  exact(zh h k ρ s).bind λx s1=>zeO λq=>zc3 (zh h a ρ s1) (zh h b ρ s1)
 | .tup es,ρ,s=>by
  exact(zaB h es ρ s).bind λx s1=>.rfl
 | .lst es,ρ,s=>by
  exact(zaB h es ρ s).bind λx s1=>.rfl
 | .newl es,ρ,s=>by
  exact(zaB h es ρ s).bind λx s1=>.rfl
 | .dict0 t,ρ,s=>by exact .rfl
 | .idx a i,ρ,s=>by
  exact(zh h a ρ s).bind λx s1=>(zh h i ρ s1).bind λy s2=>.rfl
 | .slc a l u,ρ,s=>by
  exact(zh h a ρ s).bind λx s1=>(zh h l ρ s1).bind λy s2=>zmw λo=>(zh h u ρ s2).bind λz s3=>.rfl
 | .call f es,ρ,s=>by
  exact(zaB h es ρ s).bind λx s1=>h f x s1
 | .blt b es,ρ,s=>by
  exact(zaB h es ρ s).bind λx s1=>.rfl
 | .mth m o es,ρ,s=>by
  exact(zh h o ρ s).bind λx s1=>zeO λ_=>(zaB h es ρ s1).bind λy s2=>.rfl
 | .isi a ts,ρ,s=>by
  exact(zh h a ρ s).bind λx s1=>.rfl
 | .comp sl tg it k e,ρ,s=>by
  refine(zin h it ρ s).bind λxs s1=>?_
  have q:=λ(f g:PV->Store->R (Option PV)) (hfg:∀x s,RLe (f x s) (g x s))=>zck hfg xs s1
  refine RLe.comp (zck (λx s2=>?_) xs s1)
  cases yM tg x _ with
  |none=>exact .rfl
  |some ρ1 =>
   dsimp only
   exact(zh h k ρ1 s2).bind λb s3=>zeO λq=>zc3 ((zh h e ρ1 s3).bind λy s4=>.rfl) .rfl
 | .nope,ρ,s=>by exact .rfl
 | .frz a,ρ,s=>by
  exact(zh h a ρ s).bind λx s1=>.rfl
 | .dix D a,ρ,s=>by
  exact(zh h a ρ s).bind λx s1=>.rfl
 | .din a D,ρ,s=>by
  exact(zh h a ρ s).bind λx s1=>.rfl
 | .fld q a f,ρ,s=>by
  exact(zh h a ρ s).bind λx s1=>.rfl
 | .new q i es,ρ,s=>by
  refine(zaB h es ρ s).bind λx s1=>RLe.bind ?_ λv s2=>.rfl
  rcases h i (.loc s1.length::x) (s1++[.ins q []])with e|e
  .rw[e];exact .inl (DN _)
  .rw[e];exact .rfl
 | .mcl q i m o es,ρ,s=>by
  exact(zh h o ρ s).bind λx s1=>zeO λ_=>(zaB h es ρ s1).bind λy s2=>h i (x::y) s2
theorem zaB {c d:Cl}(h:CLe c d):∀(e:Ces) (ρ:Env) (s:Store),RLe (evs c ρ s e) (evs d ρ s e)
 | .nil,ρ,s=>by exact .rfl
 | .cons e es,ρ,s=>by
  exact(zh h e ρ s).bind λx s1=>(zaB h es ρ s1).bind λy s2=>.rfl
theorem zin {c d:Cl}(h:CLe c d):∀(e:Cit) (ρ:Env) (s:Store),RLe (evi c ρ s e) (evi d ρ s e)
 | .seq e,ρ,s=>by
  exact(zh h e ρ s).bind λx s1=>.rfl
 | .range1 a,ρ,s=>by
  exact(zh h a ρ s).bind λx s1=>.rfl
 | .range2 a b,ρ,s=>by
  exact(zh h a ρ s).bind λx s1=>(zh h b ρ s1).bind λy s2=>.rfl
 | .rangeD a b,ρ,s=>by
  exact(zh h a ρ s).bind λx s1=>(zh h b ρ s1).bind λy s2=>.rfl
 | .enum e,ρ,s=>by
  exact(zh h e ρ s).bind λx s1=>.rfl
 | .zip a b,ρ,s=>by
  exact(zh h a ρ s).bind λx s1=>(zh h b ρ s1).bind λy s2=>.rfl
 | .revl e,ρ,s=>by
  exact(zh h e ρ s).bind λx s1=>.rfl
 | .revr e,ρ,s=>by
  exact(zh h e ρ s).bind λx s1=>.rfl
 | .chars e,ρ,s=>by
  exact(zh h e ρ s).bind λx s1=>.rfl
end
mutual
theorem zoK {c d:Cl}(h:CLe c d):∀(x:Cs) (ρ:Env) (s:Store),FLe (ex c ρ s x) (ex d ρ s x)
 | .expr e,ρ,s=>by
  exact(zh h e ρ s).fl λx s1=>.rfl
 | .asg t e,ρ,s=>by
  exact(zh h e ρ s).fl λx s1=>.rfl
 | .six o i e,ρ,s=>by
  exact(zh h e ρ s).fl λx s1=>(zh h o ρ s1).fl λy s2=>(zh h i ρ s2).fl λz s3=>.rfl
 | .dput o i e,ρ,s=>by
  exact(zh h e ρ s).fl λx s1=>(zh h o ρ s1).fl λy s2=>(zh h i ρ s2).fl λz s3=>.rfl
 | .aug i o e,ρ,s=>by
  first|unfold ev|unfold ex|unfold evs|unfold evi|unfold exs
  split
  .exact(zh h e ρ s).fl λx s1=>.rfl
  .exact .rfl
 | .ret e,ρ,s=>by
  exact(zh h e ρ s).fl λx s1=>.rfl
 | .ite k a b,ρ,s=>by
  exact(zh h k ρ s).fl λx s1=>zkq λq=>zfs (zaK h a ρ s1) (zaK h b ρ s1)
 | .for t it b,ρ,s=>by
  exact(zin h it ρ s).fl λxs s1=>zdT (λρ2 s2=>zaK h b ρ2 s2) xs ρ s1
 | .while k b,ρ,s=>by
  exact zej (λρ2 s2=>zh h k ρ2 s2) (λρ2 s2=>zaK h b ρ2 s2) _ ρ s
 | .nope,ρ,s=>by exact .rfl
 | .mkr i D n es,ρ,s=>by
  refine(zh h n ρ s).fl λx s1=>?_
  split
  .exact((zaB h es _ s1).bind λvs s2=>h _ vs s2).fl λv s3=>.rfl
  .exact .rfl
 | .sfl q o f e,ρ,s=>by
  exact(zh h e ρ s).fl λx s1=>(zh h o ρ s1).fl λy s2=>.rfl
theorem zaK {c d:Cl}(h:CLe c d):∀(x:Css) (ρ:Env) (s:Store),FLe (exs c ρ s x) (exs d ρ s x)
 | .nil,ρ,s=>by exact .rfl
 | .cons x xs,ρ,s=>by
  first|unfold ev|unfold ex|unfold evs|unfold evi|unfold exs
  rcases zoK h x ρ s with e|e
  .rw[e];exact .inl (DN _)
  .rw[e]
   cases ex d ρ s x with
   |nx ρ1 s1=>exact zaK h xs ρ1 s1
   |_=>exact .rfl
end
theorem ze3 (T:Nat->Option Fn):∀k,CLe (yc T k) (yc T (k+1))
 |0,f,a,s=>.inl (DN _)
 |k+1,f,a,s=>by
  have h:=ze3 T k
  rw[yc,yc]
  cases T f with
  |none=>exact .rfl
  |some fn =>
   dsimp only
   split
   .split
    .split
     .rcases zaK h fn.body (a.map AA++Aw (fn.ns - fn.np) AE) []with e|e
      .rw[e];exact .inl (DN _)
      .rw[e];exact .rfl
     .exact .rfl
    .rcases zaK h fn.body (a.map AA++Aw (fn.ns - fn.np) AE) s with e|e
     .rw[e];exact .inl (DN _)
     .rw[e];exact .rfl
   .exact .rfl
theorem zak {T:Nat->Option Fn}{k:Nat}{f:Nat}{a:List PV}{s s':Store}{v:PV}(h:yc T k f a s=.ok v s'):∀j,yc T (k+j) f a s=.ok v s'
 |0=>h
 |j+1=>by
  have q:=zak h j
  rcases ze3 T (k+j) f a s with e|e
  .rw[q]at e;cases e
  .rw[D3]at e
   rw[<- e];exact q
end IC
namespace L2
open PySem PySem.Spec PyProof.Rows IC
def spI (K:AG)(cl:Nat->AJ)(call:Nat->List PV->Store->R PV)(f:Nat):Sp:=λvs H Q E=>∃B φ st args,yt K cl B φ H st/\yg K cl B φ H args vs/\match call f args st with
 | .ok v st'=>∀x H' φ',Step φ H φ' H'->yt K cl B φ' H' st'->yd K cl B φ' H' v x->Q x H'
 | .exc c st'=>∀H' φ',Step φ H φ' H'->yt K cl B φ' H' st'->E (.ref (cl c)) AE H'
 | .bad=>False
section
variable {S:Se}{X:Cx}{k:Nat}{f:AJ}{fd:BC}{ps ks:List AR}{sp:Sp}{dvs:List V}{ds:List AH}{x:AR}{p pos:CT}{e:AV}{es:List AV}{t tk:TA}{CX:CXT}{σ:St}{H:Hp}
theorem zcQ {pins:List (AJ×CB)}{s:AK}{Q:VK}{us:List AH}{vs:List V}{E:XK}(F:yaJ X.prog X.w X.K X.mg X.base CX k f fd ps sp)(hr:yar k X.A)(hb:Binds X.K fd ps ds)(hd:Vals dvs ds)
  (I:Inv X pins σ H s) (r:Vals vs us) (h:sp (vs++dvs) H Q E) (hx:∀e s',CX X.stack H s E e s'->X.xe e s'):AZ (model X.prog X.w) X.A (call (.ref f) us) (EP X pins σ Q) X.xe s:=by
 have r2:Vals (vs++dvs) (us++ds):=r.append hd
 have hl:(us++ds).length=ps.length:=by rw[<- r2.length];exact F.len _ _ _ _ h
 refine G4 (Dm (F.run X.A X.stack s H ⟨us,[]⟩ (us++ds) (vs++dvs) Q E hr I.env0 (hb s us I.kIn hl) r2 h) λr s' hq=>?_)
 cases r with
 |error e=>exact hx e s' hq
 |ok fl =>
  cases fl with
  |ret u=>exact I.after hq
  |next=>exact Bf hq
  |brk=>exact Bf hq
  |cont=>exact Bf hq
noncomputable def ycF (CX:CXT)(X:Cx)(sp:Sp)(dvs:List V)(t:TA):TE:=λσ H Q=>t σ H λvs H1=>∃E:XK,sp (vs++dvs) H1 Q E/\∀pins s e s',Inv X pins σ H1 s->CX X.stack H1 s E e s'->X.xe e s'
theorem zjr (F:yaJ X.prog X.w X.K X.mg X.base CX k f fd ps sp)(hr:yar k X.A)(hg:Gl X x)(hm:X.mg x=AA (.ref f))(hk:As X.K (.ref f)=AC)(hb:Binds X.K fd ps ds)(hd:Vals dvs ds)
  (ha:PA X (e::es) t) (hdb:(x == ("__debug__":AR))=false:=by decide) (he:starEach (e::es) X.env=(AD,eval e X.env)::starEach es X.env:=by rfl) (hpl:(backTo pos (starEach es X.env)).any (·.1)=false:=by rfl) :
  PE X (.Call (.Name x p) (e::es) [] pos) (ycF CX X sp dvs t):=by
 intro pins s σ H Q I h
 refine B4 (zcX I hg hm ?_ hdb)
 refine DC (h₀:=X.base) I.ok.mod.kin hk (thn (ha pos pins s σ H _ I h) λus s1 ⟨vs,H1,I1,r,E,q,hx⟩=>⟨I1.kIn,?_⟩) he hpl
 exact zcQ F hr hb hd I1 r q λe s' c=>hx pins s1 e s' I1 c
theorem zih (F:yaJ X.prog X.w X.K X.mg X.base CX k f fd ps sp)(hr:yar k X.A)(hg:Gl X x)(hm:X.mg x=AA (.ref f))(hk:As X.K (.ref f)=AC)(hb:Binds X.K fd ps ds)(hd:Vals dvs ds)
  (hdb:(x == ("__debug__":AR))=false:=by decide):PE X (.Call (.Name x p) [] [] pos) (ycF CX X sp dvs ydr):=by
 intro pins s σ H Q I h
 obtain⟨E,q,hx⟩:=h
 refine B4 (zcX I hg hm ?_ hdb)
 exact FU I.kIn hk (zcQ F hr hb hd I .nil q λe s' c=>hx pins s e s' I c)
variable {B:AJ->Prop}{φ:Ph}{st:Store}{ces:Ces}{fi:Nat}
theorem zaX {vs:List PV}{xs:List V}{Q:VK}(rs:yt X.K S.cl B φ H st)(l:yg X.K S.cl B φ H vs xs)(h:Run S X σ B φ H (RV S X B) (S.call fi vs st) Q) :
  ∃E:XK,spI X.K S.cl S.call fi xs H Q E/\∀pins s e s',Inv X pins σ H s->CX1 X.prog X.w X.stack H s E e s'->X.xe e s':=by
 cases c:S.call fi vs st with
 |ok v st' =>
  rw[c]at h
  refine⟨λ_ _ _=>False,⟨B,φ,st,vs,rs,l,by rw[c];exact h⟩,λpins s e s' _ z=>?_⟩
  obtain⟨_,_,_,_,_,_,_,_,_,_,_,_,_,_,z⟩:=z
  exact z.elim
 |exc k st' =>
  rw[c]at h
  refine⟨λcls _ H'=>cls=.ref (S.cl k)/\∃φ',Step φ H φ' H'/\yt X.K S.cl B φ' H' st',⟨B,φ,st,vs,rs,l,by rw[c];exact λH' φ' s r=>⟨rfl,φ',s,r⟩⟩,λpins s e s' I z=>h e s' (.inl ⟨pins,H,s,φ,I,.rfl,z⟩)⟩
 |bad=>rw[c]at h;exact h.elim
theorem zlg (F:yaJ X.prog X.w X.K X.mg X.base (CX1 X.prog X.w) k f fd ps (spI X.K S.cl S.call fi))(hr:yar k X.A)(hg:Gl X x)(hm:X.mg x=AA (.ref f))(hk:As X.K (.ref f)=AC)(hb:Binds X.K fd ps [])
  (ha:PA X (e::es) (tAs S X ces)) (hdb:(x == ("__debug__":AR))=false:=by decide) (he:starEach (e::es) X.env=(AD,eval e X.env)::starEach es X.env:=by rfl) (hpl:(backTo pos (starEach es X.env)).any (·.1)=false:=by rfl) :
  PE X (.Call (.Name x p) (e::es) [] pos) (tE S X (.call fi ces)) :=
 (zjr F hr hg hm hk hb .nil ha hdb he hpl).imp λσ H Q ⟨B,φ,st,ρ,rs,re,h⟩=>by
  simp only[ev]at h
  refine tAs.bind rs re h λxs H1 vs st1 φ1 s1 rs1 re1 rv h1=>?_
  rw[Ah]
  exact zaX rs1 rv h1
theorem zjJ (F:yaJ X.prog X.w X.K X.mg X.base (CX1 X.prog X.w) k f fd ps (spI X.K S.cl S.call fi))(hr:yar k X.A)(hg:Gl X x)(hm:X.mg x=AA (.ref f))(hk:As X.K (.ref f)=AC)(hb:Binds X.K fd ps [])
  (hdb:(x == ("__debug__":AR))=false:=by decide):PE X (.Call (.Name x p) [] [] pos) (tE S X (.call fi .nil)) :=
 (zih F hr hg hm hk hb .nil hdb).imp λσ H Q ⟨B,φ,st,ρ,rs,re,h⟩=>by
  simp only[ev,evs,R.bind]at h
  exact zaX rs (by simp only[yg];rfl) h
end
section
variable {P:A4}{w:Af}{K:AG}{mg:AR->Option AH}{base:BB}{cl:Nat->AJ}{T:Nat->Option IC.Fn}{fi:Nat}{fn:IC.Fn}{x qual:AR}{stm:Bv}{f:AJ}{fd:BC}{N ps:List AR}{k:Nat}
theorem CX1.mono {outer:List B2}{H:Hp}{s:AK}{E E':XK}{e:AH}{s':AK}(h:CX1 P w outer H s E e s')(n:∀cls H',E cls AE H'->E' cls AE H'):CX1 P w outer H s E' e s':=by
 obtain⟨a,cls,a0,H',Bh,r1,r2,r3,r4,r5,r6,r7,r8,r9,r10⟩:=h
 exact⟨a,cls,a0,H',Bh,r1,r2,r3,r4,r5,r6,r7,r8,r9,n _ _ r10⟩
theorem yR.start {B:AJ->Prop}{φ:Ph}{H:Hp}{args:List PV}{vs:List V}(l:yg K cl B φ H args vs)(n:Nat)(hn:N.length - vs.length=n):yR K cl B φ H (args.map AA++Aw n AE) (L2.start N vs):=by
 have hl:=l.length
 unfold L2.start
 refine⟨by simp[hl,hn],λi v e=>?_⟩
 by_cases hi:i<args.length
 .rw[Ac (by simpa using hi),Bm]at e
  cases q:args[i]? with
  |none=>rw[q]at e;cases e
  |some v' =>
   rw[q]at e
   cases e
   obtain⟨y,hy,rv⟩:=l.get i q
   exact⟨y,by rw[Ac (by simp;omega),Bm,hy];rfl,rv⟩
 .rw[Ao (by simp;omega),E9]at e
  split at e <;> cases e
theorem leave {N:List AR}{scope:Bi}{cd:AH}{A:Ar}{outer:List B2}{s₀:AK}{H₀:Hp}{E:XK}{call:Nat->List PV->Store->R PV}{σ:St}{B:AJ->Prop}{φ:Ph}{H:Hp}{c:Nat}{st':Store}{e:AH}{s':AK}
  (h:ExcAt ⟨cl,call,AC⟩ (yaZ (CX1 P w) P w K mg base N qual scope f cd A outer s₀ H₀ E) σ B φ H c st' e s') (n:∀φ' H',Step φ H φ' H'->yt K cl B φ' H' st'->E (.ref (cl c)) AE H') :
  (yaZ (CX1 P w) P w K mg base N qual scope f cd A outer s₀ H₀ E).xe e s':=by
 rcases h with⟨pins,H1,s,φ1,I,s1,q⟩|⟨_,pins,H1,s,φ1,h',e0,vs,I,s1,rs,mk,rfl,rfl⟩|⟨_,pins,H1,s,I,q⟩
 .exact yd7 pins σ H1 s e s' I (q.mono λcls H' ⟨e1,φ',s2,r⟩=>by subst e1;exact n φ' H' (s1.trans s2) r)
 .exact zgR I mk (n φ1 H1 s1 rs)
 .exact yd8 I (q.mono λcls H' ⟨e1,φ',s2,r⟩=>by subst e1;exact n φ' H' s2 r)
theorem zjV (hT:T fi=AA fn):∀(args:List PV) (st:Store),yc T (k+1) fi args st ≠ .bad->args.length=fn.np:=λargs st hne=>by
 apply Classical.byContradiction
 intro c
 apply hne
 rw[yc,hT]
 exact if_neg c
theorem znu (hT:T fi=AA fn)(hnp:ps.length=fn.np){vs:List V}{H:Hp}{Q:VK}{E:XK}(h:spI K cl (yc T (k+1)) fi vs H Q E):vs.length=ps.length:=by
 obtain⟨B,φ,st,args,rs,l,h⟩:=h
 rw[hnp,<- l.length]
 refine zjV (k:=k) hT args st λz=>?_
 rw[z]at h
 exact h
theorem zlZ (hT:T fi=AA fn)(hns:N.length=fn.ns){scope:Bi}{cdv:AH}{A:Ar}{outer:List B2}{s:AK}{vs:List V}{H:Hp}{Q:VK}{E:XK}(h:spI K cl (yc T (k+1)) fi vs H Q E) :
  tSs ⟨cl,yc T k,AC⟩ (yaZ (CX1 P w) P w K mg base N qual scope f cdv A outer s H E) fn.body { nx:=λ_ H'=>Q .non H',rt:=Q } (L2.start N vs) H:=by
 obtain⟨B,φ,st,args,rs,l,h⟩:=h
 have hl:args.length=fn.np:=zjV (k:=k) hT args st λz=>by rw[z]at h;exact h
 have hlen:=l.length
 rw[yc,hT]at h
 dsimp only at h
 rw[if_pos hl]at h
 by_cases hp:fn.pure=AC
 .rw[if_pos hp]at h
  by_cases hz:noLocs args=AC
  .rw[if_pos hz]at h
   have rs0:yt K cl (λa=>B a \/ AA a∈φ) [] H []:=⟨rfl,λm n a e=>by simp at e,λn a e=>by simp at e,λn o e=>by simp at e,λa z=>by simp at z,λa z=>z.elim (rs.dom a) rs.there⟩
   have back:∀{φ':Ph} {H':Hp},Step [] H φ' H'->Step φ H φ H'/\yt K cl B φ H' st:=λ{φ' H'} s' =>
    have kk:∀b o,H b=AA o->H' b=AA o:=λb o e=>s'.keep b o (by simp) e
    ⟨⟨λb o _ e=>kk b o e,AT _,λ_ _ _ e=>e,λ_ h=>.inl h⟩,rs.same kk⟩
   refine⟨_,[],[],_,rs0,yR.start (yg.inn rs.nb args vs hz l) (fn.ns - fn.np) (by omega),?_⟩
   show yaH _ _ _ _ _ (exs (yc T k) (args.map AA++Aw (fn.ns - fn.np) AE) [] fn.body) _
   cases e:exs (yc T k) (args.map AA++Aw (fn.ns - fn.np) AE) [] fn.body with
   |nx ρ' st' =>
    rw[e]at h
    intro σ' H' φ' s' rs' re'
    obtain⟨s2,r2⟩:=back s'
    exact h .non H' φ s2 r2 (by simp only[yd])
   |rt v st' =>
    rw[e]at h
    dsimp only at h
    by_cases hv:noLoc v=AC
    .rw[if_pos hv]at h
     intro y H' φ' s' rs' rv
     obtain⟨s2,r2⟩:=back s'
     exact h y H' φ s2 r2 (yd.out v y hv rv)
    .rw[if_neg hv]at h
     exact h.elim
   |exc c ρ' st' =>
    rw[e]at h
    intro σ' φ1 H1 ev s' s1 _ ex
    refine leave ex λφ2 H2 s2 _=>?_
    obtain⟨s3,r3⟩:=back (s1.trans s2)
    exact h H2 φ s3 r3
   |bk ρ' st'=>rw[e]at h;exact h.elim
   |ct ρ' st'=>rw[e]at h;exact h.elim
   |bad=>rw[e]at h;exact h.elim
  .rw[if_neg hz]at h
   exact h.elim
 .rw[if_neg hp]at h
  refine⟨B,φ,st,_,rs,yR.start l (fn.ns - fn.np) (by omega),?_⟩
  show yaH _ _ _ _ _ (exs (yc T k) (args.map AA++Aw (fn.ns - fn.np) AE) st fn.body) _
  cases e:exs (yc T k) (args.map AA++Aw (fn.ns - fn.np) AE) st fn.body with
  |nx ρ' st' =>
   rw[e]at h
   intro σ' H' φ' s' rs' re'
   exact h .non H' φ' s' rs' (by simp only[yd])
  |rt v st' =>
   rw[e]at h
   intro y H' φ' s' rs' rv
   exact h y H' φ' s' rs' rv
  |exc c ρ' st' =>
   rw[e]at h
   intro σ' φ1 H1 ev s' s1 _ ex
   exact leave ex λφ2 H2 s2 r2=>h H2 φ2 (s1.trans s2) r2
  |bk ρ' st'=>rw[e]at h;exact h.elim
  |ct ρ' st'=>rw[e]at h;exact h.elim
  |bad=>rw[e]at h;exact h.elim
end
noncomputable def tyN:Ty->String
 | .int=>"int" | .bool=>"bool" | .str=>"str" | .tuple=>"tuple" | .list=>"list" | _=>""
structure yd5 (K:AG)(t:Ty):Prop where
 n:B5 K (.type "NoneType") (.type (tyN t))=AA (ybA .non t)
 b:B5 K (.type "bool") (.type (tyN t))=AA (ybA (.bl AC) t)
 i:B5 K (.type "int") (.type (tyN t))=AA (ybA (.int 0) t)
 s:B5 K (.type "str") (.type (tyN t))=AA (ybA (.str GA) t)
 p:B5 K (.type "tuple") (.type (tyN t))=AA (ybA (.tp AC []) t)
 l:B5 K (.type "list") (.type (tyN t))=AA (ybA (.lst []) t)
section
variable {S:Se}{X:Cx}{σ:St}{B:AJ->Prop}{φ:Ph}{H:Hp}{st:Store}{p pos p2 px:CT}{a b c d o:AV}{ca cb cc:Ce}{t:Ty}
def yg2 (S:Se)(X:Cx)(t:Ty):List V->Hp->VK->Prop:=λxs H Q=>∃B φ st v x z,xs=[x,.ty (tyN t)]/\yt X.K S.cl B φ H st/\yd X.K S.cl B φ H v x/\ya0 v [t]=AA z/\ydb t=AC /\
 ∀z' H' φ',Step φ H φ' H'->yt X.K S.cl B φ' H' st->yd X.K S.cl B φ' H' z z'->Q z' H'
theorem znx (Z:yd5 X.K t):yao X (.builtin "isinstance") (yg2 S X t):=by
 rintro pins s σ H xs us Q I r ⟨B,φ,st,v,x,z,rfl,rs,rv,e,hb,q⟩
 obtain⟨u,c',rfl,ru,rc⟩:=vals2 r
 cases (show c'=F6 (tyN t)from rc)
 have fin:∀(k:Bool) (tk:Nat),z=.bl k->EP X pins σ Q (.bool k) { s with toks:=tk }:=λk tk ez=>⟨.bl k,H,I.tok tk,rfl,q _ H φ .rfl rs (by subst ez;simp only[yd])⟩
 cases v with
 |non =>
  simp only[yd]at rv;subst rv
  cases (show u=CK from ru)
  simp only[ya0,hb,if_true]at e
  exact C8 PySem.W.kitx_none I.kIn C4 Z.n (λz=>nomatch z) λtk=>fin _ tk (by cases e;cases t <;> rfl)
 |bl k =>
  simp only[yd]at rv;subst rv
  cases (show u=Ds k from ru)
  simp only[ya0,hb,if_true]at e
  exact C8 PySem.W.kitx_bool I.kIn C4 Z.b (λz=>nomatch z) λtk=>fin _ tk (by cases e;cases t <;> rfl)
 |int k =>
  simp only[yd]at rv;subst rv
  obtain⟨tk,rfl⟩:=ru
  simp only[ya0,hb,if_true]at e
  exact C8 PySem.W.kitx_int I.kIn C4 Z.i (λz=>nomatch z) λtk=>fin _ tk (by cases e;cases t <;> rfl)
 |str k =>
  simp only[yd]at rv;subst rv
  obtain⟨tk,rfl⟩:=ru
  simp only[ya0,hb,if_true]at e
  exact C8 PySem.W.kitx_str I.kIn C4 Z.s (λz=>nomatch z) λtk=>fin _ tk (by cases e;cases t <;> rfl)
 |tp k vs =>
  simp only[yd]at rv
  obtain⟨y,ys,rfl,rt,l⟩:=rv
  cases (show u=Ae y from ru)
  simp only[ya0,hb,if_true]at e
  obtain⟨its,_,⟨o,g,c,_,_⟩,_⟩:=I.tuple rt.sq
  exact C8 PySem.W.kitx_tuple I.kIn ⟨o,g,c⟩ Z.p (λz=>nomatch z) λtk=>fin _ tk (by cases e;cases t <;> rfl)
 |lst vs =>
  simp only[yd]at rv
  obtain⟨y,ys,rfl,rt,l⟩:=rv
  cases (show u=Ae y from ru)
  simp only[ya0,hb,if_true]at e
  obtain⟨_,_,n,_,h1⟩:=(show yZ X.prog X.w H s.heap y (.lst ys)from I.hok y _ rt.1)
  exact C8 PySem.W.kitx_list I.kIn ⟨_,h1,rfl⟩ Z.l (λz=>nomatch z) λtk=>fin _ tk (by cases e;cases t <;> rfl)
 |loc n=>cases e
 |scr n=>cases e
 |exn n=>simp only[ya0,Bc,List.all_nil,hb,D4,if_true]at e;cases e
theorem zml {T:AR}(Z:yd5 X.K t)(ht:ydb t=AC)(hg:Gl X "isinstance")(hm:X.mg "isinstance"=AE)(hgT:Gl X T)(hmT:X.mg T=AE)(hT:bootBuiltins T=AA (.type (tyN t)))(ha:PE X a (tE S X ca))(hnT:T ≠ "__name__":=by decide)(hdT:(T == ("__debug__":AR))=false:=by decide)
  (he:starEach [a,.Name T p2] X.env=(AD,eval a X.env)::starEach [.Name T p2] X.env:=by rfl) (hpl:(backTo pos (starEach [.Name T p2] X.env)).any (·.1)=false:=by rfl) :
  PE X (.Call (.Name "isinstance" p) [a,.Name T p2] [] pos) (tE S X (.isi ca [t])) :=
 (zfJ (znx Z) hg hm GX (zbr ha (zbr (zl0 (v:=.ty (tyN t)) hgT hmT hT rfl hnT hdT) ybr) he) (by decide) (by decide) he hpl).imp λσ H Q ⟨B,φ,st,ρ,rs,re,h⟩=>by
  simp only[ev]at h
  refine tE.bind rs re h λx H1 v st1 φ1 s1 rs1 re1 rv h1=>?_
  obtain⟨z,e,q⟩:=zag h1 rs1
  exact⟨B,φ1,st1,v,x,z,rfl,rs1,rv,e,ht,q⟩
theorem zjb {st4:Store}{x y v:PV}(h:ybC st x y v=AA st4):∃n xs k j,x=.loc n/\st[n]?=AA (.lst xs)/\y=.int k/\ixI xs.length k=AA j/\st4=st.set n (.lst (xs.set j v)):=by
 cases x with
 |loc n =>
  simp only[ybC]at h
  cases q:st[n]? with
  |none=>rw[q]at h;cases h
  |some o =>
   rw[q]at h
   cases o with
   |lst xs =>
    cases y with
    |int k =>
     dsimp only at h
     cases q2:ixI xs.length k with
     |none=>rw[q2]at h;cases h
     |some j=>rw[q2]at h;exact⟨n,xs,k,j,rfl,q,rfl,q2,(AX h).symm⟩
    |_=>cases h
   |_=>cases h
 |_=>cases h
theorem yg.put {K:AG}{cl:Nat->AJ}:∀{vs:List PV} {xs:List V} (j:Nat) {v:PV} {x:V},yg K cl B φ H vs xs->yd K cl B φ H v x->yg K cl B φ H (vs.set j v) (xs.set j x)
 | [],xs,j,v,x,l,r=>by simp only[yg]at l;subst l;simp[yg]
 |w::vs,xs,0,v,x,l,r=>by
  simp only[yg]at l
  obtain⟨y,ys,rfl,_,l⟩:=l
  simp only[BE,yg]
  exact⟨x,ys,rfl,r,l⟩
 |w::vs,xs,j+1,v,x,l,r=>by
  simp only[yg]at l
  obtain⟨y,ys,rfl,ry,l⟩:=l
  simp only[BF,yg]
  exact⟨y,ys.set j x,rfl,ry,yg.put j l r⟩
theorem znJ (he:PE X a (tE S X ca))(ho:PE X b (tE S X cb))(hi:PE X c (tE S X cc))(hs:swapsWithSole [.Subscript b c px] a pos.line X.env=pure false:=by rfl)(hw:swappedStores [.Subscript b c px] a X.env=pure none:=by rfl)
  (hg:PG X (.Subscript b c px) (yfj (tE S X cb) (tE S X cc) ydt):=by exact zjR ‹_› ‹_› zfw):PS X (.Assign [.Subscript b c px] a pos) (tS S X (.six cb cc ca)) :=
 (zj6 he hg hs hw).imp λD σ H ⟨B,φ,st,ρ,rs,re,h⟩=>by
  simp only[ex]at h
  refine tE.fl rs re h λv' H1 v st1 φ1 s1 rs1 re1 rv h1=>tE.fl rs1 re1 h1 λx' H2 x st2 φ2 s2 rs2 re2 rx h2=>tE.fl rs2 re2 h2 λy' H3 y st3 φ3 s3 rs3 re3 ry h3=>?_
  cases e:ybC st3 x y v with
  |none=>rw[e]at h3;exact h3.elim
  |some st4 =>
   rw[e]at h3
   obtain⟨n,xs,k,j,rfl,hn,rfl,hj,rfl⟩:=zjb e
   simp only[yd]at ry
   subst ry
   obtain⟨l,ys,rfl,hp,hx,lr⟩:=rs3.list (rx.step s3) hn
   refine⟨l,ys,k,j,rfl,rfl,hx,by rw[<- lr.length];exact hj,?_⟩
   have s4:Step φ3 H3 φ3 (L2.upd H3 l (.lst (ys.set j v'))):=.put (A1 hp)
   exact h3 σ _ φ3 s4 (rs3.put hp ⟨_,zp,(lr.put j ((rv.step s2).step s3)).step s4⟩) (re3.step s4)
end
section
variable {S:Se}{X:Cx}{σ:St}{B:AJ->Prop}{φ:Ph}{H:Hp}{st:Store}{p pos p2 px py pt pt2 apos:CT}{a b c d o:AV}{ca cb cc:Ce}{kt k2:Nat}
theorem zmx {i j:Nat}{x y:AR}(hc:X.calm=AC)(hN:X.N.Nodup)(hi:X.N[i]?=AA x)(hj:X.N[j]?=AA y)(hij:i≠j)(h:PS X (.Assign [.Tuple [.Name x px,.Name y py] kt pt] (.Tuple [a,b] k2 pt2) pos) (yfn i j (tAs S X (.cons ca (.cons cb .nil))))) :
  PS X (.Assign [.Tuple [.Name x px,.Name y py] kt pt] (.Tuple [a,b] k2 pt2) pos) (tS S X (.asg (.t [i,j]) (.tup (.cons ca (.cons cb .nil))))) :=
 h.imp λD σ H ⟨B,φ,st,ρ,rs,re,h⟩=>by
  simp only[ex,ev]at h
  refine⟨B,φ,st,ρ,rs,re,?_⟩
  cases e:evs S.call ρ st (.cons ca (.cons cb .nil))with
  |bad=>rw[e]at h;exact h
  |exc k st'=>rw[e]at h;exact λe s' x=>h σ φ H e s' .rfl re x
  |ok vs st' =>
   rw[e]at h
   intro xs H' φ' s rs' l
   simp only[R.bind]at h
   split at h
   .rcases vs with _|⟨v,_|⟨w,_|⟨u,t⟩⟩⟩
    .exact h.elim
    .exact h.elim
    .obtain⟨v',w',rfl,rv,rw⟩:=l.two
     refine⟨v',w',rfl,?_⟩
     exact h _ H' φ' s rs' (((re.step s).set i rv).set j rw)
    .exact h.elim
   .exact h.elim
theorem zkG {bo:BOp}{v w z:PV}(h:ybY bo v w=AA z):∃i j,v=.int i/\w=.int j/\IC.binI bo i j=AA z:=by
 unfold ybY at h
 split at h
 .exact⟨_,_,rfl,rfl,h⟩
 .cases h
theorem zlD:PIp X .Add (rT2 S X (ybY .add)):=by
 rintro pins s σ H x y v u Q I rx ry ⟨B,φ,st,a,b,z,rs,ra,rb,e,q⟩
 obtain⟨i,j,rfl,rfl,e⟩:=zkG e
 cases e
 simp only[yd]at ra rb
 subst ra rb
 exact zoo pins s σ H _ _ v u Q I rx ry ⟨i,j,rfl,rfl,q _ H φ .rfl rs (by simp only[yd])⟩
end
end L2
namespace WK
open PySem L2 IC
def GC (K:AG)(mg:AR->Option AH)(cl:Nat->AJ)(x:AR)(v:PV):Prop:=∃y:AJ,mg x=AA (.ref y)/\∀B φ H,yd K cl B φ H v (.ref y)
theorem zoT {S:Se}{X:Cx}{x:AR}{v:PV}{pos:CT}(hg:Gl X x)(h:GC X.K X.mg S.cl x v)(hd:(x == ("__debug__":AR))=false:=by decide):PE X (.Name x pos) (tE S X (.cst v)):=by
 obtain⟨y,hm,hk⟩:=h
 exact zk4 hg hm hk hd
theorem znR:bootBuiltins "int"=AA (.type "int"):=by decide +kernel
theorem zlV:bootBuiltins "bool"=AA (.type "bool"):=by decide +kernel
theorem zm0:bootBuiltins "str"=AA (.type "str"):=by decide +kernel
theorem zfE:bootBuiltins "tuple"=AA (.type "tuple"):=by decide +kernel
theorem znd:bootBuiltins "len"=AA (.builtin "len"):=by decide +kernel
theorem zmn:bootBuiltins "max"=AA (.builtin "max"):=by decide +kernel
theorem zom:bootBuiltins "all"=AA (.builtin "all"):=by decide +kernel
theorem zmo:bootBuiltins "sum"=AA (.builtin "sum"):=by decide +kernel
theorem zlh {k:Nat}{A:Ar}(r:yar k A):A.units+1<cLine:=by have:=r.units;omega
end WK
namespace L2
open PySem PySem.Spec PyProof.Rows IC
noncomputable def shC:Sum Ce Int->Option Int
 | .inl _=>AE
 | .inr i=>AA i
noncomputable def yaQ:List (Option Int)->List V->List V
 | [],_=>[]
 |some i::r,zs=>.int i::yaQ r zs
 |none::r,z::zs=>z::yaQ r zs
 |none::_,[]=>[]
noncomputable def pick:List (Option Int)->List V->List V
 |none::r,v::vs=>v::pick r vs
 |some _::r,_::vs=>pick r vs
 |_,_=>[]
noncomputable def nKw:List (Option Int)->Nat
 | []=>0
 |none::r=>nKw r+1
 |some _::r=>nKw r
noncomputable def yc3:Ces->Nat
 | .nil=>0
 | .cons _ r=>yc3 r+1
def gK (np:Nat)(sh:List (Option Int))(vs zs:List V):List V:=if vs.length=np/\zs.length=nKw sh then vs++yaQ sh zs else []
theorem zgI {call:Nat->List PV->Store->R PV}{ρ:IC.Env}:∀(a:Ces) {st st':Store} {vs:List PV},evs call ρ st a=.ok vs st'->vs.length=yc3 a
 | .nil,st,st',vs,h=>by simp only[evs]at h;cases h;rfl
 | .cons e r,st,st',vs,h=>by
  simp only[evs]at h
  cases q:ev call ρ st e with
  |ok v s1 =>
   rw[q]at h
   simp only[R.bind]at h
   cases q2:evs call ρ s1 r with
   |ok ws s2 =>
    rw[q2]at h
    cases h
    simp[yc3,zgI r q2]
   |exc c s=>rw[q2]at h;cases h
   |bad=>rw[q2]at h;cases h
  |exc c s=>rw[q]at h;cases h
  |bad=>rw[q]at h;cases h
theorem zgJ {call:Nat->List PV->Store->R PV}{ρ:IC.Env}:∀(a b:Ces) (st:Store),evs call ρ st (yaf a b)=(evs call ρ st a).bind λvs st1=>(evs call ρ st1 b).bind λws st2=>.ok (vs++ws) st2
 | .nil,b,st=>by
  simp only[yaf,evs,R.bind,Be]
  cases evs call ρ st b <;> rfl
 | .cons e r,b,st=>by
  simp only[yaf,evs]
  cases ev call ρ st e with
  |ok v st1 =>
   simp only[R.bind]
   rw[zgJ r b st1]
   cases evs call ρ st1 r with
   |ok vs st2 =>
    simp only[R.bind]
    cases evs call ρ st2 b <;> rfl
   |exc c s=>rfl
   |bad=>rfl
  |exc c s=>rfl
  |bad=>rfl
section
variable {S:Se}{X:Cx}{k:Nat}{f:AJ}{fd:BC}{ps ks:List AR}{sp:Sp}{x:AR}{p pos kpos:CT}{e:AV}{es:List AV}{kws:List CW}{nm:Option AR}{t tk:TA}{CX:CXT}{ca:Ce}{ces:Ces}{items:List (Sum Ce Int)}{g:List AH->List AH->List AH}{gV:List V->List V->List V}
theorem zb3 {K:AG}{cl:Nat->AJ}{B:AJ->Prop}{φ:Ph}{H:Hp}{call:Nat->List PV->Store->R PV}{ρ:IC.Env}:∀(items:List (Sum Ce Int)) {st st':Store} {vs:List PV} {xs:List V},evs call ρ st (yr items)=.ok vs st'->yg K cl B φ H vs xs->yaQ (items.map shC) (pick (items.map shC) xs)=xs/\(pick (items.map shC) xs).length=nKw (items.map shC)
 | [],st,st',vs,xs,h,l=>by
  simp only[yr,evs]at h
  cases h
  simp only[yg]at l
  subst l
  exact⟨rfl,rfl⟩
 | .inl c::r,st,st',vs,xs,h,l=>by
  simp only[yr,evs]at h
  obtain⟨v,s1,e1,h⟩:=zaT h
  obtain⟨ws,s2,e2,h⟩:=zaT h
  cases h
  simp only[yg]at l
  obtain⟨y,ys,rfl,_,l⟩:=l
  obtain⟨q1,q2⟩:=zb3 r e2 l
  simp only[AM,shC,pick,yaQ,nKw,A0,q1,q2]
  exact⟨trivial,trivial⟩
 | .inr i::r,st,st',vs,xs,h,l=>by
  simp only[yr,evs,ev]at h
  obtain⟨v,s1,e1,h⟩:=zaT h
  obtain⟨ws,s2,e2,h⟩:=zaT h
  cases h
  cases e1
  simp only[yg,yd]at l
  obtain⟨y,ys,rfl,rfl,l⟩:=l
  obtain⟨q1,q2⟩:=zb3 r e2 l
  simp only[AM,shC,pick,yaQ,nKw,q1,q2]
  exact⟨trivial,trivial⟩
def tK (S:Se)(X:Cx)(items:List (Sum Ce Int)):TA:=λσ H Q=>∃B φ st ρ,yt X.K S.cl B φ H st/\yR X.K S.cl B φ H ρ σ/\Run S X σ B φ H (RL S X B) (evs S.call ρ st (yr items)) λxs H'=>Q (pick (items.map shC) xs) H'
theorem PK.imp {t t':TA}(h:PK X kws t')(k:∀σ H Q,t σ H Q->t' σ H Q):PK X kws t:=λpos pins s σ H Q I q=>h pos pins s σ H Q I (k σ H Q q)
theorem znN:PK X [] (tK S X []):=ydd.imp λσ H Q ⟨B,φ,st,ρ,rs,re,h⟩=>by
 simp only[yr,evs]at h
 exact h.ok rs (x:=[]) (by simp only[yg])
theorem zpd {i:Int}(h:PK X kws (tK S X items)):PK X kws (tK S X (.inr i::items)):=h.imp λσ H Q ⟨B,φ,st,ρ,rs,re,h⟩=>by
 simp only[yr,evs,ev,R.bind]at h
 refine⟨B,φ,st,ρ,rs,re,?_⟩
 cases e:evs S.call ρ st (yr items)with
 |ok vs st' =>
  rw[e]at h
  intro xs H' φ' s rs' l
  exact h (.int i::xs) H' φ' s rs' (by simp only[yg,yd];exact⟨_,_,rfl,rfl,l⟩)
 |exc c s=>rw[e]at h;exact h
 |bad=>rw[e]at h;exact h
theorem zoU (ha:PE X e (tE S X ca))(h:PK X kws (tK S X items)):PK X (⟨nm,e,kpos⟩ :: kws) (tK S X (.inl ca::items)):=(zlc ha h).imp λσ H Q ⟨B,φ,st,ρ,rs,re,h⟩=>by
 simp only[yr,evs]at h
 refine tE.bind rs re h λx H1 v st1 φ1 s1 rs1 re1 rv h1=>⟨B,φ1,st1,ρ,rs1,re1,?_⟩
 refine(Run.bind (Rel:=RL S X B) h1).mono λxs H2 ⟨ws,st2,φ2,s2,rs2,l,h2⟩=>?_
 exact h2.ok rs2 (x:=x::xs) (by simp only[yg];exact⟨x,xs,rfl,rv.step s2,l⟩)
theorem ziW {fi:Nat}(F:yaJ X.prog X.w X.K X.mg X.base (CX1 X.prog X.w) k f fd ps (spI X.K S.cl S.call fi))(hr:yar k X.A)(hg:Gl X x)(hm:X.mg x=AA (.ref f))(hk:As X.K (.ref f)=AC){np:Nat}(hb:∃g,ybH X.K fd ps ks g (gK np (items.map shC)))(hnp:yc3 ces=np)
  (ha:PA X (e::es) (tAs S X ces)) (hkw:PK X kws (tK S X items)) (hall:(backToKw pos (keywordEach kws X.env)).all (·.1.isSome)=true:=by rfl) (hks:(backToKw pos (keywordEach kws X.env)).filterMap (·.1)=ks:=by rfl)
  (hdb:(x == ("__debug__":AR))=false:=by decide) (he:starEach (e::es) X.env=(AD,eval e X.env)::starEach es X.env:=by rfl)
  (hpl:((backTo pos (starEach (e::es) X.env)).any (·.1) || (backToKw pos (keywordEach kws X.env)).any (·.1.isNone))=false:=by rfl) :
  PE X (.Call (.Name x p) (e::es) kws pos) (tE S X (.call fi (yaf ces (yr items)))):=by
 intro pins s σ H Q I ⟨B,φ,st,ρ,rs,re,h⟩
 simp only[ev]at h
 rw[zgJ,R.bind_assoc]at h
 refine B4 (zcX I hg hm ?_ hdb)
 have h0:tAs S X ces σ H λvs H1=>tK S X items σ H1 λzs H2=>∃E:XK,spI X.K S.cl S.call fi (gK np (items.map shC) vs zs) H2 Q E/\∀pins s e s',Inv X pins σ H2 s->CX1 X.prog X.w X.stack H2 s E e s'->X.xe e s':=by
  have hlen:∀vs st',evs S.call ρ st ces=.ok vs st'->vs.length=np:=λvs st' q=>(zgI ces q).trans hnp
  refine⟨B,φ,st,ρ,rs,re,?_⟩
  cases q:evs S.call ρ st ces with
  |exc c s=>rw[q]at h;exact h
  |bad=>rw[q]at h;exact h
  |ok vs st1 =>
  rw[q]at h
  intro xs H1 φ1 s1 rs1 rv
  have h1:=Run.on s1 h
  have re1:=re.step s1
  have hv:=hlen vs st1 q
  refine⟨B,φ1,st1,ρ,rs1,re1,?_⟩
  have h1:Run S X σ B φ1 H1 (RV S X B) (((evs S.call ρ st1 (yr items)).bind λa st=>(R.ok (vs++a) st:R (List PV))).bind λvs st1=>S.call fi vs st1) Q:=h1
  rw[R.bind_assoc]at h1
  cases e:evs S.call ρ st1 (yr items)with
  |ok ws st2 =>
   rw[e]at h1
   intro ys H2 φ2 s2 rs2 l2
   obtain⟨m1,m2⟩:=zb3 items e l2
   have eg:gK np (items.map shC) xs (pick (items.map shC) ys)=xs++ys:=by
    unfold gK
    rw[if_pos ⟨by rw[<- rv.length];exact hv,m2⟩,m1]
   show ∃E:XK,spI X.K S.cl S.call fi (gK np (items.map shC) xs (pick (items.map shC) ys)) H2 Q E/\_
   rw[eg]
   exact zaX rs2 ((rv.step s2).append l2) (Run.on s2 h1)
  |exc c s=>rw[e]at h1;exact h1
  |bad=>rw[e]at h1;exact h1
 refine PySem.W.callWith_KW (h₀:=X.base) I.ok.mod.kin hk hall (thn (ha pos pins s σ H _ I h0) λus s1 ⟨vs,H1,I1,r,q⟩=>?_) hpl he
 refine thn (hkw pos pins s1 σ H1 _ I1 q) λws s2 ⟨zs,H2,I2,rz,E,q2,hx⟩=>⟨I2.kIn,?_⟩
 rw[hks]
 obtain⟨g,hb⟩:=hb
 have r2:=hb.rel r rz
 have hl:(g us ws).length=ps.length:=by rw[<- r2.length];exact F.len _ _ _ _ q2
 refine G4 (Dm (F.run X.A X.stack s2 H2 ⟨us,ks.zip ws⟩ (g us ws) (gK np (items.map shC) vs zs) Q E hr I2.env0 (hb.to s2 us ws I2.kIn hl) r2 q2) λr s' hq=>?_)
 cases r with
 |error e=>exact hx pins s2 e s' I2 hq
 |ok fl =>
  cases fl with
  |ret u=>exact I2.after hq
  |next=>exact Bf hq
  |brk=>exact Bf hq
  |cont=>exact Bf hq
end
noncomputable def ybb:List (Option Int)->List AH->List AH->List AH
 | [],_,_=>[]
 |some _::r,ws,d::ds=>d::ybb r ws ds
 |none::r,w::ws,_::ds=>w::ybb r ws ds
 |_,_,_=>[]
theorem zcC:∀(sh:List (Option Int)) (ds:List Int) {zs:List V} {ws us:List AH},Vals (ds.map V.int) us->Vals zs ws->sh.length=ds.length->(∀p∈sh.zip ds,∀i,p.1=AA i->i=p.2)->Vals (yaQ sh zs) (ybb sh ws us)
 | [],ds,zs,ws,us,r,q,hl,h=>.nil
 |some i::r,[],zs,ws,us,rr,q,hl,h=>by simp at hl
 |some i::r,d::ds,zs,ws,_,.cons a b,q,hl,h=>by
  have:i=d:=h (AA i,d) (by simp) i rfl
  subst this
  exact .cons a (zcC r ds b q (by simpa using hl) λp hp=>h p (by simp[hp]))
 |none::r,[],zs,ws,us,rr,q,hl,h=>by simp at hl
 |none::r,d::ds,_,_,_,.cons a b,.nil,hl,h=>.nil
 |none::r,d::ds,_,_,_,.cons a b,.cons c q,hl,h=>.cons c (zcC r ds b q (by simpa using hl) λp hp=>h p (by simp[hp]))
structure FnD (K:AG)(mg:AR->Option AH)(x:AR)(st:Bv)(ps:List AR)(ds:List Int)(f:AJ)(fd:BC):Prop where
 ex:∃(oc:AH) (od:Option AJ) (dT:AJ) (kV doc pm:AH) (an:Option AJ) (cdv ct:AH) (osl:Array (Option AH)) (o:CB) (its:Array AH) (n:Nat),
  fd=B7 x x (yad st) (yac st) (yG st) (.ref dT) kV doc pm an cdv ct/\K.lookup f=AA ⟨oc,od,.func fd,osl⟩/\CL K cdv x=AC/\K.lookup dT=AA o/\o.data=.seq its n/\Vals (ds.map V.int) its.toList
 kp:As K (.ref f)=AC
 m:mg x=AA (.ref f)
theorem kbD {K:AG}{mg:AR->Option AH}{x:AR}{st:Bv}{ps ks:List AR}{ds:List Int}{f:AJ}{fd:BC}{np off:Nat}{sh:List (Option Int)}(D:FnD K mg x st ps ds f fd)(hnk:ks.length=nKw sh)(hsh:sh.length=(ds.drop off).length)(hd':((sh.zip (ds.drop off)).all λp=>p.1.all λi=>decide (i=p.2))=AC)
  (h:∀(dT:AJ) (kV doc pm:AH) (an:Option AJ) (cdv ct:AH) (us ws its:List AH),us.length=np->ws.length=ks.length->its.length=ds.length ->
   ∃k,bindArgs (B7 x x (yad st) (yac st) (yG st) (.ref dT) kV doc pm an cdv ct) ⟨us,ks.zip ws⟩=seqItems? (.ref dT) >>= k/\k (AA its.toArray)=pure (ps.zip (us++ybb sh ws (its.drop off)))) (hps:0<ps.length) :
  ∃g,ybH K fd ps ks g (gK np sh):=by
 have hd:∀p∈sh.zip (ds.drop off),∀i,p.1=AA i->i=p.2:=λp hp i hi=>by
  have:=BX.mp hd' p hp
  rw[hi]at this
  simpa using this
 obtain⟨oc,od,dT,kV,doc,pm,an,cdv,ct,osl,o,its,n,rfl,lk,hcd,lo,hs,r⟩:=D.ex
 refine⟨λus ws=>if us.length=np/\ws.length=nKw sh then us++ybb sh ws (its.toList.drop off)else [],⟨λs us ws KX hl=>?_,λ{vs us zs ws} rv rz=>?_⟩⟩
 .by_cases c:us.length=np/\ws.length=nKw sh
  .rw[if_pos c]at hl ⊢
   obtain⟨k,h1,h2⟩:=h dT kV doc pm an cdv ct us ws its.toList c.1 (by rw[hnk];exact c.2) (by rw[<- r.length,Ap])
   exact BindsTo.of_defaults rfl (KX _ _ lo) hs h1 (by simpa using h2)
  .rw[if_neg c]at hl
   simp at hl
   omega
 .unfold gK
  have e1:=rv.length
  have e2:=rz.length
  by_cases c:us.length=np/\ws.length=nKw sh
  .rw[if_pos c,if_pos (by omega)]
   refine rv.append (zcC sh (ds.drop off) ?_ rz hsh hd)
   rw[List.map_drop]
   exact r.drop off
  .rw[if_neg c,if_neg (by omega)]
   exact .nil
section
variable {P:A4}{w:Af}{K:AG}{mg:AR->Option AH}{base:BB}{cl:Nat->AJ}{T:Nat->Option IC.Fn}{fi:Nat}{fn:IC.Fn}{x:AR}{stm:Bv}{f:AJ}{fd:BC}{N ps:List AR}{ds:List Int}{k:Nat}
end
theorem zd3 (a b:Key):peq (yaI a) (yaI b)=decide (a=b):=by
 rw[De]
 cases a <;> cases b <;> simp[yaI,peq]
theorem zfG:∀(a b:List Key),ybu (a.map yaI) (b.map yaI)=decide (a=b)
 | [],[]=>by simp[ybu]
 | [],y::ys=>by simp[ybu]
 |x::xs,[]=>by simp[ybu]
 |x::xs,y::ys=>by
  simp only[AM,ybu,zd3,zfG xs ys]
  rw[De]
  simp
theorem zdF (a b:List Key):peq (.tup (a.map yaI)) (.tup (b.map yaI))=decide (a=b):=by
 simp only[peq,zfG]
theorem zh6 {k:PV}(h:ybQ k=AC):∃q,k=yaI q:=by
 cases k with
 |int i=>exact⟨.inl i,rfl⟩
 |str i=>exact⟨.inr i,rfl⟩
 |_=>cases h
theorem zg1:∀{ks:List PV},ks.all ybQ=AC->∃qs:List Key,ks=qs.map yaI
 | [],_=>⟨[],rfl⟩
 |k::ks,h=>by
  rw[Bc,AL]at h
  obtain⟨q,rfl⟩:=zh6 h.1
  obtain⟨qs,rfl⟩:=zg1 h.2
  exact⟨q::qs,rfl⟩
section
variable {S:Se}{X:Cx}{K:AG}{cl:Nat->AJ}{σ:St}{B:AJ->Prop}{φ:Ph}{H:Hp}{st:Store}{p pos p2 px apos:CT}{a b c d o:AV}{ca cb cc:Ce}
theorem ybj {q:Key}{x:V}:yd K cl B φ H (yaI q) x ↔ x=kV q:=by
 cases q <;> simp[yaI,yd,kV]
theorem zeV:∀{qs:List Key} {xs:List V},yg K cl B φ H (qs.map yaI) xs->xs=qs.map kV
 | [],xs,l=>by simpa only[A6,yg] using l
 |q::qs,xs,l=>by
  simp only[AM,yg]at l
  obtain⟨y,ys,rfl,r,l⟩:=l
  rw[ybj.mp r,zeV l]
  rfl
theorem DK.look {q:Key}:∀{kvs:List (PV×PV)} {ks:List (Key×V)},DK K cl B φ H kvs ks->∀{v:PV} {x:V},yd K cl B φ H v x->yd K cl B φ H ((IC.look (yaI q) kvs).getD v) ((ybL ks q).getD x)
 | [],ks,h,v,x,r=>by cases h;exact r
 | (k,w)::t,ks,h,v,x,r=>by
  obtain⟨q',y,s,rfl,rfl,rv,l⟩:=h
  simp only[IC.look,zd3]
  by_cases e:q'=q
  .rw[zbR (p:=(q',y)) e]
   simp[e,rv]
  .rw[zbZ (p:=(q',y)) e]
   simp only[decide_eq_true_eq,e,if_false]
   exact DK.look l r
theorem DT.look {q:List Key}:∀{kvs:List (PV×PV)} {ks:List (List Key×V)},DT K cl B φ H kvs ks->∀{v:PV} {x:V},yd K cl B φ H v x->yd K cl B φ H ((IC.look (.tup (q.map yaI)) kvs).getD v) ((ybL ks q).getD x)
 | [],ks,h,v,x,r=>by cases h;exact r
 | (k,w)::t,ks,h,v,x,r=>by
  obtain⟨q',y,s,rfl,rfl,rv,l⟩:=h
  simp only[IC.look,zdF]
  by_cases e:q'=q
  .rw[zbR (p:=(q',y)) e]
   simp[e,rv]
  .rw[zbZ (p:=(q',y)) e]
   simp only[decide_eq_true_eq,e,if_false]
   exact DT.look l r
theorem DK.any {q:Key}:∀{kvs:List (PV×PV)} {ks:List (Key×V)},DK K cl B φ H kvs ks->(kvs.any λp=>peq p.1 (yaI q))=ks.any λkv=>decide (kv.1=q)
 | [],ks,h=>by cases h;rfl
 | (k,w)::t,ks,h=>by
  obtain⟨q',y,s,rfl,rfl,rv,l⟩:=h
  simp only[Bk,zd3,DK.any l]
theorem DT.any {q:List Key}:∀{kvs:List (PV×PV)} {ks:List (List Key×V)},DT K cl B φ H kvs ks->(kvs.any λp=>peq p.1 (.tup (q.map yaI)))=ks.any λkv=>decide (kv.1=q)
 | [],ks,h=>by cases h;rfl
 | (k,w)::t,ks,h=>by
  obtain⟨q',y,s,rfl,rfl,rv,l⟩:=h
  simp only[Bk,zdF,DT.any l]
theorem DK.map {q:Key}{v:PV}{x:V}(r:yd K cl B φ H v x):∀{kvs:List (PV×PV)} {ks:List (Key×V)},DK K cl B φ H kvs ks->DK K cl B φ H (kvs.map λp=>if peq p.1 (yaI q)=AC then(p.1,v)else p) (ks.map λkv=>if kv.1=q then(kv.1,x)else kv)
 | [],ks,h=>by cases h;exact rfl
 | (k,w)::t,ks,h=>by
  obtain⟨q',y,s,rfl,rfl,rv,l⟩:=h
  simp only[AM,zd3,decide_eq_true_eq]
  by_cases e:q'=q
  .simp only[e,if_true]
   exact⟨q,x,_,rfl,rfl,r,DK.map r l⟩
  .simp only[e,if_false]
   exact⟨q',y,_,rfl,rfl,rv,DK.map r l⟩
theorem DT.map {q:List Key}{v:PV}{x:V}(r:yd K cl B φ H v x):∀{kvs:List (PV×PV)} {ks:List (List Key×V)},DT K cl B φ H kvs ks->DT K cl B φ H (kvs.map λp=>if peq p.1 (.tup (q.map yaI))=AC then(p.1,v)else p) (ks.map λkv=>if kv.1=q then(kv.1,x)else kv)
 | [],ks,h=>by cases h;exact rfl
 | (k,w)::t,ks,h=>by
  obtain⟨q',y,s,rfl,rfl,rv,l⟩:=h
  simp only[AM,zdF,decide_eq_true_eq]
  by_cases e:q'=q
  .simp only[e,if_true]
   exact⟨q,x,_,rfl,rfl,r,DT.map r l⟩
  .simp only[e,if_false]
   exact⟨q',y,_,rfl,rfl,rv,DT.map r l⟩
theorem DK.snoc {q:Key}{v:PV}{x:V}(r:yd K cl B φ H v x):∀{kvs:List (PV×PV)} {ks:List (Key×V)},DK K cl B φ H kvs ks->DK K cl B φ H (kvs++[(yaI q,v)]) (ks++[(q,x)])
 | [],ks,h=>by cases h;exact⟨q,x,[],rfl,rfl,r,rfl⟩
 | (k,w)::t,ks,h=>by
  obtain⟨q',y,s,rfl,rfl,rv,l⟩:=h
  exact⟨q',y,_,rfl,rfl,rv,DK.snoc r l⟩
theorem DT.snoc {q:List Key}{v:PV}{x:V}(r:yd K cl B φ H v x):∀{kvs:List (PV×PV)} {ks:List (List Key×V)},DT K cl B φ H kvs ks->DT K cl B φ H (kvs++[(.tup (q.map yaI),v)]) (ks++[(q,x)])
 | [],ks,h=>by cases h;exact⟨q,x,[],rfl,rfl,r,rfl⟩
 | (k,w)::t,ks,h=>by
  obtain⟨q',y,s,rfl,rfl,rv,l⟩:=h
  exact⟨q',y,_,rfl,rfl,rv,DT.snoc r l⟩
theorem DK.put {q:Key}{v:PV}{x:V}{kvs:List (PV×PV)}{ks:List (Key×V)}(l:DK K cl B φ H kvs ks)(r:yd K cl B φ H v x):DK K cl B φ H (IC.put (yaI q) v kvs) (putK ks q x):=by
 unfold IC.put putK
 rw[DK.any l]
 split
 .exact DK.map r l
 .exact DK.snoc r l
theorem DT.put {q:List Key}{v:PV}{x:V}{kvs:List (PV×PV)}{ks:List (List Key×V)}(l:DT K cl B φ H kvs ks)(r:yd K cl B φ H v x):DT K cl B φ H (IC.put (.tup (q.map yaI)) v kvs) (putK ks q x):=by
 unfold IC.put putK
 rw[DT.any l]
 split
 .exact DT.map r l
 .exact DT.snoc r l
theorem DK.len:∀{kvs:List (PV×PV)} {ks:List (Key×V)},DK K cl B φ H kvs ks->kvs.length=ks.length
 | [],ks,h=>by cases h;rfl
 | (k,w)::t,ks,h=>by
  obtain⟨q',y,s,rfl,rfl,rv,l⟩:=h
  simp[DK.len l]
theorem DT.len:∀{kvs:List (PV×PV)} {ks:List (List Key×V)},DT K cl B φ H kvs ks->kvs.length=ks.length
 | [],ks,h=>by cases h;rfl
 | (k,w)::t,ks,h=>by
  obtain⟨q',y,s,rfl,rfl,rv,l⟩:=h
  simp[DT.len l]
theorem yt.dct {n:Nat}{t:Bool}{kvs:List (PV×PV)}{x:V}(rs:yt K cl B φ H st)(r:yd K cl B φ H (.loc n) x)(h:st[n]?=AA (.dct t kvs)):∃y,x=.ref y/\φ[n]?=AA (AA y)/\yco K cl B φ H (.dct t kvs) y:=by
 simp only[yd]at r
 obtain⟨hn,y,rfl,ha⟩:=r
 obtain⟨z,hz⟩:=rs.liv n _ h (by intro z;cases z)
 obtain rfl:=ha z hz
 obtain⟨o,ho,ro⟩:=rs.obj n z hz
 rw[h]at ho;cases ho
 exact⟨z,rfl,hz,ro⟩
theorem zeT {v:PV}{t:Bool}{kvs:List (PV×PV)}(h:ybf st v=AA (t,kvs)):∃n,v=.loc n/\st[n]?=AA (.dct t kvs):=by
 cases v with
 |loc n =>
  simp only[ybf]at h
  split at h
  .rename_i t' xs q
   cases h
   exact⟨n,rfl,q⟩
  .cases h
 |_=>cases h
theorem zgQ {k:PV}(h:isKey AD k=AC):∃q,k=yaI q:=zh6 h
theorem zh7 {k:PV}(h:isKey AC k=AC):∃q:List Key,k=.tup (q.map yaI):=by
 cases k with
 |tp b xs =>
  cases b with
  |false =>
   obtain⟨qs,rfl⟩:=zg1 h
   exact⟨qs,rfl⟩
  |true=>cases h
 |_=>cases h
theorem ziq {q:List Key}{x:V}(r:yd K cl B φ H (.tup (q.map yaI)) x):∃y,x=.ref y/\H y=AA (.tup (q.map kV)):=by
 simp only[yd]at r
 obtain⟨y,xs,rfl,rt,l⟩:=r
 rcases rt with⟨rt,_⟩|⟨z,_⟩
 .exact⟨y,rfl,by rw[rt,zeV l]⟩
 .cases z
theorem zhd:PE X (.Dict [] [] pos) (tE S X (.dict0 AC)):=yct.imp λσ H Q ⟨B,φ,st,ρ,rs,re,h⟩=>by
 simp only[ev]at h
 exact λp hp=>h _ _ (φ++[AA p]) (.push hp) (rs.push hp (rs.nB hp) ⟨[],zp,rfl⟩) (.loc_new rs)
theorem zny (hu:X.A.units+1<cLine)(ha:PE X a (tE S X ca))(hb:PE X b (tE S X cb))(hc:PE X c (tE S X cc))(m:M2 X a "get" apos b c pos:=by exact⟨rfl,rfl,rfl,rfl⟩):PE X (.Call (.Attribute a "get" apos) [b,c] [] pos) (tE S X (.mth .get ca (.cons cb (.cons cc .nil)))) :=
 (zi6 hu ha hb hc m).imp λσ H Q ⟨B,φ,st,ρ,rs,re,h⟩=>by
  simp only[ev]at h
  refine tE.bind rs re h λx H1 v st1 φ1 s1 rs1 re1 rv h1=>?_
  obtain⟨_,e1,h1⟩:=zgK h1
  simp only[yaO]at e1
  cases q:ybf st1 v with
  |none=>rw[q]at e1;cases e1
  |some tk =>
   obtain⟨t,kvs⟩:=tk
   obtain⟨n,rfl,hn⟩:=zeT q
   obtain⟨y,rfl,hy,ro⟩:=rs1.dct rv hn
   refine⟨y,rfl,?_,?_⟩
   .cases t with
    |false=>obtain⟨ks,hk,_⟩:=ro;exact .inl ⟨ks,.inl hk⟩
    |true=>obtain⟨ks,hk,_⟩:=ro;exact .inr ⟨ks,.inl hk⟩
   .simp only[evs,R.bind_assoc]at h1
    refine tE.bind rs1 re1 h1 λkx H2 kv st2 φ2 s2 rs2 re2 rk h2=>tE.bind rs2 re2 h2 λdx H3 dv st3 φ3 s3 rs3 re3 rd h3=>?_
    simp only[R.bind]at h3;unfold ycu at h3;simp only[yd1]at h3
    cases q3:ybf st3 (.loc n)with
    |none=>rw[q3]at h3;exact h3.elim
    |some tk3 =>
     obtain⟨t3,kvs3⟩:=tk3
     rw[q3]at h3
     dsimp only at h3
     split at h3
     .rename_i hk
      obtain⟨n',e',hn3⟩:=zeT q3
      cases e'
      obtain⟨y3,ey,hy3,ro3⟩:=rs3.dct ((rv.step s2).step s3) hn3
      cases ey
      have rk3:=rk.step s3
      cases t3 with
      |false =>
       obtain⟨q,rfl⟩:=zgQ hk
       obtain⟨ks,hks,l⟩:=ro3
       refine⟨ybL ks q,.inl ⟨ks,q,.inl hks,ybj.mp rk3,rfl⟩,h3.ok rs3 (DK.look l rd)⟩
      |true =>
       obtain⟨q,rfl⟩:=zh7 hk
       obtain⟨ks,hks,l⟩:=ro3
       obtain⟨b',rfl,hb'⟩:=ziq rk3
       exact⟨ybL ks q,.inr ⟨ks,q,b',.inl hks,rfl,hb',rfl⟩,h3.ok rs3 (DT.look l rd)⟩
     .exact h3.elim
theorem zhz {st4:Store}{x y v:PV}(h:ybh st x y v=AA st4):∃n t kvs,x=.loc n/\st[n]?=AA (.dct t kvs)/\isKey t y=AC/\kvs.length<1000000/\st4=st.set n (.dct t (IC.put y v kvs)):=by
 cases x with
 |loc n =>
  simp only[ybh]at h
  split at h
  .rename_i t kvs q
   split at h
   .rename_i c
    exact⟨n,t,kvs,rfl,q,c.1,c.2,(AX h).symm⟩
   .cases h
  .cases h
 |_=>cases h
theorem zkU (hu:X.A.units+1<cLine)(ho:PE X b (tE S X cb))(hi:PE X c (tE S X cc))(hv:PE X a (tE S X ca))(hs:swapsWith a (AA (.Subscript b c px)) pos.line X.env=pure false:=by rfl):PS X (.Assign [.Subscript b c px] a pos) (tS S X (.dput cb cc ca)) :=
 (zkK hu ho hi hv hs).imp λD σ H ⟨B,φ,st,ρ,rs,re,h⟩=>by
  simp only[ex]at h
  refine tE.fl rs re h λv' H1 v st1 φ1 s1 rs1 re1 rv h1=>tE.fl rs1 re1 h1 λx' H2 x st2 φ2 s2 rs2 re2 rx h2=>tE.fl rs2 re2 h2 λy' H3 y st3 φ3 s3 rs3 re3 ry h3=>?_
  cases e:ybh st3 x y v with
  |none=>rw[e]at h3;exact h3.elim
  |some st4 =>
   rw[e]at h3
   obtain⟨n,t,kvs,rfl,hn,hk,hl,rfl⟩:=zhz e
   obtain⟨l,rfl,hp,ro⟩:=rs3.dct (rx.step s3) hn
   have rv3:=(rv.step s2).step s3
   have hm:=ycc
   cases t with
   |false =>
    obtain⟨q,rfl⟩:=zgQ hk
    obtain⟨ks,hks,ld⟩:=ro
    have s4:Step φ3 H3 φ3 (L2.upd H3 l (.dK (putK ks q v'))):=.put (A1 hp)
    refine⟨l,_,rfl,.inl ⟨ks,q,hks,ybj.mp ry,by have:=ld.len;omega,rfl⟩,h3 σ _ φ3 s4 (rs3.put hp ⟨_,zp,(ld.put rv3).step s4⟩) (re3.step s4)⟩
   |true =>
    obtain⟨q,rfl⟩:=zh7 hk
    obtain⟨ks,hks,ld⟩:=ro
    obtain⟨b',rfl,hb'⟩:=ziq ry
    have s4:Step φ3 H3 φ3 (L2.upd H3 l (.dT (putK ks q v'))):=.put (A1 hp)
    refine⟨l,_,rfl,.inr ⟨ks,q,b',hks,rfl,hb',by have:=ld.len;omega,rfl⟩,h3 σ _ φ3 s4 (rs3.put hp ⟨_,zp,(ld.put rv3).step s4⟩) (re3.step s4)⟩
end
section
variable {S:Se}{X:Cx}{σ:St}{B:AJ->Prop}{φ:Ph}{H:Hp}{p pos p3 p4:CT}{a b tg:AV}{ca cb:Ce}
end
end L2
namespace WK
open PySem L2 IC
section
variable {K:AG}{cl:Nat->AJ}{B:AJ->Prop}{φ:Ph}{H:Hp}
theorem zj5:yg K cl B φ H [] []:=by simp only[yg]
theorem zhu {v:PV}{x:V}{vs:List PV}{xs:List V}(h:yd K cl B φ H v x)(l:yg K cl B φ H vs xs):yg K cl B φ H (v::vs) (x::xs):=by
 simp only[yg]
 exact⟨x,xs,rfl,h,l⟩
end
theorem znL {P:A4}{w:Af}{outer:List B2}{H:Hp}{s:AK}{e:AH}{s':AK}(h:CX1 P w outer H s (λ_ _ _=>False) e s'):False:=by
 obtain⟨_,_,_,_,_,_,_,_,_,_,_,_,_,_,z⟩:=h
 exact z
theorem zhf {K:AG}{cl:Nat->AJ}{B:AJ->Prop}{φ:Ph}{H:Hp}:∀ns:List Int,yg K cl B φ H (ns.map .int) (ns.map V.int)
 | []=>zj5
 |n::ns=>zhu (by simp only[yd]) (zhf ns)
def spX (K:AG)(call:Nat->List PV->Store->R PV)(fi:Nat):Sp:=λvs H Q E=>∀cl,spI K cl call fi vs H Q E
theorem zhk {K:AG}{call:Nat->List PV->Store->R PV}{fi:Nat}{H:Hp}{a:AJ}{ns:List Int}(ht:∀ns:List Int,ns.length<=63->call fi [.scr (ns.map .int)] []=.ok (.bl AC) [])(hl:ns.length<=63)(hS:SqL K H a (ns.map V.int)) :
  spX K call fi [.ref a] H (λv _=>v=.bl AC) λ_ _ _=>False:=by
 intro cl
 refine⟨λ_=>False,[],[],[.scr (ns.map .int)],⟨rfl,λm n a e=>by simp at e,λn a e=>by simp at e,λn o e=>by simp at e,λa z=>by simp at z,λa z=>z.elim⟩,zhu ?_ zj5,?_⟩
 .simp only[yd]
  refine⟨a,_,rfl,?_,zhf ns⟩
  rcases hS with hS|hS
  .exact .inl ⟨hS,λz=>z,by simp⟩
  .exact .inr hS
 .rw[ht ns hl]
  intro x H' φ' _ _ r
  simpa only[yd] using r
end WK
namespace L2
open PySem PySem.Spec PyProof.Rows IC
theorem zgZ {l:List AR}(h:l.Nodup){i j:Nat}(hi:i<l.length)(hj:j<l.length)(e:l[i]=l[j]):i=j:=by
 rcases Nat.lt_trichotomy i j with q|q|q
 .exact absurd e (EN.mp h i j hi hj q)
 .exact q
 .exact absurd e.symm (EN.mp h j i hj hi q)
section
variable {X:Cx}{pins:List (AJ×CB)}{σ:St}{H:Hp}{s:AK}
theorem Inv.drop {h':BB}{m:AR->Option AH}{v:Option AH}{i:Nat}{n:AR}(I:Inv X pins σ H s)(hN:X.N.Nodup)(hi:X.N[i]?=AA n)(hm:s.heap.Ns X.env.locals m)(look:∀(i:Nat) (x:AR) (v:V),X.N[i]?=AA x->σ[i]?=AA (AA v)->Vis X.env.scope x->∃u,RelV v u/\Look X.env s.heap m x u)(hs:C3 X.env.locals s.heap h')(hn:h'.Ns X.env.locals (λx=>if x=n then v else m x)):Inv X pins (σ.set i AE) H { s with heap:=h' }:=by
 have k:∀b u,b≠X.env.locals->s.heap.get? b=AA u->h'.get? b=AA u:=λb u hb q=>(hs.2 b hb).trans q
 have nl:∀b o,X.s₀.heap.get? b=AA o->b≠X.env.locals:=λb o e=>An (A3 (AY e) I.ok.above)
 refine⟨I.ok,I.os,I.bare,⟨λb o q n hb hx=>k b o (nl b o q) (I.base.keep b o q n hb hx),λb o q n hb hx=>?_,I.base.free,λb o q hx=>?_,I.base.tups,I.base.frzs,I.base.tbls⟩,⟨_,hn,λj x v e1 e2 hv=>?_⟩,λx c e=>?_,I.free,I.freeC,λp hp=>?_,λb u e=>?_,?_⟩
 .obtain⟨sl,q1⟩:=I.base.slot b o q n hb hx
  exact⟨sl,k b _ (nl b o q) q1⟩
 .obtain⟨o',q1⟩:=I.base.there b o q hx
  exact⟨o',k b o' (nl b o q) q1⟩
 .have hj:j≠i:=λz=>by
   subst z
   rw[Ca]at e2
   simp only[if_true]at e2
   split at e2 <;> cases e2
  rw[AO (BG hj)]at e2
  have hx:x≠n:=λz=>by
   subst z
   obtain⟨l1,g1⟩:=BK.mp e1
   obtain⟨l2,g2⟩:=BK.mp hi
   exact hj (zgZ hN l1 l2 (g1.trans g2.symm))
  obtain⟨u,r,lk⟩:=look j x v e1 e2 hv
  refine⟨u,r,?_⟩
  rcases lk with⟨q1,q2⟩|⟨q1,c,q2,o,q3,q4⟩
  .exact .inl ⟨q1,by dsimp only;rw[if_neg hx];exact q2⟩
  .exact .inr ⟨q1,c,q2,o,k c o (I.cne x c q2) q3,q4⟩
 .obtain⟨v,o,ho,hd⟩:=I.cell x c e
  exact⟨v,o,k c o (I.cne x c e) ho,hd⟩
 .obtain⟨q1,q2,q3,q4⟩:=I.pin p hp
  exact⟨k _ _ q3 q1,q2,q3,q4⟩
 .refine(I.hok b u e).stay (λc v hc q=>k c v (λz=>?_) q) (λ_ q=>q) λ_ _ q=>q
  have fr:=I.free
  subst z
  rcases hc with z|z
  .rw[z,e]at fr
   cases fr
  .rw[z]at fr
   cases fr
 .rw[B6]
  exact I.len
end
section
variable {X:Cx}{body suite:List Bv}{b₀:Bv}{x n:AR}{np hpos pos:CT}{W:AJ}{i:Nat}
end
section
variable {S:Se}{X:Cx}{σ:St}{B:AJ->Prop}{φ φ1:Ph}{H H1:Hp}{st:Store}{ρ:IC.Env}{D:Ends}{body suite:List Bv}{b₀:Bv}{x n:AR}{p p2 np hpos pos cpos:CT}{W:AJ}{i:Nat}{cb ch:Css}{a e:AV}{es:List AV}{ca ce:Ce}{ces:Ces}
theorem yR.drop {K:AG}{cl:Nat->AJ}(r:yR K cl B φ H ρ σ)(i:Nat):yR K cl B φ H (ρ.set i AE) (σ.set i AE):=by
 refine⟨by rw[B6,B6];exact r.len,λj w e=>?_⟩
 by_cases h:j=i
 .subst h
  rw[Ca]at e
  simp only[if_true]at e
  split at e <;> cases e
 .rw[AO (BG h)]at e ⊢
  exact r.get j w e
noncomputable abbrev Se.quiet (S:Se):Se:={ S with may:=AD }
theorem all_nil {P:Nat->Prop}:∀c∈([]:List Nat),P c:=λ_ h=>by cases h
theorem all_cons {P:Nat->Prop}{c:Nat}{cs:List Nat}(h:P c)(t:∀d∈cs,P d):∀d∈c::cs,P d:=λd hd=>by
 rcases AU.mp hd with e|e
 .exact e ▸ h
 .exact t d e
structure ydg (K:AG)(mg:AR->Option AH)(C:AJ)(x:AR):Prop where
 m:mg x=AA (.ref C)
 q:F2 K C [.type "ValueError",.type "Exception",.type "BaseException",.type "object"] "ValueError.__new__"=AC
end
section
variable {S:Se}{X:Cx}{p pos p2 px apos:CT}{a b:AV}{ca cb:Ce}
def GCI (mg:AR->Option AH)(x:AR)(i:Int):Prop:=∃t,mg x=AA (.int i t)
theorem znv {x:AR}{i:Int}(hg:Gl X x)(h:GCI X.mg x i)(hd:(x == ("__debug__":AR))=false:=by decide):PE X (.Name x pos) (tE S X (.cst (.int i))):=by
 obtain⟨t,hm⟩:=h
 exact(zcP hg hm (show RelV (.int i) (.int i t)from ⟨t,rfl⟩) hd).imp λσ H Q ⟨B,φ,st,ρ,rs,re,h⟩=>by
  simp only[ev]at h
  exact h.ok rs (by simp only[yd])
end
end L2
namespace WE
open PySem PySem.Spec PyProof.Rows
section
variable {prog:A4}{w:Af}{A:Ar}{E:AH->AK->Prop}{s:AK}
def ydO (h:BB)(a t:AJ)(i:Int):Prop:=∃o,h.get? a=AA o/\o.cls=.type "reversed"/\o.data=.fields #[.ref t,rawInt i]
theorem ydO.typeIs {a t:AJ}{i:Int}(x:ydO s.heap a t i):s.TypeIs (.ref a) "reversed":=let ⟨o,ho,hc,_⟩:=x;⟨o,ho,hc⟩
end
end WE
namespace L2
open PySem PySem.Spec PyProof.Rows
end L2
namespace L2
open PySem PySem.Spec PyProof.Rows IC
open Classical in
section
variable {S:Se}{X:Cx}{σ:St}{B:AJ->Prop}{φ φ1:Ph}{H H1:Hp}{st:Store}{ρ:IC.Env}{p pos p2 px py pt pt2:CT}{a b c d o a' b' c' d':AV}{ca cb cc cd ce cf:Ce}{pins:List (AJ×CB)}{s:AK}{kt k2:Nat}{es:List AV}{ces:Ces}{x:AR}
end
end L2
namespace IC
open PySem
end IC
namespace L2
open PySem PySem.Spec PyProof.Rows IC
section
variable {S:Se}{X:Cx}{σ:St}{B:AJ->Prop}{φ:Ph}{H:Hp}{p p2 pos pos2 apos:CT}{a b tg:AV}{ca cb:Ce}
end
end L2
namespace WE
open PySem PySem.Spec PyProof.Rows
section
variable {pg:A4}{wd:Af}{A:Ar}{Er:AH->AK->Prop}{s:AK}
theorem tit_keep {h h':BB}{i t:AJ}{j:Nat}(u:h.IsTupleIter i t j)(k:∀o,h.get? i=AA o->h'.get? i=AA o):h'.IsTupleIter i t j:=let ⟨o,g,r⟩:=u;⟨o,k o g,r⟩
theorem zci {h h':BB}{t:AJ}{xs:Array AH}(u:h.IsTuple t xs)(k:∀o,h.get? t=AA o->h'.get? t=AA o):h'.IsTuple t xs:=let ⟨o,g,r⟩:=u;⟨o,k o g,r⟩
def Kz (z TO i1 i2:AJ)(h h':BB):Prop:=∀c o,c≠z->c≠TO->c≠i1->c≠i2->h.get? c=AA o->h'.get? c=AA o
theorem zhF {z TI TO i1 i2 l1 l2:AJ}{j:Nat}{xs ys:Array AH}{x y a b:AH}{Q:AH->AK->Prop}(D:Fv z TI TO i1 i2 l1 l2)
  (gz:EV s.heap z TI TO .none) (gI:CV s.heap TI (.ref i1) (.ref i2)) (gO:CV s.heap TO a b) (u1:s.heap.IsTupleIter i1 l1 j) (u2:s.heap.IsTupleIter i2 l2 j) (t1:s.heap.IsTuple l1 xs) (t2:s.heap.IsTuple l2 ys) (ex:xs[j]?=AA x) (ey:ys[j]?=AA y)
  (k:∀h',EV h' z TI TO (rawInt s.heap.objs.size)->CV h' TO x y->h'.IsTupleIter i1 l1 (j+1)->h'.IsTupleIter i2 l2 (j+1)->CV h' s.heap.objs.size x y->h'.objs.size=s.heap.objs.size+1->Kz z TO i1 i2 s.heap h'->Q (.ref s.heap.objs.size) { s with heap:=h' }) :
  AZ (model pg wd) A (Gn.«zip.__next__» ⟨[.ref z],[]⟩) (λf s'=>∃v,f=.done (.ret v)/\Q v s') Er s:=by
 show AZ _ _ (field (.ref z) 2 >>= _) _ _ _;refine AI (BN gz rfl (x:=.bool AD) rfl ?_)
 show AZ _ _ (field (.ref z) 3 >>= _) _ _ _;refine AI (BN gz rfl (x:=.ref TI) rfl ?_);refine AI (CZ gI rfl ?_)
 show AZ _ _ (Bd (.ref z) >>= _) _ _ _;refine AI ?_;unfold Bd
 refine AI (BN gz rfl (x:=.none) rfl (AQ ?_));simp only[if_true]
 refine AI (Ee ?_);refine AI (BN gz rfl (x:=.ref TO) rfl ?_);refine AI (C5 gz (by simp) λha za sa=>?_)
 replace za:EV ha z TI TO .ellipsis:=za
 refine AI ?_;simp only[GM,GY,Eu,Ga];refine AI (AI (F3 ?_))
 show AZ _ _ (BV (.ref i1) >>= _) _ _ _
 refine AI (zb0 (tit_keep u1 λo e=>sa.extBut _ _ D.i1z e) (zci t1 λo e=>sa.extBut _ _ D.l1z e) ex λhb ub sb=>AQ ?_)
 have ob:CV hb TO a b:=sb.extBut _ _ D.TOi1 (sa.extBut _ _ D.TOz gO)
 refine AI (CZ ob rfl ?_);refine AI (FG ob λhc oc sc=>?_)
 replace oc:CV hc TO x b:=oc
 refine AI (wpAny_letGo (AQ ?_));refine AI (AI (F3 ?_))
 show AZ _ _ (BV (.ref i2) >>= _) _ _ _
 refine AI (zb0 (tit_keep u2 λo e=>sc.extBut _ _ D.TOi2.symm (sb.extBut _ _ D.i12.symm (sa.extBut _ _ D.i2z e))) (zci t2 λo e=>sc.extBut _ _ D.l2TO (sb.extBut _ _ D.l2i1 (sa.extBut _ _ D.l2z e))) ey λhd ud sd=>AQ ?_)
 have od:CV hd TO x b:=sd.extBut _ _ D.TOi2 oc
 refine AI (CZ od rfl ?_);refine AI (FG od λhe oe se=>?_)
 replace oe:CV he TO x y:=oe
 refine AI (wpAny_letGo (AQ (AQ ?_)));refine AI (CZ oe rfl ?_);refine AI (wpAny_newTuple ?_)
 have sz:he.objs.size=s.heap.objs.size:=by rw[se.1,sd.1,sc.1,sb.1,sa.1]
 have ze:EV he z TI TO .ellipsis:=se.extBut _ _ D.TOz.symm (sd.extBut _ _ D.i2z.symm (sc.extBut _ _ D.TOz.symm (sb.extBut _ _ D.i1z.symm za)))
 have ke:Kz z TO i1 i2 s.heap he:=λc o p1 p2 p3 p4 e=>se.extBut _ _ p2 (sd.extBut _ _ p4 (sc.extBut _ _ p2 (sb.extBut _ _ p3 (sa.extBut _ _ p1 e))))
 have v1:he.IsTupleIter i1 l1 (j+1):=tit_keep ub λo e=>se.extBut _ _ D.TOi1.symm (sd.extBut _ _ D.i12 (sc.extBut _ _ D.TOi1.symm e))
 have v2:he.IsTupleIter i2 l2 (j+1):=tit_keep ud λo e=>se.extBut _ _ D.TOi2.symm e
 have lz:z<he.objs.size:=AY ze
 show AZ _ _ (Ct (.ref z) (.ref he.objs.size) >>= _) _ _ _;refine AI ?_;unfold Ct
 have zf:EV (he.push { cls:=.type "tuple",data:=.seq #[x,y] }) z TI TO .ellipsis:=AN _ ze
 refine AI (C5 zf (by simp) λhg zg sg=>?_)
 replace zg:EV hg z TI TO (rawInt he.objs.size):=zg
 refine C5 zg (by simp) λhi zi si=>?_
 replace zi:EV hi z TI TO (rawInt he.objs.size):=zi
 have up:∀c o,c≠z->he.get? c=AA o->hi.get? c=AA o:=λc o p e=>si.extBut _ _ p (sg.extBut _ _ p (AN _ e))
 have pn:CV hi he.objs.size x y:=si.extBut _ _ (Ef lz) (sg.extBut _ _ (Ef lz) (A2 _ rfl))
 have si8:hi.objs.size=he.objs.size+1:=by rw[si.1,sg.1,Bt]
 rw[sz]at zi pn si8
 refine AQ ⟨_,rfl,?_⟩;show Q (.ref he.objs.size) _;rw[sz]
 exact k hi zi (up _ _ D.TOz oe) (tit_keep v1 λo e=>up _ o D.i1z e) (tit_keep v2 λo e=>up _ o D.i2z e) pn si8 λc o p1 p2 p3 p4 e=>up c o p1 (ke c o p1 p2 p3 p4 e)
theorem ziE {z TI TO i1 i2 l1 l2:AJ}{j:Nat}{xs:Array AH}{a b:AH}{Q:Fin->AK->Prop}(hh:A.handled=AE)(D:Fv z TI TO i1 i2 l1 l2)
  (gz:EV s.heap z TI TO .none) (gI:CV s.heap TI (.ref i1) (.ref i2)) (gO:CV s.heap TO a b) (u1:s.heap.IsTupleIter i1 l1 j) (t1:s.heap.IsTuple l1 xs) (ex:xs[j]?=AE)
  (k:∀h' e,Kz z TO i1 i2 s.heap h'->(∃o,h'.get? e=AA o/\o.cls=.type "StopIteration")->Er (.ref e) { s with heap:=h' }) :
  AZ (model pg wd) A (Gn.«zip.__next__» ⟨[.ref z],[]⟩) Q Er s:=by
 show AZ _ _ (field (.ref z) 2 >>= _) _ _ _;refine AI (BN gz rfl (x:=.bool AD) rfl ?_)
 show AZ _ _ (field (.ref z) 3 >>= _) _ _ _;refine AI (BN gz rfl (x:=.ref TI) rfl ?_);refine AI (CZ gI rfl ?_)
 show AZ _ _ (Bd (.ref z) >>= _) _ _ _;refine AI ?_;unfold Bd
 refine AI (BN gz rfl (x:=.none) rfl (AQ ?_));simp only[if_true]
 refine AI (Ee ?_);refine AI (BN gz rfl (x:=.ref TO) rfl ?_);refine AI (C5 gz (by simp) λha za sa=>?_)
 replace za:EV ha z TI TO .ellipsis:=za
 refine AI ?_;simp only[GM,GY,Eu,Ga];refine AI (AI (F3 ?_))
 show AZ _ _ (BV (.ref i1) >>= _) _ _ _
 refine AI (zeL hh (tit_keep u1 λo e=>sa.extBut _ _ D.i1z e) (zci t1 λo e=>sa.extBut _ _ D.l1z e) ex λhb e sb he=>?_)
 obtain⟨oe,ge,ce⟩:=he
 have zb:EV hb z TI TO .ellipsis:=sb _ _ D.i1z.symm za
 have ne:e≠z:=λq=>by subst q;rw[zb]at ge;cases ge;simp at ce
 exact C5 zb (by simp) λhc _ sc=>k hc e (λc o p1 _ p3 _ q=>sc.extBut _ _ p1 (sb _ _ p3 (sa.extBut _ _ p1 q))) ⟨oe,sc.extBut _ _ ne ge,ce⟩
theorem pyNext_zipT {z TI TO i1 i2 l1 l2:AJ}{j:Nat}{xs ys:Array AH}{x y a b:AH}{Q:Option AH->AK->Prop}(D:Fv z TI TO i1 i2 l1 l2)
  (gz:EV s.heap z TI TO .none) (gI:CV s.heap TI (.ref i1) (.ref i2)) (gO:CV s.heap TO a b) (u1:s.heap.IsTupleIter i1 l1 j) (u2:s.heap.IsTupleIter i2 l2 j) (t1:s.heap.IsTuple l1 xs) (t2:s.heap.IsTuple l2 ys) (ex:xs[j]?=AA x) (ey:ys[j]?=AA y)
  (k:∀h',EV h' z TI TO (rawInt s.heap.objs.size)->CV h' TO x y->h'.IsTupleIter i1 l1 (j+1)->h'.IsTupleIter i2 l2 (j+1)->CV h' s.heap.objs.size x y->h'.objs.size=s.heap.objs.size+1->Kz z TO i1 i2 s.heap h'->Q (AA (.ref s.heap.objs.size)) { s with heap:=h' }) :
  AZ (model pg wd) A (pyNext (.ref z)) Q Er s:=by
 have ty:s.TypeIs (.ref z) "zip":=⟨_,gz,rfl⟩
 unfold pyNext
 exact AI (wpAny_attempt (B1 (name:=AF "__next__") ty Dh (CG Dh ty GN (zhF D gz gI gO u1 u2 t1 t2 ex ey λh' a1 a2 a3 a4 a5 a6 a7=>AQ (k h' a1 a2 a3 a4 a5 a6 a7)) (Fw _))))
theorem pyNext_zipE {z TI TO i1 i2 l1 l2:AJ}{j:Nat}{xs:Array AH}{a b:AH}{Q:Option AH->AK->Prop}(hh:A.handled=AE)(D:Fv z TI TO i1 i2 l1 l2)
  (gz:EV s.heap z TI TO .none) (gI:CV s.heap TI (.ref i1) (.ref i2)) (gO:CV s.heap TO a b) (u1:s.heap.IsTupleIter i1 l1 j) (t1:s.heap.IsTuple l1 xs) (ex:xs[j]?=AE)
  (k:∀h',Kz z TO i1 i2 s.heap h'->Q AE { s with heap:=h' }):AZ (model pg wd) A (pyNext (.ref z)) Q Er s:=by
 have ty:s.TypeIs (.ref z) "zip":=⟨_,gz,rfl⟩
 unfold pyNext
 refine AI (wpAny_attempt (B1 (name:=AF "__next__") ty Dh (CG Dh ty GN (ziE hh D gz gI gO u1 t1 ex λh' e kk he=>?_) (Fw _))))
 obtain⟨o,ho,hc⟩:=he
 exact AI (wpAny_isInstance (T:="StopIteration") (b:=AC) ⟨o,ho,hc⟩ isSubtype_stop (AQ (k _ kk)))
end
noncomputable abbrev ti (l:AJ):Obj:={ cls:=.type "tuple_iterator",data:=.fields #[.ref l,.int 0 0] }
abbrev zh1 (h:BB)(l1:AJ):Heap:=h.push (ti l1)
abbrev zh2 (h:BB)(l1 l2:AJ):Heap:=(zh1 h l1).push (ti l2)
abbrev zh3 (h:BB)(l1 l2:AJ):Heap:=(zh2 h l1 l2).push { cls:=.type "tuple",data:=.seq #[.ref h.objs.size,.ref (zh1 h l1).objs.size] }
abbrev zh4 (h:BB)(l1 l2:AJ):Heap:=(zh3 h l1 l2).push { cls:=.type "tuple",data:=.seq #[.none,.none] }
abbrev zh5 (h:BB)(l1 l2:AJ):Heap:=(zh4 h l1 l2).push { cls:=.type "zip",data:=.fields #[.none,.bool AD,.bool AD,.ref (zh2 h l1 l2).objs.size,.ref (zh3 h l1 l2).objs.size] }
theorem zga (l1 l2:AJ)(xs ys:Array AH) :
  Meets (Gn.«zip.__new__» ⟨[.type "zip",.ref l1,.ref l2],[]⟩) (λ_ R s=>s.heap.IsTuple l1 xs/\s.heap.IsTuple l2 ys/\R (.ok (.ret (.ref (zh4 s.heap l1 l2).objs.size))) { s with heap:=zh5 s.heap l1 l2 }) :=
 .of_wp λprog w A R s h=>by
  obtain⟨hp,g,d,tk,os⟩:=s
  obtain⟨q1,q2,h⟩:=h
  have hsub:=sub_zip
  have T1:Fm (GT ⟨hp,g,d,tk,os⟩) l1 xs:=q1
  have T2:Fm (GT ⟨hp.push (ti l1),g,d,tk,os⟩) l2 ys:=zci q2 λo e=>AN _ e
  wp_walk using CO T1,CO T2
  exact⟨_,rfl,h⟩
theorem call_zipT {pg:A4}{wd:Af}{A:Ar}{Er:AH->AK->Prop}{s:AK}{l1 l2:AJ}{xs ys:Array AH}{Q:AH->AK->Prop}(t1:s.heap.IsTuple l1 xs)(t2:s.heap.IsTuple l2 ys)
  (k:∀h',EV h' (s.heap.objs.size+4) (s.heap.objs.size+2) (s.heap.objs.size+3) .none->CV h' (s.heap.objs.size+2) (.ref s.heap.objs.size) (.ref (s.heap.objs.size+1))->CV h' (s.heap.objs.size+3) .none .none->h'.IsTupleIter s.heap.objs.size l1 0->h'.IsTupleIter (s.heap.objs.size+1) l2 0 ->
   (∀b o,s.heap.get? b=AA o->h'.get? b=AA o)->Q (.ref (s.heap.objs.size+4)) { s with heap:=h' }):AZ (model pg wd) A (call (.type "zip") [.ref l1,.ref l2]) Q Er s:=by
 refine callType_new F.called_zip (by decide) (F.typeCall_zip_2 _ _) (F.newCall_zip_2 _ _) (λobj=>F.args_object_init_3 obj _ _) F.entry_zip_new (zga l1 l2 xs ys) ⟨t1,t2,?_⟩
 have n1:(zh1 s.heap l1).objs.size=s.heap.objs.size+1:=Bt ..
 have n2:(zh2 s.heap l1 l2).objs.size=s.heap.objs.size+2:=by rw[Bt,n1]
 have n3:(zh3 s.heap l1 l2).objs.size=s.heap.objs.size+3:=by rw[Bt,n2]
 have n4:(zh4 s.heap l1 l2).objs.size=s.heap.objs.size+4:=by rw[Bt,n3]
 have kp:∀{h:BB} {o:CB} {b:AJ} {u:CB},h.get? b=AA u->(h.push o).get? b=AA u:=λe=>AN _ e
 have m5:(zh5 s.heap l1 l2).get? (zh4 s.heap l1 l2).objs.size=AA _:=A2 _ rfl
 have m4:(zh5 s.heap l1 l2).get? (zh3 s.heap l1 l2).objs.size=AA _:=kp (A2 _ rfl)
 have m3:(zh5 s.heap l1 l2).get? (zh2 s.heap l1 l2).objs.size=AA _:=kp (kp (A2 _ rfl))
 have m2:(zh5 s.heap l1 l2).get? (zh1 s.heap l1).objs.size=AA _:=kp (kp (kp (A2 _ rfl)))
 have m1:(zh5 s.heap l1 l2).get? s.heap.objs.size=AA _:=kp (kp (kp (kp (A2 _ rfl))))
 rw[n2,n3,n4]at m5
 rw[n1,n2]at m3
 rw[n3]at m4
 rw[n1]at m2
 show _/\_
 rw[n4]
 exact⟨⟨_,m5,rfl⟩,k _ m5 m3 m4 ⟨_,m1,rfl,rfl⟩ ⟨_,m2,rfl,rfl⟩ λb o e=>kp (kp (kp (kp (kp e))))⟩
end WE
namespace L2
open PySem PySem.Spec PyProof.Rows
noncomputable def Itz (K:AG)(a b:AJ):It :=
 ⟨λi H=>∃xs ys x y,SqT K H a xs/\SqT K H b ys/\xs[i]?=AA x/\ys[i]?=AA y,λi H v H'=>∃T,H T=AE/\v=.ref T/\∀xs ys x y,SqT K H a xs->SqT K H b ys->xs[i]?=AA x->ys[i]?=AA y->H'=upd H T (.tup [x,y]),λi H=>∃xs,SqT K H a xs/\xs.length=i⟩
theorem zgO {P:A4}{w:Af}{K:AG}{es:List AV}{kk:Nat}{pos:CT}(z TI TO i1 i2 a b:AJ)(D:Fv z TI TO i1 i2 a b) :
  Turn P w K (.Tuple es kk pos) (Itz K a b) [z,TI,TO,i1,i2] z (λi h=>EV h z TI TO .none/\CV h TI (.ref i1) (.ref i2)/\(∃p q,CV h TO p q)/\h.IsTupleIter i1 a i/\h.IsTupleIter i2 b i) where
 mem:=by simp
 obj:=λi h st c hc=>by
  obtain⟨g0,g1,⟨p,q,g2⟩,⟨o3,g3,_,d3⟩,⟨o4,g4,_,d4⟩⟩:=st
  simp only[AU,Aa,or_false]at hc
  rcases hc with rfl|rfl|rfl|rfl|rfl
  .exact⟨_,g0,λv y=>nomatch y⟩
  .exact⟨_,g1,λv y=>nomatch y⟩
  .exact⟨_,g2,λv y=>nomatch y⟩
  .exact⟨o3,g3,λv y=>by rw[d3]at y;cases y⟩
  .exact⟨o4,g4,λv y=>by rw[d4]at y;cases y⟩
 keep:=λi h h' st k=>by
  obtain⟨g0,g1,⟨p,q,g2⟩,g3,g4⟩:=st
  exact⟨k z (by simp) _ g0,k TI (by simp) _ g1,⟨p,q,k TO (by simp) _ g2⟩,WE.tit_keep g3 λo e=>k i1 (by simp) o e,WE.tit_keep g4 λo e=>k i2 (by simp) o e⟩
 item:=by
  intro X hP hw hK hc i pins s σ H E I hf st hg
  subst hP hw hK
  obtain⟨xs,ys,x,y,hq1,hq2,hx,hy⟩:=hg
  obtain⟨its,rv,p1,_⟩:=I.tuple hq1
  obtain⟨jts,rw',p2,_⟩:=I.tuple hq2
  obtain⟨g0,g1,⟨p,q,g2⟩,g3,g4⟩:=st
  obtain⟨u,hu,ru⟩:=rv.get hx
  obtain⟨v,hv,rv2⟩:=rw'.get hy
  refine WE.pyNext_zipT D g0 g1 g2 g3 g4 p1 p2 (by simpa using hu) (by simpa using hv) λh1 a1 a2 a3 a4 a5 a6 a7=>⟨_,rfl,?_⟩
  refine wpAny_letOwnedTupleGo_zip a1 λh2 b1 b2=>?_
  have lt:∀{c o},s.heap.get? c=AA o->s.heap.objs.size≠c:=λe=>Ef (AY e)
  have hTz:s.heap.objs.size≠z:=lt g0
  have hch:∀c o,c∉[z,TI,TO,i1,i2]->s.heap.get? c=AA o->h2.get? c=AA o:=λc o hn e=>b2.extBut _ _ (λz'=>hn (by simp[z'])) (a7 c o (λz'=>hn (by simp[z'])) (λz'=>hn (by simp[z'])) (λz'=>hn (by simp[z'])) (λz'=>hn (by simp[z'])) e)
  have new:yZ X.prog X.w (upd H s.heap.objs.size (.tup [x,y])) h2 s.heap.objs.size (.tup [x,y]):=⟨by show 2<=sizeLine;decide,[u,v],.cons ru (.cons rv2 .nil),_,b2.extBut _ _ hTz a5,rfl,_,rfl⟩
  have I2:=I.turnLaid (t':=s.toks) hf hch (AT _) new
  have gI:CV h1 TI (.ref i1) (.ref i2):=a7 _ _ D.TIz D.TITO D.TIi1 D.TIi2 g1
  refine⟨.ref s.heap.objs.size,_,I2,rfl,⟨s.heap.objs.size,I.hok.fresh (AT _),rfl,λxs' ys' x' y' hx1 hy1 hx2 hy2=>?_⟩,⟨b1,b2.extBut _ _ D.TIz gI,⟨_,_,b2.extBut _ _ D.TOz a2⟩,WE.tit_keep a3 λo e=>b2.extBut _ _ D.i1z e,WE.tit_keep a4 λo e=>b2.extBut _ _ D.i2z e⟩,λc hc=>?_⟩
  .rw[I.tuple_inj hx1 hq1,hx]at hx2
   rw[I.tuple_inj hy1 hq2,hy]at hy2
   cases hx2
   cases hy2
   rfl
  .have hne:c≠s.heap.objs.size:=λz'=>by
    subst z'
    obtain⟨o3,e3,_⟩:=g3
    obtain⟨o4,e4,_⟩:=g4
    simp only[AU,Aa,or_false]at hc
    rcases hc with z' | z' | z' | z' | z'
    .exact lt g0 z'
    .exact lt g1 z'
    .exact lt g2 z'
    .exact lt e3 z'
    .exact lt e4 z'
   rw[zj hne]
   exact(hf c hc).1
 done:=by
  intro X hP hw hK hc i pins s σ H E I hf st hg
  subst hP hw hK
  obtain⟨xs,hq1,hx⟩:=hg
  obtain⟨its,rv,p1,_⟩:=I.tuple hq1
  obtain⟨g0,g1,⟨p,q,g2⟩,g3,g4⟩:=st
  have hl:=rv.length
  refine WE.pyNext_zipE (I.ok.hd hc) D g0 g1 g2 g3 p1 (by simp;omega) λh' kz=>⟨rfl,I.turnedL (t':=s.toks) hf λc o hn e=>kz c o (λz'=>hn (by simp[z'])) (λz'=>hn (by simp[z'])) (λz'=>hn (by simp[z'])) (λz'=>hn (by simp[z'])) e⟩
 self:=λ_ _ _ _ _ st q=>GO st.1 q
def ygw (K:AG)(ta:TA):TI:=λσ H R=>ta σ H λvs H1=>∃a b,vs=[.ref a,.ref b]/\(∃xs,SqT K H1 a xs)/\(∃ys,SqT K H1 b ys)/\R (Itz K a b) H1
theorem zlt {X:Cx}{a b:AV}{es:List AV}{kk:Nat}{tp:CT}{ta:TA}{p pos:CT}(hg:Gl X "zip")(hm:X.mg "zip"=AE)(ha:PA X [a,b] ta)(hs:starEach [a,b] X.env=[(AD,eval a X.env),(AD,eval b X.env)]:=by rfl)(hs2:starEach [b] X.env=[(AD,eval b X.env)]:=by rfl) :
  PI X (.Tuple es kk tp) (.Call (.Name "zip" p) [a,b] [] pos) (ygw X.K ta):=by
 intro pins s σ H R I h
 refine B4 (zdy I hg hm boot_zip ?_)
 refine CD (thn (ha pos pins s σ H _ I h) λus s1 ⟨vs,H1,I1,r1,q1⟩=>?_) (by rw[hs,hs2]) (by rw[hs2];rfl)
 obtain⟨l1,l2,rfl,⟨xs,hq1⟩,⟨ys,hq2⟩,q⟩:=q1
 cases r1 with
 |cons r rr =>
  cases rr with
  |cons r2 r3 =>
   cases r3
   cases (show _=Ae l1 from r)
   cases (show _=Ae l2 from r2)
   obtain⟨its,rv,pt1,_⟩:=I1.tuple hq1
   obtain⟨jts,rv2,pt2,_⟩:=I1.tuple hq2
   have b1:l1<s1.heap.objs.size:=by obtain⟨_,e,_⟩:=pt1;exact AY e
   have b2:l2<s1.heap.objs.size:=by obtain⟨_,e,_⟩:=pt2;exact AY e
   refine WE.call_zipT pt1 pt2 λh1 g0 g1 g2 g3 g4 kp=>?_
   refine GO g0 ?_
   refine⟨_,[s1.heap.objs.size+4,s1.heap.objs.size+2,s1.heap.objs.size+3,s1.heap.objs.size,s1.heap.objs.size+1],_,_,H1,rfl,I1.kept (t':=s1.toks) kp,zgO _ _ _ _ _ l1 l2 (zipApart_new b1 b2),⟨g0,g1,⟨_,_,g2⟩,g3,g4⟩,λc hc=>?_,q⟩
   have hb2:s1.heap.objs.size<=c:=by
    simp only[AU,Aa,or_false]at hc
    rcases hc with z' | z' | z' | z' | z' <;> subst z'
    .exact DY _ 4
    .exact DY _ 2
    .exact DY _ 3
    .exact AT _
    .exact DY _ 1
   exact I1.fpOk hb2 (I1.hok.fresh hb2)
end L2
namespace L2
open PySem PySem.Spec PyProof.Rows IC
inductive ycl (K:AG)(cl:Nat->AJ)(w:Af):List (AR×PV)->List CH->Prop
 | nil:ycl K cl w [] []
 | cons {k:AR} {v:PV} {t:HF} {u:AH} {x:V} {D:List (AR×PV)} {es:List CH} (hr:RelV x u) (hv:∀B φ H,yd K cl B φ H v x) (h:ycl K cl w D es):ycl K cl w ((k,v)::D) (⟨EG w.params k,.str k t,u⟩ :: es)
def GD (K:AG)(w:Af)(mg:AR->Option AH)(cl:Nat->AJ)(x:AR)(D:List (AR×PV)):Prop :=
 ∃(y:AJ) (es:Array CH) (ep:Nat),mg x=AA (.ref y)/\K.lookup y=AA ⟨.type "dict",AE,.dict es ep,#[]⟩/\(y == sysModules)=AD/\ycl K cl w D es.toList/\(D.map (·.1)).Nodup
theorem ycl.pairs {K:AG}{cl:Nat->AJ}{P:A4}{w:Af}{D:List (AR×PV)}{es:List CH}(h:ycl K cl w D es) :
  ∃vs:List (AR×AH),Pairs (strKind P w) es vs/\(∀e∈es,∃k,(strKind P w).is k e.key=AC/\e.hash=(strKind P w).hash k)/\vs.map (·.1)=D.map (·.1) /\
   (∀s,(valueAt vs s).isSome=(yaV s D).isSome)/\∀s v,yaV s D=AA v->∃u x,valueAt vs s=AA u/\RelV x u/\∀B φ H,yd K cl B φ H v x:=by
 induction h with
 |nil=>exact⟨[],.nil,λe he=>(by cases he),rfl,λs=>rfl,λs v e=>by cases e⟩
 | @cons k v t u x D es hr hv h ih =>
  obtain⟨vs,h1,h2,h3,h4,h5⟩:=ih
  have hat:∀s,valueAt ((k,u)::vs) s=if k=s then AA u else valueAt vs s:=λs=>by
   unfold valueAt
   rw[Bz]
   by_cases e:k=s
   .simp[e]
   .simp[e]
  refine⟨(k,u)::vs,.cons (DZ P w k t) rfl h1,λe he=>?_,by rw[AM,AM,h3],λs=>?_,λs v' e=>?_⟩
  .rcases AU.1 he with rfl|he
   .exact⟨k,DZ P w k t,rfl⟩
   .exact h2 e he
  .rw[hat,yaV]
   by_cases e:k=s
   .rw[if_pos e,if_pos (by simpa using e)];rfl
   .rw[if_neg e,if_neg (by simpa using e),h4]
  .rw[yaV]at e
   rw[hat]
   by_cases q:k=s
   .rw[if_pos (by simpa using q)]at e
    cases e
    exact⟨u,x,by rw[if_pos q],hr,hv⟩
   .rw[if_neg (by simpa using q)]at e
    obtain⟨u',x',e1,e2,e3⟩:=h5 s v' e
    exact⟨u',x',by rw[if_neg q];exact e1,e2,e3⟩
section
variable {S:Se}{X:Cx}{σ:St}{B:AJ->Prop}{φ:Ph}{H:Hp}{st:Store}{pos p:CT}{a b i:AV}{ca cb:Ce}{x:AR}{D:List (AR×PV)}{ty:TE}
theorem zhT {y:AJ}{es:Array CH}{ep:Nat}{pins:List (AJ×CB)}{s:AK}(I:Inv X pins σ H s)(hk:X.K.lookup y=AA ⟨.type "dict",AE,.dict es ep,#[]⟩)(hn:(D.map (·.1)).Nodup){vs:List (AR×AH)}(h1:Pairs (strKind X.prog X.w) es.toList vs)
  (h2:∀e∈es.toList,∃k,(strKind X.prog X.w).is k e.key=AC/\e.hash=(strKind X.prog X.w).hash k) (h3:vs.map (·.1)=D.map (·.1)):s.heap.DictOf (strKind X.prog X.w) y vs :=
 ⟨_,es,ep,I.kIn y _ hk,⟨rfl,rfl,rfl⟩,rfl,λe he=>h2 e (by simpa using he),h1,by rw[h3];exact hn⟩
def yeU (S:Se)(X:Cx)(D:List (AR×PV))(ty:TE):TE:=λσ H Q=>ty σ H λz H2=>∃s v,z=.str s/\yaV s D=AA v/\∀x',(∀B φ H,yd X.K S.cl B φ H v x')->Q x' H2
theorem zlv (hg:Gl X x)(h:GD X.K X.w X.mg S.cl x D)(hi:PE X i ty)(hs:yc7 i)(hd:(x == ("__debug__":AR))=false:=by decide):PE X (.Subscript (.Name x p) i pos) (yeU S X D ty):=by
 obtain⟨y,es,ep,hm,hk,hsy,hr,hn⟩:=h
 obtain⟨vs,h1,h2,h3,h4,h5⟩:=hr.pairs (P:=X.prog)
 intro pins s σ H Q I q0
 refine zgG EO.lookup hs (thn (zcP (v:=.ref y) hg hm rfl hd pins s σ H (λz H1=>z=.ref y/\ty σ H1 λz H2=>∃s v,z=.str s/\yaV s D=AA v/\∀x',(∀B φ H,yd X.K S.cl B φ H v x')->Q x' H2) I ⟨rfl,q0⟩) λu s1 ⟨z,H1,I1,rz,ez,q1⟩=>thn (hi pins s1 σ H1 _ I1 q1) λiv s2 ⟨z2,H2,I2,rz2,sx,v,ez2,e,q2⟩=>?_)
 subst ez
 subst ez2
 obtain rfl:u=Ae y:=rz
 obtain⟨t,rfl⟩:=rz2
 have dd:=zhT I2 hk hn h1 h2 h3
 obtain⟨u',x',e1,e2,e3⟩:=h5 sx v e
 exact⟨dd.typeIs,GP (DZ X.prog X.w sx t) dd.mapOf e1 ⟨x',H2,I2.tok _,e2,q2 x' e3⟩⟩
theorem zog (hg:Gl X x)(h:GD X.K X.w X.mg S.cl x D)(hb:PE X b (tE S X cb))(hs:yc7 b:=by exact λ_ _=>rfl)(hd:(x == ("__debug__":AR))=false:=by decide):PE X (.Subscript (.Name x p) b pos) (tE S X (.dix D cb)) :=
 (zlv hg h hb hs hd).imp λσ H Q ⟨B,φ,st,ρ,rs,re,h⟩=>by
  simp only[ev]at h
  refine tE.bind rs re h λz H1 v st1 φ1 s1 rs1 re1 rv h1=>?_
  obtain⟨w,e,q⟩:=zag h1 rs1
  cases v with
  |str sx =>
   simp only[yd]at rv
   exact⟨sx,w,rv,e,λx' hx=>q x' H1 φ1 .rfl rs1 (hx _ _ _)⟩
  |_=>cases e
def yfJ (y:AJ)(D:List (AR×PV)):R2:=λx z H Q=>z=.ref y/\∃s,x=.str s/\Q (.bl (yaV s D).isSome) H
theorem zmf (hg:Gl X x)(h:GD X.K X.w X.mg S.cl x D)(ha:PE X a (tE S X ca))(hm:behindInMarks .In (.Name x p)=false:=by ac_rfl)(hd:(x == ("__debug__":AR))=false:=by decide):PE X (.Compare a [.In] [.Name x p] pos) (tE S X (.din ca D)):=by
 obtain⟨y,es,ep,hmg,hk,hsy,hr,hn⟩:=h
 obtain⟨vs,h1,h2,h3,h4,h5⟩:=hr.pairs (P:=X.prog)
 have op:OpR X (compareOp .In) (yfJ y D):=by
  intro pins s σ H z1 z2 v u Q I r1 r2 ⟨ez,sx,ex,q⟩
  subst ez
  subst ex
  obtain rfl:u=Ae y:=r2
  obtain⟨t,rfl⟩:=r1
  have dd:=zhT I hk hn h1 h2 h3
  refine wpAny_in_of (DZ X.prog X.w sx t) hsy dd.mapOf ⟨.bl (yaV sx D).isSome,H,I.tok _,?_,q⟩
  rw[h4];rfl
 refine(zhU op ha (zcP (v:=.ref y) hg hmg rfl hd) hm).imp λσ H Q ⟨B,φ,st,ρ,rs,re,h⟩=>?_
 simp only[ev]at h
 refine tE.bind rs re h λz H1 v st1 φ1 s1 rs1 re1 rv h1=>?_
 obtain⟨w,e,q⟩:=zag h1 rs1
 cases v with
 |str sx =>
  simp only[yd]at rv
  cases e
  exact⟨rfl,sx,rv,q _ H1 φ1 .rfl rs1 (by simp only[yd])⟩
 |_=>cases e
theorem zeM:∀(xs ys:List PV) (i:Nat) {x y:PV},xs[i]?=AA x->ys[i]?=AA y->(yaY xs ys)[i]?=AA (.tup [x,y])
 | [],_,i,_,_,h,_=>by simp at h
 |_::_,[],i,_,_,_,h=>by simp at h
 |x::xs,y::ys,0,_,_,h1,h2=>by simp at h1 h2;simp[yaY,h1,h2]
 |x::xs,y::ys,i+1,_,_,h1,h2=>by
  simp only[A9]at h1 h2
  simp only[yaY,A9]
  exact zeM xs ys i h1 h2
theorem ze2:∀(xs ys:List PV),xs.length<=ys.length->(yaY xs ys).length=xs.length
 | [],_,_=>by simp[yaY]
 |_::_,[],h=>by simp at h
 |x::xs,y::ys,h=>by simp only[yaY,A0,ze2 xs ys (by simpa using h)]
theorem zkL {k j:Bool}{vs ws:List PV}{xs ys:List V}{y z:AJ}(rt:ybW X.K B φ H k y xs)(l:yg X.K S.cl B φ H vs xs)(rt2:ybW X.K B φ H j z ys)(l2:yg X.K S.cl B φ H ws ys)(hle:vs.length<=ws.length):Drw S X B φ H (yaY vs ws) (Itz X.K y z):=by
 have hl:=l.length
 have hl2:=l2.length
 have hp:=ze2 vs ws hle
 refine⟨λφ' H' s=>⟨xs,(rt.step s).sq,by omega⟩,λi φ' H' s hi=>⟨xs,ys,xs[i]'(by omega),ys[i]'(by omega),(rt.step s).sq,(rt2.step s).sq,by simp[show i<xs.length by omega],by simp[show i<ys.length by omega]⟩,λi φ' H' st x H2 B' hB s rs hi q=>?_⟩
 obtain⟨T,hT,rfl,q⟩:=q
 obtain⟨v,hv⟩:∃v,vs[i]?=AA v:=⟨vs[i]'(by omega),by simp[show i<vs.length by omega]⟩
 obtain⟨w,hw⟩:∃w,ws[i]?=AA w:=⟨ws[i]'(by omega),by simp[show i<ws.length by omega]⟩
 obtain⟨x',hx',rv⟩:=l.get i hv
 obtain⟨y',hy',rw'⟩:=l2.get i hw
 have e:=q xs ys x' y' (rt.step s).sq (rt2.step s).sq hx' hy'
 subst e
 refine⟨.tup [v,w],zeM vs ws i hv hw,.tup_new hT rs ?_,λb o e=>by rw[zj (zl e hT)];exact e⟩
 simp only[yg]
 exact⟨x',[y'],rfl,(rv.moreB hB).step s,y',[],rfl,(rw'.moreB hB).step s,rfl⟩
theorem zmv {es:List AV}{kk:Nat}{tp:CT}(hg:Gl X "zip")(hm:X.mg "zip"=AE)(ha:PE X a (tE S X ca))(hb:PE X b (tE S X cb))(hs:starEach [a,b] X.env=[(AD,eval a X.env),(AD,eval b X.env)]:=by rfl)(hs2:starEach [b] X.env=[(AD,eval b X.env)]:=by rfl) :
  PI X (.Tuple es kk tp) (.Call (.Name "zip" p) [a,b] [] pos) (tI S X (.zip ca cb)) :=
 (zlt hg hm (zbr ha (zbr hb ybr hs2) (by rw[hs,hs2])) hs hs2).imp λσ H R ⟨B,φ,st,ρ,rs,re,h⟩=>by
  simp only[evi]at h
  refine tE.bind rs re h λx H1 v st1 φ1 s1 rs1 re1 rv h1=>tE.bind rs1 re1 h1 λy H2 w st2 φ2 s2 rs2 re2 rw h2=>?_
  obtain⟨zs,e,h2⟩:=zhX h2
  cases v with
  |tp k vs =>
   cases w with
   |tp j ws =>
    simp only[ydU]at e
    by_cases hle:vs.length<=ws.length
    .rw[if_pos hle]at e
     cases e
     simp only[yd]at rv rw
     obtain⟨a1,xs,rfl,rt,l⟩:=rv
     obtain⟨a2,ys,rfl,rt2,l2⟩:=rw
     exact⟨a1,a2,rfl,⟨xs,(rt.step s2).sq⟩,⟨ys,rt2.sq⟩,h2.ok rs2 (zkL (rt.step s2) (l.step s2) rt2 l2 hle)⟩
    .rw[if_neg hle]at e
     cases e
   |_=>cases e
  |_=>cases e
end
section
variable {K:AG}{cl:Nat->AJ}{B:AJ->Prop}{φ:Ph}{H:Hp}{st:Store}
end
section
variable {S:Se}{X:Cx}{K:AG}{cl:Nat->AJ}{σ:St}{B:AJ->Prop}{φ φ1:Ph}{H H1:Hp}{st:Store}{ρ:IC.Env}{pos p p2 px:CT}{a b c o tg l elt iter:AV}{ca cb cc ce:Ce}{ci:Cit}{ct:Tg}
end
section
variable {K:AG}{cl:Nat->AJ}{B:AJ->Prop}{φ:Ph}{H:Hp}{st:Store}
theorem FS.lookup {f:AR}:∀{fs:List (AR×PV)} {ks:List (AR×V)},FS K cl B φ H fs ks->(∀v,fs.lookup f=AA v->∃x,ks.lookup f=AA x/\yd K cl B φ H v x)/\(fs.lookup f=AE->ks.lookup f=AE)
 | [],ks,h=>by
  cases (show ks=[]from h)
  exact⟨nofun,λ_=>rfl⟩
 | (k,v)::r,ks,h=>by
  obtain⟨x,s,rfl,rv,l⟩:=h
  obtain⟨q1,q2⟩:=FS.lookup (f:=f) l
  simp only[Bs]
  cases e:f == k with
  |true=>exact⟨λw z=>by cases z;exact⟨x,rfl,rv⟩,λz=>by cases z⟩
  |false=>exact⟨q1,q2⟩
theorem FS.put {f:AR}{v:PV}{x:V}(r:yd K cl B φ H v x):∀{fs:List (AR×PV)} {ks:List (AR×V)},FS K cl B φ H fs ks->FS K cl B φ H (ybV f v fs) (ya6 f x ks)
 | [],ks,h=>by
  cases (show ks=[]from h)
  exact⟨x,[],rfl,r,rfl⟩
 | (k,w)::q,ks,h=>by
  obtain⟨y,s,rfl,ry,l⟩:=h
  simp only[ybV,ya6]
  by_cases c:k=f
  .rw[if_pos c,if_pos c];exact⟨x,s,rfl,r,l⟩
  .rw[if_neg c,if_neg c];exact⟨y,_,rfl,ry,FS.put r l⟩
theorem FS.len:∀{fs:List (AR×PV)} {ks:List (AR×V)},FS K cl B φ H fs ks->fs.length=ks.length
 | [],ks,h=>by cases (show ks=[]from h);rfl
 | (k,w)::q,ks,h=>by
  obtain⟨y,s,rfl,ry,l⟩:=h
  simp[FS.len l]
theorem yt.ins {n c:Nat}{fs:List (AR×PV)}{x:V}(rs:yt K cl B φ H st)(r:yd K cl B φ H (.loc n) x)(h:st[n]?=AA (.ins c fs)):∃y ks dx,x=.ref y/\φ[n]?=AA (AA y)/\H y=AA (.ins (cl c) dx ks)/\FS K cl B φ H fs ks:=by
 simp only[yd]at r
 obtain⟨hn,y,rfl,hy⟩:=r
 obtain⟨a,ha⟩:=rs.liv n _ h (by intro z;cases z)
 obtain⟨o,ho,ro⟩:=rs.obj n a ha
 have e:=hy a ha
 subst e
 rw[h]at ho
 cases ho
 obtain⟨ks,⟨dx,q⟩,l⟩:=ro
 exact⟨a,ks,dx,rfl,ha,q,l⟩
end
section
variable {S:Se}{X:Cx}{σ:St}{B:AJ->Prop}{φ φ1:Ph}{H H1:Hp}{st:Store}{ρ:IC.Env}{p pos pos' p2 apos:CT}{a b d o e:AV}{ca cb cc:Ce}{es:List AV}{ces:Ces}{c i k:Nat}{f m x:AR}{fa:AJ}{fd:BC}{ps:List AR}
theorem zfy {st:Store}{x v:PV}(h:ya3 c st x f=AA v):∃n fs,x=.loc n/\st[n]?=AA (.ins c fs)/\fs.lookup f=AA v:=by
 cases x with
 |loc n =>
  simp only[ya3]at h
  split at h
  .rename_i dd fs e
   split at h
   .rename_i q
    subst q
    exact⟨n,fs,rfl,e,h⟩
   .cases h
  .cases h
 |_=>cases h
theorem zfC {st st4:Store}{x v:PV}(h:ya2 c st x f v=AA st4):∃n fs,x=.loc n/\st[n]?=AA (.ins c fs)/\fs.length<1000/\st4=st.set n (.ins c (ybV f v fs)):=by
 cases x with
 |loc n =>
  simp only[ya2]at h
  split at h
  .rename_i dd fs e
   split at h
   .rename_i q
    obtain⟨q,q2⟩:=q
    subst q
    cases h
    exact⟨n,fs,rfl,e,q2,rfl⟩
   .cases h
  .cases h
 |_=>cases h
theorem zjL {st:Store}{x:PV}{t:Bool}(h:yb8 c m st x=AA t):∃n fs,x=.loc n/\st[n]?=AA (.ins c fs)/\fs.lookup m=none:=by
 cases x with
 |loc n =>
  simp only[yb8]at h
  split at h
  .rename_i dd fs e
   split at h
   .rename_i q
    obtain⟨q,q2⟩:=q
    subst q
    exact⟨n,fs,rfl,e,q2⟩
   .cases h
  .cases h
 |_=>cases h
theorem zmB (hc:Cls X.K (S.cl c))(hn:yap X.K (S.cl c) f)(ha:PE X a (tE S X ca))(hb:attributeBase a f X.env (eval a X.env)=eval a X.env:=by rfl):PE X (.Attribute a f pos) (tE S X (.fld c ca f)) :=
 (zop ha hb).imp λσ H Q ⟨B,φ,st,ρ,rs,re,h⟩=>by
  simp only[ev]at h
  refine tE.bind rs re h λx H1 v st1 φ1 s1 rs1 re1 rv h1=>?_
  obtain⟨z,e,q⟩:=zag h1 rs1
  obtain⟨n,fs,rfl,hn',l⟩:=zfy e
  obtain⟨y,ks,dx,rfl,_,hy,lr⟩:=rs1.ins rv hn'
  obtain⟨x,hx,rx⟩:=lr.lookup.1 z l
  exact⟨y,S.cl c,dx,ks,x,rfl,hy,hc,hn,hx,q x H1 φ1 .rfl rs1 rx⟩
theorem zm1 (hc:Cls X.K (S.cl c))(hn:yap X.K (S.cl c) f)(ha:PE X a (tE S X ca))(hv:PE X b (tE S X cb))(hs:swapsWith b (AA (.Attribute a f pos')) pos.line X.env=pure false:=by rfl):PS X (.Assign [.Attribute a f pos'] b pos) (tS S X (.sfl c ca f cb)) :=
 (zmt ha hv hs).imp λD σ H ⟨B,φ,st,ρ,rs,re,h⟩=>by
  simp only[ex]at h
  refine tE.fl rs re h λv' H1 v st1 φ1 s1 rs1 re1 rv h1=>tE.fl rs1 re1 h1 λx' H2 x st2 φ2 s2 rs2 re2 rx h2=>?_
  cases e:ya2 c st2 x f v with
  |none=>rw[e]at h2;exact h2.elim
  |some st4 =>
   rw[e]at h2
   obtain⟨n,fs,rfl,hn',hl,rfl⟩:=zfC e
   obtain⟨y,ks,dx,rfl,hp,hy,lr⟩:=rs2.ins rx hn'
   refine⟨y,S.cl c,dx,ks,rfl,hy,hc,hn,by rw[<- lr.len];exact hl,?_⟩
   have s4:Step φ2 H2 φ2 (L2.upd H2 y (.ins (S.cl c) dx (ya6 f v' ks))):=.put (A1 hp)
   exact h2 σ _ φ2 s4 (rs2.put (o:=.ins c (ybV f v fs)) hp ⟨_,⟨dx,zp⟩,(FS.put (rv.step s2) lr).step s4⟩) (re2.step s4)
theorem noX:ybK (CX1 X.prog X.w) X (λ_ _ _=>False):=λpins σ H s e s' _ z=>by
 obtain⟨_,_,_,_,_,_,_,_,_,_,_,_,_,_,z⟩:=z
 exact z.elim
theorem zgA {vs:List PV}{xs:List V}{Q:VK}{rs:yt X.K S.cl B φ H st}(l:yg X.K S.cl B φ H vs xs)(h:Run S X σ B φ H (RV S X B) ((ybD (S.call i (.loc st.length::vs) (st++[.ins c []]))).bind λv st2=>newV st.length v st2) Q) :
  ∀x dx,H x=AE->H dx=AE->dx≠x->spI X.K S.cl S.call i (.ref x::xs) (L2.upd (L2.upd H dx (.own x)) x (.ins (S.cl c) dx [])) (λv H2=>v=.non/\Q (.ref x) H2) (λ_ _ _=>False):=by
 intro x dx hx hdx ne
 have hx':L2.upd H dx (.own x) x=none:=by rw[zj (BG ne)];exact hx
 have t1:Step φ H φ (L2.upd H dx (.own x)):=.upd hdx
 have rs1:=rs.upd (o:=.own x) hdx
 have t2:Step φ (L2.upd H dx (.own x)) (φ++[AA x]) (L2.upd (L2.upd H dx (.own x)) x (.ins (S.cl c) dx [])):=.push hx'
 have rs2:=rs1.push hx' (rs1.nB hx') (o:=.ins c []) ⟨[],⟨dx,zp⟩,rfl⟩
 have ll:yd X.K S.cl B (φ++[AA x]) (L2.upd (L2.upd H dx (.own x)) x (.ins (S.cl c) dx [])) (.loc st.length) (.ref x):=.loc_new rs1
 refine⟨B,φ++[AA x],st++[.ins c []],.loc st.length::vs,rs2,?_,?_⟩
 .simp only[yg]
  exact⟨.ref x,xs,rfl,ll,(l.step t1).step t2⟩
 .cases e:S.call i (.loc st.length::vs) (st++[.ins c []])with
  |ok v st' =>
   rw[e]at h
   simp only[ybD,R.bind]at h
   cases v with
   |non =>
    intro z H' φ' s rs' rz
    simp only[yd]at rz
    exact⟨rz,h (.ref x) H' φ' ((t1.trans t2).trans s) rs' (ll.step s)⟩
   |_=>exact h.elim
  |exc k s=>rw[e]at h;exact h.elim
  |bad=>rw[e]at h;exact h.elim
theorem zmp (M:Mk X.K (S.cl c) fa)(F:yaJ X.prog X.w X.K X.mg X.base (CX1 X.prog X.w) k fa fd ps (spI X.K S.cl S.call i))(hr:yar (k+1) X.A)(hg:Gl X x)(hm:X.mg x=AA (.ref (S.cl c)))(hb:Binds X.K fd ps [])
  (ha:PA X (e::es) (tAs S X ces)) (hdb:(x == ("__debug__":AR))=false:=by decide) (he:starEach (e::es) X.env=(AD,eval e X.env)::starEach es X.env:=by rfl) (hpl:(backTo pos (starEach es X.env)).any (·.1)=false:=by rfl) :
  PE X (.Call (.Name x p) (e::es) [] pos) (tE S X (.new c i ces)) :=
 (zlJ M F hr hg hm hb .nil noX ha hdb he hpl).imp λσ H Q ⟨B,φ,st,ρ,rs,re,h⟩=>by
  simp only[ev]at h
  refine tAs.bind rs re h λxs H1 vs st1 φ1 s1 rs1 re1 rv h1=>?_
  rw[Ah]
  exact zgA (rs:=rs1) rv h1
noncomputable def yb5 (CX:CXT)(X:Cx)(C:AJ)(m:AR)(sp:Sp)(ta:TE)(t:TA):TE:=λσ H Q=>ta σ H λx H1=>∃y dx fs,x=.ref y/\H1 y=AA (.ins C dx fs)/\fs.lookup m=AE/\t σ H1 λvs H2=>∃E:XK,sp (.ref y::vs) H2 Q E/\∀pins s e s',Inv X pins σ H2 s->CX X.stack H2 s E e s'->X.xe e s'
theorem zir {CX:CXT}{sp:Sp}{C:AJ}{ta:TE}{t:TA}{pl:Gc Bool}(he:PE X o ta)(c:Cls X.K C)(hm:Meth X.K C m fa)(F:yaJ X.prog X.w X.K X.mg X.base CX k fa fd ps sp)(hr:yar k X.A)(hb:Binds X.K fd ps [])(ha:PA X (e::es) t)
  (hst:starEach (e::es) X.env=(AD,eval e X.env)::starEach es X.env:=by rfl) (hpl:(backTo pos (starEach es X.env)).any (·.1)=false:=by rfl)
  (ht:eval (.Call (.Attribute o m apos) (e::es) [] pos) X.env=(do
   let ov <- eval o X.env
   standAt apos.atName
   let (f,first) <- holding [ov] (getMethod ov m pl)
   callWith pos f first (backTo pos (starEach (e::es) X.env)) (backToKw pos (keywordEach [] X.env))):=by rfl) :
  PE X (.Call (.Attribute o m apos) (e::es) [] pos) (yb5 CX X C m sp ta t):=by
 intro pins s σ H Q I h
 refine FA (pl:=pl) (thn (he pins s σ H _ I h) λu s1 ⟨x,H1,I1,rx,y,dx,fs,ex,ea,l,q⟩=>?_) ht
 subst ex
 obtain rfl:u=Ae y:=rx
 refine zdu I1 ea c hm l ?_
 refine DC (first:=[.ref y]) (h₀:=X.base) I.ok.mod.kin hm.kp (thn (ha pos pins s1 σ H1 _ I1 q) λus s2 ⟨vs,H2,I2,r,E,q2,hx⟩=>⟨I2.kIn,?_⟩) hst hpl
 exact zcQ (us:=.ref y::us) (vs:=.ref y::vs) F hr hb .nil I2 (.cons rfl r) (by rw[Ah];exact q2) λe s' z=>hx pins s2 e s' I2 z
theorem zhD {CX:CXT}{sp:Sp}{C:AJ}{ta:TE}{pl:Gc Bool}(he:PE X o ta)(c:Cls X.K C)(hm:Meth X.K C m fa)(F:yaJ X.prog X.w X.K X.mg X.base CX k fa fd ps sp)(hr:yar k X.A)(hb:Binds X.K fd ps [])
  (ht:eval (.Call (.Attribute o m apos) [] [] pos) X.env=(do
   let ov <- eval o X.env
   standAt apos.atName
   let (f,first) <- holding [ov] (getMethod ov m pl)
   callWith pos f first (backTo pos (starEach [] X.env)) (backToKw pos (keywordEach [] X.env))):=by rfl) :
  PE X (.Call (.Attribute o m apos) [] [] pos) (yb5 CX X C m sp ta ydr):=by
 intro pins s σ H Q I h
 refine FA (pl:=pl) (thn (he pins s σ H _ I h) λu s1 ⟨x,H1,I1,rx,y,dx,fs,ex,ea,l,E,q2,hx⟩=>?_) ht
 subst ex
 obtain rfl:u=Ae y:=rx
 refine zdu I1 ea c hm l ?_
 exact FU (first:=[.ref y]) I1.kIn hm.kp (zcQ (us:=[.ref y]) (vs:=[.ref y]) F hr hb .nil I1 (.cons rfl .nil) q2 λe s' z=>hx pins s1 e s' I1 z)
theorem zeG {Q:VK}{t:TA}(hq:∀{H1:Hp} {φ1:Ph} {st1:Store} {P:List V->Hp->Prop} {kk:List PV->Store->R PV},yt X.K S.cl B φ1 H1 st1->yR X.K S.cl B φ1 H1 ρ σ->Run S X σ B φ1 H1 (RV S X B) ((evs S.call ρ st1 ces).bind kk) Q ->
   (∀xs H2 vs st2 φ2,Step φ1 H1 φ2 H2->yt X.K S.cl B φ2 H2 st2->yR X.K S.cl B φ2 H2 ρ σ->yg X.K S.cl B φ2 H2 vs xs->Run S X σ B φ2 H2 (RV S X B) (kk vs st2) Q->P xs H2)->t σ H1 P)
  (rs:yt X.K S.cl B φ H st) (re:yR X.K S.cl B φ H ρ σ) (h:Run S X σ B φ H (RV S X B) ((ev S.call ρ st ca).bind λx st1=>onO (yb8 c m st1 x) λ_=>(evs S.call ρ st1 ces).bind λvs st2=>S.call i (x::vs) st2) Q) :
  yb5 (CX1 X.prog X.w) X (S.cl c) m (spI X.K S.cl S.call i) (tE S X ca) t σ H Q:=by
 refine tE.bind rs re h λx H1 v st1 φ1 s1 rs1 re1 rv h1=>?_
 cases q:yb8 c m st1 v with
 |none=>rw[q]at h1;exact h1.elim
 |some b =>
  rw[q]at h1
  simp only[onO]at h1
  obtain⟨n,fs,rfl,hn,hl⟩:=zjL q
  obtain⟨y,ks,dx,rfl,_,hy,lr⟩:=rs1.ins rv hn
  refine⟨y,dx,ks,rfl,hy,lr.lookup.2 hl,hq rs1 re1 h1 λxs H2 vs st2 φ2 s2 rs2 re2 rl h2=>?_⟩
  exact zaX rs2 (by simp only[yg];exact⟨.ref y,xs,rfl,rv.step s2,rl⟩) h2
theorem znr {pl:Gc Bool}(hc:Cls X.K (S.cl c))(hm:Meth X.K (S.cl c) m fa)(F:yaJ X.prog X.w X.K X.mg X.base (CX1 X.prog X.w) k fa fd ps (spI X.K S.cl S.call i))(hr:yar k X.A)(hb:Binds X.K fd ps [])
  (ho:PE X o (tE S X ca)) (ha:PA X (e::es) (tAs S X ces))
  (hst:starEach (e::es) X.env=(AD,eval e X.env)::starEach es X.env:=by rfl) (hpl:(backTo pos (starEach es X.env)).any (·.1)=false:=by rfl)
  (ht:eval (.Call (.Attribute o m apos) (e::es) [] pos) X.env=(do
   let ov <- eval o X.env
   standAt apos.atName
   let (f,first) <- holding [ov] (getMethod ov m pl)
   callWith pos f first (backTo pos (starEach (e::es) X.env)) (backToKw pos (keywordEach [] X.env))):=by rfl) :
  PE X (.Call (.Attribute o m apos) (e::es) [] pos) (tE S X (.mcl c i m ca ces)) :=
 (zir ho hc hm F hr hb ha hst hpl ht).imp λσ H Q ⟨B,φ,st,ρ,rs,re,h⟩=>by
  simp only[ev]at h
  exact zeG (λrs1 re1 h1 n=>tAs.bind rs1 re1 h1 n) rs re h
theorem zky {pl:Gc Bool}(hc:Cls X.K (S.cl c))(hm:Meth X.K (S.cl c) m fa)(F:yaJ X.prog X.w X.K X.mg X.base (CX1 X.prog X.w) k fa fd ps (spI X.K S.cl S.call i))(hr:yar k X.A)(hb:Binds X.K fd ps [])
  (ho:PE X o (tE S X ca))
  (ht:eval (.Call (.Attribute o m apos) [] [] pos) X.env=(do
   let ov <- eval o X.env
   standAt apos.atName
   let (f,first) <- holding [ov] (getMethod ov m pl)
   callWith pos f first (backTo pos (starEach [] X.env)) (backToKw pos (keywordEach [] X.env))):=by rfl) :
  PE X (.Call (.Attribute o m apos) [] [] pos) (tE S X (.mcl c i m ca .nil)) :=
 (zhD ho hc hm F hr hb ht).imp λσ H Q ⟨B,φ,st,ρ,rs,re,h⟩=>by
  simp only[ev]at h
  refine zeG (t:=ydr) (λ{H1 φ1 st1 P kk} rs1 re1 h1 n=>?_) rs re h
  simp only[evs,R.bind]at h1
  exact n [] H1 [] st1 φ1 .rfl rs1 re1 (by simp only[yg]) h1
end
inductive ycg (w:Af)(fa:Nat->AJ):List (AR×Nat)->List CH->Prop
 | nil:ycg w fa [] []
 | cons {k:AR} {i:Nat} {t:HF} {D:List (AR×Nat)} {es:List CH} (h:ycg w fa D es):ycg w fa ((k,i)::D) (⟨EG w.params k,.str k t,.ref (fa i)⟩ :: es)
def GDF (K:AG)(w:Af)(mg:AR->Option AH)(fa:Nat->AJ)(x:AR)(D:List (AR×Nat)):Prop :=
 ∃(y:AJ) (es:Array CH) (ep:Nat),mg x=AA (.ref y)/\K.lookup y=AA ⟨.type "dict",AE,.dict es ep,#[]⟩/\ycg w fa D es.toList/\(D.map (·.1)).Nodup
theorem ycg.pairs {P:A4}{w:Af}{fa:Nat->AJ}{D:List (AR×Nat)}{es:List CH}(h:ycg w fa D es) :
  ∃vs:List (AR×AH),Pairs (strKind P w) es vs/\(∀e∈es,∃k,(strKind P w).is k e.key=AC/\e.hash=(strKind P w).hash k)/\vs.map (·.1)=D.map (·.1) /\
   ∀s i,D.lookup s=AA i->valueAt vs s=AA (.ref (fa i)):=by
 induction h with
 |nil=>exact⟨[],.nil,λe he=>(by cases he),rfl,λs v e=>by cases e⟩
 | @cons k i t D es h ih =>
  obtain⟨vs,h1,h2,h3,h5⟩:=ih
  have hat:∀s,valueAt ((k,Ae (fa i))::vs) s=if k=s then AA (.ref (fa i))else valueAt vs s:=λs=>by
   unfold valueAt
   rw[Bz]
   by_cases e:k=s
   .simp[e]
   .simp[e]
  refine⟨(k,.ref (fa i))::vs,.cons (DZ P w k t) rfl h1,λe he=>?_,by rw[AM,AM,h3],λs j e=>?_⟩
  .rcases AU.1 he with rfl|he
   .exact⟨k,DZ P w k t,rfl⟩
   .exact h2 e he
  .rw[hat]
   simp only[Bs]at e
   by_cases q:k=s
   .subst q
    rw[beq_self_eq_true]at e
    cases e
    rw[if_pos rfl]
   .rw[beq_eq_false_iff_ne.2 (BG q)]at e
    rw[if_neg q]
    exact h5 s j e
section
variable {S:Se}{X:Cx}{σ:St}{B:AJ->Prop}{φ:Ph}{H:Hp}{st:Store}{ρ:IC.Env}{pos p p1 p2 p3 p4 p5 p6 p7:CT}{a b i e n:AV}{es:List AV}{ca cn:Ce}{ces:Ces}{x y:AR}{D:List (AR×Nat)}{ty:TE}{t:TA}{fa:Nat->AJ}{fdd:Nat->BC}{ps:Nat->List AR}{k ix:Nat}
noncomputable def ydC (D:List (AR×Nat))(fa:Nat->AJ)(ty:TE):TE:=λσ H Q=>ty σ H λz H2=>∃s j,z=.str s/\D.lookup s=AA j/\Q (.ref (fa j)) H2
theorem zju (hg:Gl X x)(h:GDF X.K X.w X.mg fa x D)(hi:PE X i ty)(hs:yc7 i)(hd:(x == ("__debug__":AR))=false:=by decide):PE X (.Subscript (.Name x p) i pos) (ydC D fa ty):=by
 obtain⟨y,es,ep,hm,hk,hr,hn⟩:=h
 obtain⟨vs,h1,h2,h3,h5⟩:=hr.pairs (P:=X.prog)
 intro pins s σ H Q I q0
 refine zgG EO.lookup hs (thn (zcP (v:=.ref y) hg hm rfl hd pins s σ H (λz H1=>z=.ref y/\ty σ H1 λz H2=>∃s j,z=.str s/\D.lookup s=AA j/\Q (.ref (fa j)) H2) I ⟨rfl,q0⟩) λu s1 ⟨z,H1,I1,rz,ez,q1⟩=>thn (hi pins s1 σ H1 _ I1 q1) λiv s2 ⟨z2,H2,I2,rz2,sx,j,ez2,e,q2⟩=>?_)
 subst ez
 subst ez2
 obtain rfl:u=Ae y:=rz
 obtain⟨t,rfl⟩:=rz2
 have dd:s2.heap.DictOf (strKind X.prog X.w) y vs:=⟨_,es,ep,I2.kIn y _ hk,⟨rfl,rfl,rfl⟩,rfl,λe he=>h2 e (by simpa using he),h1,by rw[h3];exact hn⟩
 exact⟨dd.typeIs,GP (DZ X.prog X.w sx t) dd.mapOf (h5 sx j e) ⟨.ref (fa j),H2,I2.tok _,rfl,q2⟩⟩
structure Makers (S:Se)(X:Cx)(k:Nat)(D:List (AR×Nat))(fa:Nat->AJ)(fdd:Nat->BC)(ps:Nat->List AR):Prop where
 F:∀s j,D.lookup s=AA j->yaJ X.prog X.w X.K X.mg X.base (CX1 X.prog X.w) k (fa j) (fdd j) (ps j) (spI X.K S.cl S.call j)
 kp:∀s j,D.lookup s=AA j->As X.K (.ref (fa j))=AC
 b:∀s j,D.lookup s=AA j->Binds X.K (fdd j) (ps j) []
def ydj (S:Se)(X:Cx)(D:List (AR×Nat))(fa:Nat->AJ)(ix:Nat)(t:TA):TE:=λσ H Q=>∃s j,D.lookup s=AA j/\σ[ix]?=AA (AA (.ref (fa j)))/\t σ H λvs H1=>∃E:XK,spI X.K S.cl S.call j vs H1 Q E/\∀pins s e s',Inv X pins σ H1 s->CX1 X.prog X.w X.stack H1 s E e s'->X.xe e s'
theorem zjj (M:Makers S X k D fa fdd ps)(hr:yar k X.A)(hN:X.N[ix]?=AA x)(hv:Vis X.env.scope x)(ha:PA X (e::es) t)
  (hd:(x == ("__debug__":AR))=false:=by decide) (hcd:(x == ("__classdict__":AR))=false:=by decide) (he:starEach (e::es) X.env=(AD,eval e X.env)::starEach es X.env:=by rfl) (hpl:(backTo pos (starEach es X.env)).any (·.1)=false:=by rfl) :
  PE X (.Call (.Name x p) (e::es) [] pos) (ydj S X D fa ix t):=by
 intro pins s σ H Q I ⟨sx,j,hl,hs,h⟩
 refine B4 (thn (zjO hN hv hd hcd pins s σ H (λz H1=>z=.ref (fa j)/\t σ H1 λvs H1=>∃E:XK,spI X.K S.cl S.call j vs H1 Q E/\∀pins s e s',Inv X pins σ H1 s->CX1 X.prog X.w X.stack H1 s E e s'->X.xe e s') I ⟨_,hs,rfl,h⟩) λu s1 ⟨z,H1,I1,rz,ez,q1⟩=>?_)
 subst ez
 obtain rfl:u=Ae (fa j):=rz
 refine DC (h₀:=X.base) I.ok.mod.kin (M.kp sx j hl) (thn (ha pos pins s1 σ H1 _ I1 q1) λus s2 ⟨vs,H2,I2,r,E,q,hx⟩=>⟨I2.kIn,?_⟩) he hpl
 exact zcQ (M.F sx j hl) hr (M.b sx j hl) .nil I2 r (by rw[Ah];exact q) λe s' c=>hx pins s2 e s' I2 c
theorem yR.hole {K:AG}{cl:Nat->AJ}{v:V}(re:yR K cl B φ H ρ σ):yR K cl B φ H (ρ.set ix AE) (σ.set ix (AA v)):=by
 refine⟨by simp[re.len],λj w e=>?_⟩
 by_cases q:ix=j
 .subst q
  by_cases hj:ix<ρ.length
  .rw[A5 hj]at e;cases e
  .rw[BI (by simp;omega)]at e;cases e
 .rw[AO q]at e ⊢
  exact re.get j w e
theorem zjs {v:PV}{j:Nat}{b:Bool}(h:mkV D b v=AA j):∃s,v=.str s/\D.lookup s=AA j/\b=true:=by
 cases v with
 |str s =>
  cases b with
  |true=>exact⟨s,rfl,h,rfl⟩
  |false=>cases h
 |_=>cases h
theorem zm9 (M:Makers S X k D fa fdd ps)(hr:yar k X.A)(hN:X.N.Nodup)(hi:X.N[ix]?=AA x)(hx:Loc X.env.scope x)(hv:Vis X.env.scope x)(hg:Gl X y)(hd:GDF X.K X.w X.mg fa y D)(hn:PE X n (tE S X cn))(ha:PA X (e::es) (tAs S X ces))
  (hs:yc7 n:=by exact λ_ _=>rfl) (hsw:swapsWith (.Subscript (.Name y p2) n p3) (AA (.Name x p1)) p4.line X.env=pure false:=by rfl) (hf:X.fn x=AC \/ X.env.scope.names.lookup x=AA .local:=by first|exact .inl rfl|exact .inr rfl|assumption)
  (hyd:(y == ("__debug__":AR))=false:=by decide) (hxd:(x == ("__debug__":AR))=false:=by decide) (hcd:(x == ("__classdict__":AR))=false:=by decide) (he:starEach (e::es) X.env=(AD,eval e X.env)::starEach es X.env:=by rfl) (hpl:(backTo p6 (starEach es X.env)).any (·.1)=false:=by rfl) :
  PSs X [.Assign [.Name x p1] (.Subscript (.Name y p2) n p3) p4,.Return (AA (.Call (.Name x p5) (e::es) [] p6)) p7] (tSs S X (.cons (.mkr ix D cn ces) .nil)) :=
 (zft (zjP hN hi hx (zju hg hd hn hs hyd) hsw hf) (zl1 (zkn (zjj M hr hi hv ha hxd hcd he hpl)))).imp λD' σ H ⟨B,φ,st,ρ,rs,re,h⟩=>by
  have h:yaH S X B φ H (ex S.call ρ st (.mkr ix D cn ces)) D':=by
   simp only[exs]at h
   cases q:ex S.call ρ st (.mkr ix D cn ces)with
   |nx ρ' s' =>
    exfalso
    simp only[ex]at q
    cases q1:ev S.call ρ st cn with
    |ok v1 s1 =>
     rw[q1]at q
     simp only[R.fl]at q
     split at q
     .rename_i j _
      cases q2:(evs S.call (ρ.set ix AE) s1 ces).bind λvs st2=>S.call j vs st2 with
      |ok v2 s2=>rw[q2]at q;cases q
      |exc c s2=>rw[q2]at q;cases q
      |bad=>rw[q2]at q;cases q
     .cases q
    |exc c s1=>rw[q1]at q;cases q
    |bad=>rw[q1]at q;cases q
   |rt v s'=>rw[q]at h;exact h
   |bk ρ' s'=>rw[q]at h;exact h
   |ct ρ' s'=>rw[q]at h;exact h
   |exc c ρ' s'=>rw[q]at h;exact h
   |bad=>rw[q]at h;exact h
  simp only[ex]at h
  refine tE.fl rs re h λx' H1 v st1 φ1 s1 rs1 re1 rv h1=>?_
  cases q:mkV D (decide (ix<ρ.length)) v with
  |none=>rw[q]at h1;exact h1.elim
  |some j =>
   rw[q]at h1
   obtain⟨sx,rfl,hl,hb⟩:=zjs q
   simp only[yd]at rv
   subst rv
   have hlen:ix<σ.length:=by
    rw[<- re1.len]
    exact of_decide_eq_true hb
   refine⟨sx,j,rfl,hl,sx,j,hl,by rw[A5 hlen],B,φ1,st1,ρ.set ix AE,rs1,re1.hole,?_⟩
   dsimp only at h1
   cases q2:evs S.call (ρ.set ix AE) st1 ces with
   |bad=>rw[q2]at h1;exact h1
   |exc c s2=>rw[q2]at h1;exact λe s' z=>h1 _ φ1 H1 e s' .rfl re1.hole z
   |ok vs st2 =>
    rw[q2]at h1
    intro xs H2 φ2 s2 rs2 rl
    have h2:yaH S X B φ1 H1 ((S.call j vs st2).fl (ρ.set ix AE) λv st3=>.rt v st3) D':=h1
    refine zaX rs2 rl ?_
    cases q3:S.call j vs st2 with
    |bad=>rw[q3]at h2;exact h2
    |ok v st3=>rw[q3]at h2;exact λx H' φ' s' rs' rv=>h2 x H' φ' (s2.trans s') rs' rv
    |exc c st3=>rw[q3]at h2;exact λe s' z=>h2 _ φ2 H2 e s' s2 (re1.hole.step s2) z
end
section
variable {P:A4}{w:Af}{K:AG}{mg:AR->Option AH}{base:BB}{cl:Nat->AJ}{T:Nat->Option IC.Fn}{fi:Nat}{fn:IC.Fn}{x qual:AR}{stm:Bv}{f:AJ}{fd:BC}{N ps:List AR}{k m:Nat}
theorem zjI:yaJ P w K mg base (CX1 P w) m f fd ps (spI K cl (yc T 0) fi) :=
 ⟨λvs H Q E ⟨_,_,_,_,_,_,h⟩=>by rw[yc]at h;exact h.elim,λA outer s H args us vs Q E _ _ _ _ ⟨_,_,_,_,_,_,h⟩=>by rw[yc]at h;exact h.elim⟩
end
theorem ydh.units {k:Nat}{A:Ar}(r:ydh k A):A.units+64<cLine:=by have:=r.un;omega
section
variable {P:A4}{w:Af}{K:AG}{mg:AR->Option AH}{base:BB}{cl:Nat->AJ}{T:Nat->Option IC.Fn}{fi:Nat}{fn:IC.Fn}{x qual:AR}{stm:Bv}{f:AJ}{fd:BC}{N ps:List AR}{k m:Nat}
end
section
variable {S:Se}{X:Cx}{σ:St}{B:AJ->Prop}{φ:Ph}{H:Hp}{st:Store}{ρ:IC.Env}{p pos:CT}{e:AV}{es:List AV}{ces:Ces}{fi k:Nat}{x:AR}{f:AJ}{fd:BC}{ps:List AR}
end
end L2
namespace L2
open PySem IC
section
variable {S:Se}{X:Cx}{σ:St}{B:AJ->Prop}{φ φ1:Ph}{H H1:Hp}{st:Store}{ρ:IC.Env}{p pos p2 px py pt pt2:CT}{a b c d o a' b' c' d':AV}{ca cb cc cd ce cf:Ce}{pins:List (AJ×CB)}{s:AK}{kt k2:Nat}{es:List AV}{ces:Ces}{x:AR}
end
end L2
namespace L2
open PySem PySem.Spec PyProof.Rows
section
variable {X:Cx}
end
end L2
namespace L2
open PySem PySem.Spec PyProof.Rows IC
section
variable {S:Se}{X:Cx}{σ:St}{B:AJ->Prop}{φ φ1:Ph}{H H1:Hp}{st:Store}{ρ:IC.Env}{p pos p2 apos:CT}{a b c d:AV}{ca cb cc:Ce}{es:List AV}{ces:Ces}{K:AG}{cl:Nat->AJ}
end
section
variable {S:Se}{X:Cx}{a b:AV}{c i:Nat}{j:Int}{f:AR}{pos tpos:CT}
theorem zmQ (hc:Cls X.K (S.cl c))(hn:yap X.K (S.cl c) f)(ha:PE X a (tE S X (.var i)))(hv:PE X b (tE S X (.cst (.int j)))) :
  PS X (.AugAssign (.Attribute a f tpos) .Add b pos) (tS S X (.sfl c (.var i) f (.bin .add (.fld c (.var i) f) (.cst (.int j))))) :=
 (zhp ha hv zn4).imp λD σ H ⟨B,φ,st,ρ,rs,re,h⟩=>by
  simp only[ex,ev]at h
  cases q:ρ[i]? with
  |none=>rw[q]at h;exact h.elim
  |some o =>
   cases o with
   |none=>rw[q]at h;exact h.elim
   |some x =>
    rw[q]at h
    dsimp only[R.bind]at h
    refine⟨B,φ,st,ρ,rs,re,?_⟩
    simp only[ev,q]
    intro x' H1 φ1 s1 rs1 rx
    have re1:=re.step s1
    have h:=yaH.on s1 h
    cases e:ya3 c st x f with
    |none=>rw[e]at h;exact h.elim
    |some v =>
     rw[e]at h
     obtain⟨n,fs,rfl,hn',l⟩:=zfy e
     obtain⟨y,ks,dx,rfl,hp,hy,lr⟩:=rs1.ins rx hn'
     obtain⟨x,hx,rxv⟩:=lr.lookup.1 v l
     refine⟨y,S.cl c,dx,ks,x,rfl,hy,hc,hn,hx,⟨B,φ1,st,ρ,rs1,re1,?_⟩⟩
     simp only[ev]
     intro y' H2 φ2 s2 rs2 ry
     simp only[yd]at ry
     subst ry
     cases v with
     |int k =>
      simp only[yd]at rxv
      subst rxv
      refine⟨k,j,rfl,rfl,?_⟩
      have h:yaH S X B φ1 H1 (match ya2 c st (.loc n) f (.int (k+j))with|some st3=>Fl.nx ρ st3|none=>Fl.bad) D:=h
      have h:=yaH.on s2 h
      have rx2:=rx.step s2
      obtain⟨y2,ks2,dx2,e2,hp2,hy2,lr2⟩:=rs2.ins rx2 hn'
      cases e2
      cases e3:ya2 c st (.loc n) f (.int (k+j))with
      |none=>rw[e3]at h;exact h.elim
      |some st4 =>
       rw[e3]at h
       obtain⟨n',fs',z,hn2,hl,rfl⟩:=zfC e3
       cases z
       rw[hn']at hn2
       cases hn2
       refine⟨dx2,ks2,hy2,by rw[<- lr2.len];exact hl,?_⟩
       have s4:Step φ2 H2 φ2 (L2.upd H2 y (.ins (S.cl c) dx2 (ya6 f (.int (k+j)) ks2))):=.put (A1 hp2)
       exact h σ _ φ2 s4 (rs2.put (o:=.ins c (ybV f (.int (k+j)) fs)) hp2 ⟨_,⟨dx2,zp⟩,(FS.put (by simp only[yd]) lr2).step s4⟩) ((re1.step s2).step s4)
     |_=>exact h.elim
end
end L2
namespace HT
open PySem PySem.Spec PyProof.Rows
section
variable {prog:A4}{w:Af}{A:Ar}{E:AH->AK->Prop}{s:AK}
theorem zgv (n:Nat):BU ((n:Int) - 1) (-1) (-1)=n:=by
 unfold BU
 rw[if_neg (by decide)]
 by_cases h:(n:Int) - 1 > -1
 .rw[if_pos h]
  have:-(-1:Int)=1:=rfl
  rw[this,Dn];omega
 .rw[if_neg h];omega
theorem zce {sl:AJ}{n:Nat}{t:HF}{Q:Int×Int×Nat->AK->Prop}(hs:s.heap.IsSliceOf sl .none .none (.int (-1) t))
  (h:Q ((n:Int) - 1,-1,n) s):AZ (model prog w) A (CM (.ref sl) (pure (n:Int))) Q E s:=by
 obtain⟨os,hos,hcs,hds⟩:=id hs
 unfold CM EK
 refine AI (AI (BN hos hds (x:=.none) rfl (AI (BN hos hds (x:=.none) rfl (AI (BN hos hds (x:=.int (-1) t) rfl (AQ ?_)))))))
 refine AI (slicePart_int ?_)
 show AZ _ _ (if ((-1:Int) == 0)=AC then _ else _) _ _ s
 rw[if_neg (by decide)]
 refine AI (EA (AI (EA (AI (AQ ?_)))))
 show AZ _ _ (pure ((n:Int) - 1,(-1:Int),BU ((n:Int) - 1) (-1) (-1))) _ _ s
 rw[zgv]
 exact AQ h
theorem zfY {α β:Type}{f g:α->Option β}:∀l:List α,(∀x∈l,f x=g x)->l.filterMap f=l.filterMap g
 | [],_=>rfl
 |a::l,h=>by
  rw[Bn,Bn,h a Ai,zfY l λx hx=>h x (AS _ hx)]
theorem ziX (l:List AH):((C2 l.toArray.size).filterMap λ(m:Nat)=>l.toArray[((l.toArray.size:Int) - 1+(m:Int)*(-1)).toNat]?)=l.reverse:=by
 refine DP λi=>?_
 have e:∀m:Nat,m<l.length->l.toArray[((l.toArray.size:Int) - 1+(m:Int)*(-1)).toNat]?=AA (l.reverse.getD m .none):=λm hm=>by
  rw[AW,show ((l.length:Int) - 1+(m:Int)*(-1)).toNat=l.length - 1 - m by omega]
  rw[List.getElem?_toArray,EH,List.getElem?_reverse hm,Bq (by omega)]
  rfl
 have e2:((C2 l.toArray.size).filterMap λ(m:Nat)=>l.toArray[((l.toArray.size:Int) - 1+(m:Int)*(-1)).toNat]?)=(C2 l.length).map λm=>l.reverse.getD m .none:=by
  rw[<- List.filterMap_eq_map,AW]
  refine zfY _ λm hm=>?_
  have:=e m (FB.1 hm)
  rw[AW]at this
  exact this
 rw[e2,Bm]
 by_cases hi:i<l.length
 .rw[List.getElem?_range hi]
  show AA (l.reverse.getD i .none)=_
  rw[EH,Bq (by simpa using hi)]
  rfl
 .rw[BI (by simpa using hi),BI (by simpa using hi)]
  rfl
theorem getItem_tuple_rev {t sl:AJ}{l:List AH}{tk:HF}{Q:AH->AK->Prop}(ht:Gg s.heap t l.toArray)(hs:s.heap.IsSliceOf sl .none .none (.int (-1) tk))
  (h:Q (.ref s.heap.objs.size) { s with heap:=s.heap.push { cls:=.type "tuple",data:=.seq l.reverse.toArray } })
  (hsz:l.length<=sizeLine):AZ (model prog w) A (getItem (.ref t) (.ref sl)) Q E s:=by
 have htake:sizeOk (.seq l.reverse.toArray):=by
  show l.reverse.toArray.size<=sizeLine
  rw[AW,Dl];exact hsz
 obtain⟨os,hos,hcs,hds⟩:=id hs
 have hTs:s.TypeIs (.ref sl) "slice":=⟨os,hos,hcs⟩
 unfold getItem
 try with_reducible refine Cv ?_
 first|refine AI (AQ ?_)|skip
 refine AI (ES ht.typeIs (by decide) ?_)
 refine AI (B1 (name:=AF "__getitem__") ht.typeIs Ab
  (CG Ab ht.typeIs Dj ?_ (EB _ _)))
 show AZ _ _ (Cg (.ref t) >>= _) _ _ s
 refine AI (EL ht ?_)
 refine AI (Ei hTs ?_)
 rw[if_pos (by decide)]
 refine AI (zce hs ?_)
 have hno:¬((((l.toArray.size:Int) - 1) == 0 && (-1:Int) == 1 && l.toArray.size == l.toArray.size)=AC):=by
  intro q
  rw[AL,AL]at q
  exact absurd q.1.2 (by decide)
 show AZ _ _ (if (((l.toArray.size:Int) - 1) == 0 && (-1:Int) == 1 && l.toArray.size == l.toArray.size)=AC then _ else _) _ _ s
 rw[if_neg hno,ziX]
 first
  | exact AI (m:=BQ _) (BM (AQ ⟨_,rfl,AQ h⟩) htake)
  | exact AI (m:=BQ _) (BM (AI (AQ (AQ ⟨_,rfl,AQ h⟩))) htake)
  | exact AI (AI (m:=BQ _) (BM (AQ (AQ ⟨_,rfl,AQ h⟩)) htake))
  | exact AI (AI (m:=BQ _) (BM (AQ ⟨_,rfl,AQ h⟩) htake))
end
end HT
namespace L2
open PySem PySem.Spec PyProof.Rows IC
section
variable {S:Se}{X:Cx}{pos p2:CT}{e e3:AV}{te t3:TE}{a:AV}{ca c3:Ce}
theorem znX (he:PE X e te)(h3:PE X e3 t3):PE X (.Subscript e (.Slice AE AE (AA e3) p2) pos) (λσ H Q=>te σ H λx H1=>t3 σ H1 λk H2=>k=.int (-1)/\∃a xs,x=.ref a/\((SqT X.K H2 a xs/\∀p,H2 p=AE->Q (.ref p) (upd H2 p (.tup xs.reverse))) \/ (SqL X.K H2 a xs/\∀p,H2 p=AE->Q (.ref p) (upd H2 p (.lst xs.reverse))))):=by
 intro pins s σ H Q I h
 refine F8 (thn (he pins s σ H _ I h) λv s1 ⟨x,H1,I1,r1,q1⟩=>?_)
 refine wpAny_Slice ?_
 rw[FY]
 refine AQ (AQ ?_)
 show AZ _ _ (eval e3 X.env) _ _ s1
 refine thn (h3 pins s1 σ H1 _ I1 q1) λvk s3 ⟨k,H3,I3,rk,ek,a,xs,ex,q⟩=>?_
 subst ek ex
 obtain⟨tk,rfl⟩:=rk
 cases r1
 have I4:Inv X pins σ H3 { s3 with heap:=s3.heap.push { cls:=.type "slice",data:=.fields #[.none,.none,.int (-1) tk] } }:=I3.kept (t':=s3.toks) λb ob q=>AN _ q
 rcases q with⟨hx,q⟩|⟨hx,q⟩
 .obtain⟨its,r,ht,hz⟩:=I4.tuple hx
  have hg:AZ (model X.prog X.w) X.A (getItem (.ref a) (.ref s3.heap.objs.size)) (EP X pins σ Q) X.xe { s3 with heap:=s3.heap.push { cls:=.type "slice",data:=.fields #[.none,.none,.int (-1) tk] } }:=by
   refine HT.getItem_tuple_rev ht (EC ..) ?_ (by rw[<- r.length];exact hz)
   refine⟨.ref _,_,I4.laid (t':=s3.toks) (o:=.tup xs.reverse) (λb ob q=>AN _ q) (AT _) ?_,rfl,q _ (I4.hok.fresh (AT _))⟩
   exact⟨by rw[Dl];exact hz,_,r.reverse,FO _ _⟩
  show AZ (model X.prog X.w) X.A (subscriptTail e (.Slice AE AE (AA e3) p2) (.ref a) (.ref s3.heap.objs.size)) (EP X pins σ Q) X.xe { s3 with heap:=s3.heap.push { cls:=.type "slice",data:=.fields #[.none,.none,.int (-1) tk] } }
  exact G5 (ops:=[.ref a,.ref s3.heap.objs.size]) ht.typeIs Ab.lookup hg (by ac_rfl)
 .obtain⟨its,r,ht,hz⟩:=I4.list hx
  have hlen:=r.length
  have hg:AZ (model X.prog X.w) X.A (getItem (.ref a) (.ref s3.heap.objs.size)) (EP X pins σ Q) X.xe { s3 with heap:=s3.heap.push { cls:=.type "slice",data:=.fields #[.none,.none,.int (-1) tk] } }:=by
   refine EZ ht.isList (EC ..) .none .none (.int (-1) tk) (by decide) ?_ (by rw[AW] <;> omega)
   rw[PySem.W.krv_pick]
   refine⟨.ref _,_,I4.laid (t':=s3.toks) (o:=.lst xs.reverse) (λb ob q=>AN _ q) (AT _) ?_,rfl,q _ (I4.hok.fresh (AT _))⟩
   exact⟨by rw[Dl];exact hz,its.reverse,0,r.reverse,A2 _ rfl⟩
  show AZ (model X.prog X.w) X.A (subscriptTail e (.Slice AE AE (AA e3) p2) (.ref a) (.ref s3.heap.objs.size)) (EP X pins σ Q) X.xe { s3 with heap:=s3.heap.push { cls:=.type "slice",data:=.fields #[.none,.none,.int (-1) tk] } }
  exact G5 (ops:=[.ref a,.ref s3.heap.objs.size]) ht.isList.typeIs ET.lookup hg (by ac_rfl)
theorem yg.reverse {K:AG}{cl:Nat->AJ}{B:AJ->Prop}{φ:Ph}{H:Hp}:∀{vs:List PV} {xs:List V},yg K cl B φ H vs xs->yg K cl B φ H vs.reverse xs.reverse
 | [],xs,h=>by
  simp only[yg]at h
  subst h
  simp only[List.reverse_nil,yg]
 |v::vs,xs,h=>by
  simp only[yg]at h
  obtain⟨y,ys,rfl,r,l⟩:=h
  rw[DJ,DJ]
  exact(yg.reverse l).append (by simp only[yg];exact⟨y,[],rfl,r,rfl⟩)
theorem zhy {α β γ:Type}(r:R α)(f:α->Store->R β)(g:β->Store->R γ):(r.bind f).bind g=r.bind λv s=>(f v s).bind g:=by cases r <;> rfl
theorem zon (ha:PE X a (tE S X ca))(h3:PE X e3 (tE S X (.neg (.cst (.int 1))))):PE X (.Subscript a (.Slice AE AE (AA e3) p2) pos) (tE S X (.blt .rev (.cons ca .nil))) :=
 (znX ha h3).imp λσ H Q ⟨B,φ,st,ρ,rs,re,h⟩=>by
  simp only[ev,evs,zhy]at h
  refine tE.bind rs re h λx H1 v st1 φ1 s1 rs1 re1 rv h1=>?_
  refine⟨B,φ1,st1,ρ,rs1,re1,?_⟩
  obtain⟨z,ez,q⟩:=zag h1 rs1
  simp only[ev,R.bind]
  intro y H2 φ2 s2 rs2 ry
  simp only[yd]at ry
  refine⟨ry,?_⟩
  unfold yay at ez
  cases v with
  |tp k vs =>
   simp only[yeO]at ez
   split at ez
   .cases ez
   .cases ez
    have rv2:=rv.step s2
    simp only[yd]at rv2
    obtain⟨p,xs,rfl,r1,l1⟩:=rv2
    exact⟨p,xs,rfl,.inl ⟨r1.sq,λt ht=>q _ _ φ2 (s2.trans (.upd ht)) (rs2.upd ht) (.tup_new ht rs2 l1.reverse)⟩⟩
  |lst vs =>
   simp only[yeO]at ez
   cases ez
   have rv2:=rv.step s2
   simp only[yd]at rv2
   obtain⟨p,xs,rfl,r1,l1⟩:=rv2
   exact⟨p,xs,rfl,.inr ⟨r1.sq,λt ht=>q _ _ φ2 (s2.trans (.upd ht)) (rs2.upd ht) (.lst_new ht rs2 l1.reverse)⟩⟩
  |_=>cases ez
end
section
variable {X:Cx}{prog:A4}{w:Af}{A:Ar}{E:AH->AK->Prop}{s:AK}
end
section
variable {S:Se}{X:Cx}{pos px:CT}{a:AV}{ca:Ce}
end
end L2
namespace L2
open PySem PySem.Spec PyProof.Rows IC WK
inductive GK where
 | fn (i:Nat)|fnD (i:Nat)|cst (v:PV)|dct (D:List (AR×PV))|exc (c:Nat)|cls (c i:Nat)
structure Gs where
 g:AR->Option GK
 b:AR->Bool
 t:Ty->Bool
 fl:Nat->AR->Bool
 me:Nat->AR->Option Nat
 kb:Nat->Nat->List AR->Option (List (Option Int))
 mr:AR->Option (List (AR×Nat))
structure Kx where
 N:List AR
 sc:Bi
 own:Bool
def Fo (m:Nat)(S:Se)(X:Cx)(i:Nat)(f:AJ)(fd:BC)(ps:List AR):Prop:=yaJ X.prog X.w X.K X.mg X.base (CX1 X.prog X.w) m f fd ps (spI X.K S.cl S.call i)
structure Glo (γ:Gs)(m:Nat)(S:Se)(X:Cx):Prop where
 F:∀x i,γ.g x=AA (.fn i)->∃f fd ps,Fo m S X i f fd ps/\X.mg x=AA (.ref f)/\As X.K (.ref f)=AC/\Binds X.K fd ps []
 Q:∀x i np ks sh,γ.g x=AA (.fnD i)->γ.kb i np ks=AA sh->∃f fd ps,Fo m S X i f fd ps/\X.mg x=AA (.ref f)/\As X.K (.ref f)=AC/\∃g,ybH X.K fd ps ks g (gK np sh)
 C:∀x v,γ.g x=AA (.cst v)->GC X.K X.mg S.cl x v \/ ∃i,v=.int i/\GCI X.mg x i
 D:∀x d,γ.g x=AA (.dct d)->GD X.K X.w X.mg S.cl x d
 E:∀x c,γ.g x=AA (.exc c)->ydg X.K X.mg (S.cl c) x
 N:∀x c i,γ.g x=AA (.cls c i)->X.mg x=AA (.ref (S.cl c))/\∃f fd ps,Mk X.K (S.cl c) f/\Fo m S X i f fd ps/\Binds X.K fd ps []
 B:∀x,γ.b x=AC->X.mg x=AE
 T:∀t,γ.t t=AC->yd5 X.K t
 A:∀c f,γ.fl c f=AC->Cls X.K (S.cl c)/\yap X.K (S.cl c) f
 M:∀c n i,γ.me c n=AA i->Cls X.K (S.cl c)/\∃f fd ps,Meth X.K (S.cl c) n f/\Fo m S X i f fd ps/\Binds X.K fd ps []
 K:∀y D,γ.mr y=AA D->∃fa fdd ps,Makers S X m D fa fdd ps/\GDF X.K X.w X.mg fa y D
structure Good (γ:Gs)(κ:Kx)(m:Nat)(S:Se)(X:Cx):Prop where
 n:X.N=κ.N
 sc:X.env.scope=κ.sc
 calm:X.calm=AC
 room:yar (m+1) X.A
 own:κ.own=AC->E6 (model X.prog X.w) X.A X.env X.xe/\(∀x,X.fn x=AC)/\S.may=AC
 glo:Glo γ m S X
noncomputable abbrev Pr (P:Prop):Type:=Option (PLift P)
abbrev YE (γ:Gs)(κ:Kx)(e:AV)(c:Ce):Prop:=∀m S X,Good γ κ m S X->PE X e (tE S X c)
abbrev YT (γ:Gs)(κ:Kx)(e:AV)(c:Ce):Prop:=∀m S X,Good γ κ m S X->PT X e (tTs S X c)
abbrev YW (γ:Gs)(κ:Kx)(e:AV)(c:Ce):Prop:=∀m S X,Good γ κ m S X->PW X e (tTs S X c)
abbrev YA (γ:Gs)(κ:Kx)(e:List AV)(c:Ces):Prop:=∀m S X,Good γ κ m S X->PA X e (tAs S X c)
abbrev YO (γ:Gs)(κ:Kx)(e:Option AV)(c:Ce):Prop:=∀m S X,Good γ κ m S X->PO X e (tO S X c)
abbrev YS (γ:Gs)(κ:Kx)(s:Bv)(c:Cs):Prop:=∀m S X,Good γ κ m S X->PS X s (tS S X c)
abbrev YSs (γ:Gs)(κ:Kx)(s:List Bv)(c:Css):Prop:=∀m S X,Good γ κ m S X->PSs X s (tSs S X c)
noncomputable def an {P Q:Prop}(a:Pr P)(k:P->Pr Q):Pr Q:=match a with
 |some h=>k h.down
 |none=>AE
noncomputable def ok {P:Prop}(h:P):Pr P:=AA ⟨h⟩
noncomputable def ask (p:Prop)[Decidable p]:Pr p:=if h:p then AA ⟨h⟩else AE
noncomputable def nst:AV->Bool
 | .Starred _ _=>AD
 |_=>AC
theorem yae {a:AV}{es:List AV}{env:B2}(h:nst a=AC):starEach (a::es) env=(AD,eval a env)::starEach es env:=by
 cases a <;> first|rfl|cases h
def yb0 (es:List AV):Bool:=es.all nst
theorem stars {pos:CT}{env:B2}:∀{es:List AV},yb0 es=AC->(backTo pos (starEach es env)).any (·.1)=AD
 | [],_=>rfl
 |a::es,h=>by
  simp only[yb0,Bc,AL]at h
  rw[yae h.1]
  have:=stars (pos:=pos) (env:=env) (es:=es) h.2
  simpa [backTo] using this
noncomputable def nco:AV->Bool
 | .ListComp ..=>AD
 | .SetComp ..=>AD
 | .DictComp ..=>AD
 |_=>AC
theorem swp {a:AV}{t:Option AV}{l:Nat}{env:B2}(h:nco a=AC):swapsWith a t l env=pure false:=by
 cases a <;> first|rfl|cases h
noncomputable def nse:AV->Bool
 | .Set ..=>AD
 |_=>AC
theorem fse {a:AV}{env:B2}(h:nse a=AC):∀x,foldedSetIterable a env x=pure x:=by
 cases a <;> first|exact λ_=>rfl|cases h
theorem nmk {op:FW}{a:AV}(h:nse a=AC):behindInMarks op a=false:=by
 cases a <;> first|rfl|cases h
noncomputable def nsl:AV->Bool
 | .Slice ..=>AD
 |_=>AC
theorem pix {a:AV}(h:nsl a=AC):ybB a:=by
 cases a <;> first|exact λ_ _=>rfl|cases h
theorem nos {a:AV}(h:nsl a=AC):yc7 a:=pix h
noncomputable def ntu:AV->Bool
 | .Tuple ..=>AD
 |_=>AC
noncomputable def nte:AV->Bool
 | .UnaryOp ..=>AD
 | .BoolOp ..=>AD
 | .IfExp ..=>AD
 | .Compare ..=>AD
 |_=>AC
theorem itr {a:AV}{env:B2}(h:nte a=AC):∀whole,isTrue a env whole=(do let v <- whole;standAt a.pos;holding [v] (truthy v)):=by
 cases a <;> first|exact λ_=>rfl|cases h
noncomputable def nca:AV->Bool
 | .Call ..=>AD
 |_=>AC
theorem ydV {a:AV}{f:AR}{env:B2}{w:Gc AH}(h:nca a=AC):attributeBase a f env w=w:=by
 cases a <;> first|rfl|cases h
def mOp (op:D6)(o:BOp):Pr (∀S X,OpR X (binaryOp op) (rT2 S X (yx o))) :=
 match op,o with
 | .Add,.add=>ok (λ_ _=>zmy)
 | .Sub,.sub=>ok (λ_ _=>znM)
 | .Mult,.mul=>ok (λ_ _=>zns)
 | .FloorDiv,.fdiv=>ok (λ_ _=>zl6)
 | .Mod,.mod=>ok (λ_ _=>zmK)
 | .Pow,.pow=>ok (λ_ _=>zoh)
 | .LShift,.shl=>ok (λ_ _=>zmT)
 | .RShift,.shr=>ok (λ_ _=>zmu)
 | .BitAnd,.band=>ok (λ_ _=>zln)
 | .BitOr,.bor=>ok (λ_ _=>zmd)
 | .BitXor,.bxor=>ok (λ_ _=>zlz)
 |_,_=>AE
def mCm (op:FW)(o:COp):Pr (∀m S X,yar m X.A->OpR X (compareOp op) (rT2 S X (yE o))) :=
 match op,o with
 | .Eq,.eq=>ok (λ_ _ _ r=>zoB r.units)
 | .NotEq,.ne=>ok (λ_ _ _ r=>zpe r.units)
 | .Lt,.lt=>ok (λ_ _ _ _=>zo0)
 | .LtE,.le=>ok (λ_ _ _ _=>zoI)
 | .Gt,.gt=>ok (λ_ _ _ _=>zoF)
 | .GtE,.ge=>ok (λ_ _ _ _=>zo9)
 | .In,.isin=>ok (λ_ _ _ _=>zpb)
 |_,_=>AE
noncomputable def ydX (sc:Bi)(x:AR):Bool:=match sc.names.lookup x with
 |some .local=>AC
 |some .cell=>AC
 |some .free=>AC
 |_=>AD
theorem zhq {sc:Bi}{x:AR}(h:ydX sc x=AC):Vis sc x:=by
 unfold ydX at h
 split at h
 .exact .inl ‹_›
 .exact .inr (.inl ‹_›)
 .exact .inr (.inr ‹_›)
 .cases h
noncomputable def ydR (sc:Bi)(x:AR):Bool:=match sc.names.lookup x with
 |some .local=>AC
 |some .cell=>AC
 |_=>AD
theorem zg0 {sc:Bi}{x:AR}(h:ydR sc x=AC):Loc sc x:=by
 unfold ydR at h
 split at h
 .exact .inl ‹_›
 .exact .inr ‹_›
 .cases h
noncomputable def pln (x:AR):Bool:=!(x == ("__debug__":AR)) && !(x == ("__classdict__":AR)) && !(x == ("__name__":AR))
theorem yby {x:AR}(h:pln x=AC):(x == ("__debug__":AR))=false:=by
 simp only[pln,AL,Cb]at h;exact h.1.1
theorem ydQ {x:AR}(h:pln x=AC):(x == ("__classdict__":AR))=false:=by
 simp only[pln,AL,Cb]at h;exact h.1.2
theorem yeQ {x:AR}(h:pln x=AC):x ≠ "__name__":=by
 simp only[pln,AL,Cb]at h
 intro e;rw[e]at h;exact absurd h.2 (by decide)
def glB (κ:Kx)(x:AR):Bool:=decide (κ.sc.names.lookup x=AA .globalImplicit) && pln x
theorem zai {γ:Gs}{κ:Kx}{m:Nat}{S:Se}{X:Cx}(G:Good γ κ m S X){x:AR}(h:glB κ x=AC):Gl X x:=by
 simp only[glB,AL,decide_eq_true_eq]at h
 show X.env.scope.names.lookup x=_
 rw[G.sc];exact h.1
theorem zbp {κ:Kx}{x:AR}(h:glB κ x=AC):pln x=true:=by
 simp only[glB,AL]at h;exact h.2
def setB (κ:Kx)(i:Nat)(x:AR):Bool:=decide (κ.N[i]?=AA x) && decide κ.N.Nodup && ydR κ.sc x && (κ.own || decide (κ.sc.names.lookup x=AA .local)) && pln x
structure yec (X:Cx)(i:Nat)(x:AR):Prop where
 d:X.N.Nodup
 i:X.N[i]?=AA x
 l:Loc X.env.scope x
 f:X.fn x=AC \/ X.env.scope.names.lookup x=AA .local
 p:pln x=AC
theorem zaN {γ:Gs}{κ:Kx}{m:Nat}{S:Se}{X:Cx}(G:Good γ κ m S X){i:Nat}{x:AR}(h:setB κ i x=AC):yec X i x:=by
 simp only[setB,AL,DA,decide_eq_true_eq]at h
 obtain⟨⟨⟨⟨h1,h2⟩,h3⟩,h4⟩,h5⟩:=h
 refine⟨by rw[G.n];exact h2,by rw[G.n];exact h1,by rw[G.sc];exact zg0 h3,?_,h5⟩
 rcases h4 with h4|h4
 .exact .inl ((G.own h4).2.1 x)
 .exact .inr (by rw[G.sc];exact h4)
noncomputable def gFn (γ:Gs)(x:AR)(i:Nat):Pr (γ.g x=AA (.fn i)):=match h:γ.g x with
 |some (.fn j)=>if e:j=i then AA ⟨by subst e;rfl⟩else AE
 |_=>AE
section
variable {γ:Gs}{κ:Kx}{ca cb cc:Ce}{ces:Ces}
def yfk (v:PV)(e:AV):Pr (YE γ κ e (.cst v)) :=
 match e with
 | .Constant (.int i) _ _=>match v with
  | .int j=>an (ask (i=j)) λh=>ok (λ_ _ _ _=>by cases h;exact zkj)
  |_=>AE
 | .Constant (.bool i) _ _=>match v with
  | .bl j=>an (ask (i=j)) λh=>ok (λ_ _ _ _=>by cases h;exact zoQ)
  |_=>AE
 | .Constant .none _ _=>match v with
  | .non=>ok (λ_ _ _ _=>znh)
  |_=>AE
 | .Constant (.str i) _ _=>match v with
  | .str j=>an (ask (i=j)) λh=>ok (λ_ _ _ _=>by cases h;exact zm6)
  |_=>AE
 |_=>AE
def yfg (i:Nat)(e:AV):Pr (YE γ κ e (.var i)) :=
 match e with
 | .Name x _=>an (ask (κ.N[i]?=AA x/\ydX κ.sc x=AC/\pln x=AC)) λh=>ok (λ_ _ _ G=>znY (by rw[G.n];exact h.1) (by rw[G.sc];exact zhq h.2.1) (yby h.2.2) (ydQ h.2.2))
 |_=>AE
def yfE (o:BOp)(e:AV)(fa:∀x,Pr (YE γ κ x ca))(fb:∀x,Pr (YE γ κ x cb)):Pr (YE γ κ e (.bin o ca cb)) :=
 match e with
 | .BinOp a op b _ =>
  an (mOp op o) λho=>an (fa a) λha=>an (fb b) λhb=>ok (λm S X G=>zmI (ho S X) (ha m S X G) (hb m S X G))
 |_=>AE
def ygh (e:AV)(fa:∀x,Pr (YE γ κ x ca)):Pr (YE γ κ e (.neg ca)) :=
 match e with
 | .UnaryOp .USub a _ =>
  an (fa a) λha=>ok (λm S X G=>zka (ha m S X G))
 |_=>AE
def ygy (e:AV)(fa:∀x,Pr (YE γ κ x ca)):Pr (YE γ κ e (.not ca)) :=
 match e with
 | .UnaryOp .Not a _ =>
  an (fa a) λha=>ok (λm S X G=>zni (ha m S X G))
 |_=>AE
def ygU (o:COp)(e:AV)(fa:∀x,Pr (YE γ κ x ca))(fb:∀x,Pr (YE γ κ x cb)):Pr (YE γ κ e (.cmp o ca cb)) :=
 match e with
 | .Compare a [op] [b] _ =>
  an (mCm op o) λho=>an (ask (nse b=AC)) λhs=>an (fa a) λha=>an (fb b) λhb=>ok (λm S X G=>zn2 (ho _ S X G.room) (ha m S X G) (hb m S X G) (nmk hs))
 |_=>AE
def yeC (o:COp)(e:AV)(fa:∀x,Pr (YE γ κ x ca))(fb:∀x,Pr (YE γ κ x cb)):Pr (YT γ κ e (.cmp o ca cb)) :=
 match e with
 | .Compare a [op] [b] _ =>
  an (mCm op o) λho=>an (ask (nse b=AC)) λhs=>an (fa a) λha=>an (fb b) λhb=>ok (λm S X G=>zne (ho _ S X G.room) (ha m S X G) (hb m S X G) (nmk hs))
 |_=>AE
theorem lmk {op op':FW}{b c:AV}(h:nse c=AC):lastMarks [op,op'] [b,c]=false:=nmk h
def yf4 (o p:COp)(e:AV)(fa:∀x,Pr (YE γ κ x ca))(fb:∀x,Pr (YE γ κ x cb))(fc:∀x,Pr (YE γ κ x cc)):Pr (YE γ κ e (.chain o p ca cb cc)) :=
 match e with
 | .Compare a [op,op'] [b,c] _ =>
  an (mCm op o) λho=>an (mCm op' p) λhp=>an (ask (nse c=AC)) λhs=>an (fa a) λha=>an (fb b) λhb=>an (fc c) λhc=>ok (λm S X G=>zjE (ho _ S X G.room) (hp _ S X G.room) (ha m S X G) (hb m S X G) (hc m S X G) (lmk hs))
 |_=>AE
def yd6 (o p:COp)(e:AV)(fa:∀x,Pr (YE γ κ x ca))(fb:∀x,Pr (YE γ κ x cb))(fc:∀x,Pr (YE γ κ x cc)):Pr (YT γ κ e (.chain o p ca cb cc)) :=
 match e with
 | .Compare a [op,op'] [b,c] _ =>
  an (mCm op o) λho=>an (mCm op' p) λhp=>an (ask (nse c=AC)) λhs=>an (fa a) λha=>an (fb b) λhb=>an (fc c) λhc=>ok (λm S X G=>ziC (ho _ S X G.room) (hp _ S X G.room) (ha m S X G) (hb m S X G) (hc m S X G) (lmk hs))
 |_=>AE
def yfU (e:AV)(fc:∀x,Pr (YT γ κ x cc))(fa:∀x,Pr (YE γ κ x ca))(fb:∀x,Pr (YE γ κ x cb)):Pr (YE γ κ e (.ite cc ca cb)) :=
 match e with
 | .IfExp c a b _ =>
  an (fc c) λhc=>an (fa a) λha=>an (fb b) λhb=>ok (λm S X G=>zoc (hc m S X G) (ha m S X G) (hb m S X G))
 |_=>AE
def ygt (e:AV)(fa:∀x,Pr (YA γ κ x ces)):Pr (YE γ κ e (.tup ces)) :=
 match e with
 | .Tuple es _ _ =>
  an (fa es) λha=>ok (λm S X G=>zmP (ha m S X G))
 |_=>AE
def yf0 (e:AV)(fa:∀x,Pr (YA γ κ x ces)):Pr (YE γ κ e (.lst ces)) :=
 match e with
 | .List es _ =>
  an (fa es) λha=>ok (λm S X G=>zm2 (ha m S X G))
 |_=>AE
def yem (e:AV)(fa:∀x,Pr (YA γ κ x ces)):Pr (YE γ κ e (.newl ces)) :=
 match e with
 | .List es _ =>
  an (fa es) λha=>ok (λm S X G=>zk6 (ha m S X G))
 |_=>AE
def yeX (t:Bool)(e:AV):Pr (YE γ κ e (.dict0 t)) :=
 match t,e with
 |true,.Dict [] [] _=>ok (λ_ _ _ _=>zhd)
 |_,_=>AE
def mIdx (e:AV)(fa:∀x,Pr (YE γ κ x ca))(fb:∀x,Pr (YE γ κ x cb)):Pr (YE γ κ e (.idx ca cb)) :=
 match e with
 | .Subscript a b _ =>
  an (ask (nsl b=AC)) λhs=>an (fa a) λha=>an (fb b) λhb=>ok (λm S X G=>zmO (ha m S X G) (hb m S X G) (pix hs))
 |_=>AE
def ygl (e:AV)(fa:∀x,Pr (YE γ κ x ca))(fb:∀x,Pr (YO γ κ x cb))(fc:∀x,Pr (YO γ κ x cc)):Pr (YE γ κ e (.slc ca cb cc)) :=
 match e with
 | .Subscript a (.Slice l h AE _) _ =>
  an (fa a) λha=>an (fb l) λhb=>an (fc h) λhc=>ok (λm S X G=>znB (ha m S X G) (hb m S X G) (hc m S X G))
 |_=>AE
def yfd (c:Ce)(e:Option AV)(fa:∀x,Pr (YE γ κ x c)):Pr (YO γ κ e c) :=
 match e with
 |none=>match c with
  | .cst .non=>ok (λ_ _ _ _=>zl2)
  |_=>AE
 |some a =>
  an (fa a) λha=>ok (λm S X G=>zkQ (ha m S X G))
inductive Fs (γ:Gs)(κ:Kx):Ces->Type where
 | nil:Fs γ κ .nil
 | cons {c:Ce} {cs:Ces} (f:∀x,Pr (YE γ κ x c)) (r:Fs γ κ cs):Fs γ κ (.cons c cs)
def ya5:{ces:Ces}->Fs γ κ ces->(es:List AV)->Pr (YA γ κ es ces)
 |_,.nil,[]=>ok λ_ _ _ _=>zhA
 |_,.cons f r,a::es=>an (ask (nst a=AC)) λhs=>an (f a) λha=>an (ya5 r es) λhr=>ok λm S X G=>zed (ha m S X G) (hr m S X G) (yae hs)
 |_,_,_=>AE
structure Sp2 (γ:Gs)(κ:Kx)(ces:Ces)(np:Nat) where
 c1:Ces
 c2:Ces
 f1:Fs γ κ c1
 f2:Fs γ κ c2
 h:yaf c1 c2=ces
 l:yc3 c1=np
def ycH:(np:Nat)->{ces:Ces}->Fs γ κ ces->Option (Sp2 γ κ ces np)
 |0,ces,F=>AA ⟨.nil,ces,.nil,F,rfl,rfl⟩
 |n+1,_,.cons f r=>match ycH n r with
  |some s=>AA ⟨.cons _ s.c1,s.c2,.cons f s.f1,s.f2,by rw[yaf,s.h],by rw[yc3,s.l]⟩
  |none=>AE
 |_,_,_=>AE
structure It2 (γ:Gs)(κ:Kx)(ces:Ces)(sh:List (Option Int))(kws:List CW) where
 it:List (Sum Ce Int)
 h:yr it=ces
 s:it.map shC=sh
 k:∀m S X,Good γ κ m S X->PK X kws (tK S X it)
def yb4:(sh:List (Option Int))->{ces:Ces}->Fs γ κ ces->(kws:List CW)->Option (It2 γ κ ces sh kws)
 | [],_,.nil,[]=>AA ⟨[],rfl,rfl,λ_ _ _ _=>znN⟩
 |none::sh,.cons c _,.cons f r,⟨_,e,_⟩ :: kws=>match f e,yb4 sh r kws with
  |some h,AA q=>AA ⟨.inl c::q.it,by rw[yr,q.h],by rw[AM,q.s];rfl,λm S X G=>zoU (h.down m S X G) (q.k m S X G)⟩
  |_,_=>AE
 |some i::sh,.cons (.cst (.int j)) _,.cons _ r,kws=>if e:i=j then match yb4 sh r kws with
  |some q=>AA ⟨.inr i::q.it,by rw[yr,q.h,e],by rw[AM,q.s];rfl,λm S X G=>zpd (q.k m S X G)⟩
  |none=>AE
  else AE
 |_,_,_,_=>AE
noncomputable def kwN:List CW->List AR
 | []=>[]
 | ⟨AA x,_,_⟩ :: r=>x::kwN r
 |_::r=>kwN r
noncomputable def kwB:List CW->Bool
 | []=>AC
 | ⟨AA _,_,_⟩ :: r=>kwB r
 |_=>AD
theorem zms {pos:CT}{env:B2}:∀{kws:List CW},kwB kws=AC->(backToKw pos (keywordEach kws env)).all (·.1.isSome)=AC/\(backToKw pos (keywordEach kws env)).filterMap (·.1)=kwN kws/\(backToKw pos (keywordEach kws env)).any (·.1.isNone)=AD
 | [],_=>⟨rfl,rfl,rfl⟩
 | ⟨AA x,e,_⟩ :: r,h=>by
  obtain⟨h1,h2,h3⟩:=zms (pos:=pos) (env:=env) (kws:=r) h
  simp only[backToKw]at h1 h2 h3 ⊢
  simp only[keywordEach,AM,Bc,Bn,Bk,h1,h2,h3,kwN]
  simp
def yfz (i:Nat)(F:Fs γ κ ces)(e:AV):Pr (YE γ κ e (.call i ces)) :=
 match e with
 | .Call (.Name x _) [] [] _=>match F with
  | .nil=>an (ask (glB κ x=AC)) λhg=>an (gFn γ x i) λhf=>ok λm S X G=>by
   obtain⟨f,fd,ps,h1,h2,h3,h4⟩:=G.glo.F x i hf
   exact zjJ h1 (G.room.mono (Cf m)) (zai G hg) h2 h3 h4 (yby (zbp hg))
  |_=>AE
 | .Call (.Name x _) (a::es) kws _=>an (ask (glB κ x=AC/\nst a=AC/\yb0 es=AC)) λhg =>
  match hx:γ.g x with
  |some (.fn j)=>match kws with
   | []=>an (ask (j=i)) λhj=>an (ya5 F (a::es)) λha=>ok λm S X G=>by
    subst hj
    obtain⟨f,fd,ps,h1,h2,h3,h4⟩:=G.glo.F x j hx
    exact zlg h1 (G.room.mono (Cf m)) (zai G hg.1) h2 h3 h4 (ha m S X G) (yby (zbp hg.1)) (yae hg.2.1) (stars hg.2.2)
   |_=>AE
  |some (.fnD j)=>match hk:γ.kb j (es.length+1) (kwN kws)with
   |none=>AE
   |some sh=>match ycH (es.length+1) F with
    |none=>AE
    |some s=>match yb4 sh s.f2 kws with
     |none=>AE
     |some q=>an (ask (kwB kws=AC/\j=i)) λhw=>an (ya5 s.f1 (a::es)) λha=>ok λm S X G=>by
      obtain⟨hw,rfl⟩:=hw
      obtain⟨f,fd,ps,h1,h2,h3,h4⟩:=G.glo.Q x j _ _ sh hx hk
      rw[<- s.h,<- q.h]
      rw[<- q.s]at h4
      have w:=λ{pos}=>zms (pos:=pos) (env:=X.env) hw
      exact ziW h1 (G.room.mono (Cf m)) (zai G hg.1) h2 h3 h4 s.l (ha m S X G) (q.k m S X G) w.1 w.2.1 (yby (zbp hg.1)) (yae hg.2.1) (by
       rw[w.2.2,Ge]
       exact stars (es:=a::es) (by simp only[yb0,Bc,hg.2.1,D1];exact hg.2.2))
  |_=>AE
 |_=>AE
abbrev yeT (b:Blt)(x:AR):Prop:=∀S X,X.calm=AC->(∃id,yao X (.builtin id) (rB S X b)/\bootBuiltins x=AA (.builtin id)) \/ ∃T,yao X (.type T) (rB S X b)/\bootBuiltins x=AA (.type T)
def yfN (b:Blt)(x:AR):Pr (yeT b x) :=
 match b with
 | .len=>an (ask (x="len")) λh=>ok λ_ _ _=>.inl ⟨_,znU,h ▸ znd⟩
 | .max=>an (ask (x="max")) λh=>ok λ_ _ c=>.inl ⟨_,zmh c,h ▸ zmn⟩
 | .tuple=>an (ask (x="tuple")) λh=>ok λ_ _ _=>.inr ⟨_,zi4,h ▸ zfE⟩
 | .all=>an (ask (x="all")) λh=>ok λ_ _ c=>.inl ⟨_,znp c,h ▸ zom⟩
 | .sum=>an (ask (x="sum")) λh=>ok λ_ _ c=>.inl ⟨_,znO c,h ▸ zmo⟩
 |_=>AE
def yfv (b:Blt)(F:Fs γ κ ces)(e:AV):Pr (YE γ κ e (.blt b ces)) :=
 match e with
 | .Call (.Name x _) (a::es) [] _=>an (ask (glB κ x=AC/\nst a=AC/\yb0 es=AC/\γ.b x=AC)) λhg=>an (yfN b x) λhb=>an (ya5 F (a::es)) λha=>ok λm S X G=>by
  rcases hb S X G.calm with⟨id,h1,h2⟩|⟨T,h1,h2⟩
  .exact znf h1 (zai G hg.1) (G.glo.B x hg.2.2.2) h2 (ha m S X G) (yeQ (zbp hg.1)) (yby (zbp hg.1)) (yae hg.2.1) (stars hg.2.2.1)
  .exact zlx h1 (zai G hg.1) (G.glo.B x hg.2.2.2) h2 (ha m S X G) (yeQ (zbp hg.1)) (yby (zbp hg.1)) (yae hg.2.1) (stars hg.2.2.1)
 |_=>AE
def yf8 (F:Fs γ κ ces)(e:AV):Pr (YE γ κ e (.blt .rev ces)) :=
 match e,F with
 | .Subscript a (.Slice AE AE (AA (.UnaryOp .USub (.Constant (.int i) _ _) _)) _) _,.cons f .nil=>an (ask (i=1)) λhi=>an (f a) λha=>ok λm S X G=>by
  subst hi
  exact zon (ha m S X G) (zka zkj)
 |_,_=>AE
def yga (b:Blt)(F:Fs γ κ ces)(e:AV):Pr (YE γ κ e (.blt b ces)) :=
 match b with
 | .rev=>yf8 F e
 |b=>yfv b F e
def tyB (t:Ty)(x:AR):Pr (ydb t=AC/\bootBuiltins x=AA (.type (tyN t))) :=
 match t with
 | .int=>an (ask (x="int")) λh=>ok ⟨rfl,h ▸ znR⟩
 | .bool=>an (ask (x="bool")) λh=>ok ⟨rfl,h ▸ zlV⟩
 | .str=>an (ask (x="str")) λh=>ok ⟨rfl,h ▸ zm0⟩
 | .tuple=>an (ask (x="tuple")) λh=>ok ⟨rfl,h ▸ zfE⟩
 |_=>AE
def yfB (ts:List Ty)(e:AV)(fa:∀x,Pr (YE γ κ x ca)):Pr (YE γ κ e (.isi ca ts)) :=
 match ts,e with
 | [t],.Call (.Name n _) [a,.Name x _] [] _=>an (ask (n="isinstance"/\glB κ n=AC/\γ.b n=AC/\glB κ x=AC/\γ.b x=AC/\γ.t t=AC/\nst a=AC)) λh=>an (tyB t x) λht=>an (fa a) λha=>ok λm S X G=>by
  obtain⟨rfl,h1,h2,h3,h4,h5,h6⟩:=h
  exact zml (G.glo.T t h5) ht.1 (zai G h1) (G.glo.B _ h2) (zai G h3) (G.glo.B _ h4) ht.2 (ha m S X G) (yeQ (zbp h3)) (yby (zbp h3)) (yae h6) rfl
 |_,_=>AE
mutual
noncomputable def yeW:(a b:PV)->Pr (a=b)
 | .non,.non=>ok rfl
 | .bl a,.bl b=>an (ask (a=b)) λh=>ok (by rw[h])
 | .int a,.int b=>an (ask (a=b)) λh=>ok (by rw[h])
 | .str a,.str b=>an (ask (a=b)) λh=>ok (by rw[h])
 | .tp k a,.tp j b=>an (ask (k=j)) λh=>an (ycJ a b) λg=>ok (by rw[h,g])
 | .lst a,.lst b=>an (ycJ a b) λg=>ok (by rw[g])
 |_,_=>AE
noncomputable def ycJ:(a b:List PV)->Pr (a=b)
 | [],[]=>ok rfl
 |a::x,b::y=>an (yeW a b) λh=>an (ycJ x y) λg=>ok (by rw[h,g])
 |_,_=>AE
end
def eqD:(a b:List (AR×PV))->Pr (a=b)
 | [],[]=>ok rfl
 | (k,a)::x,(j,b)::y=>an (ask (k=j)) λe=>an (yeW a b) λh=>an (eqD x y) λg=>ok (by rw[e,h,g])
 |_,_=>AE
def yfu (v:PV)(e:AV):Pr (YE γ κ e (.cst v)) :=
 match e with
 | .Name x _=>match h:γ.g x with
  |some (.cst u)=>an (ask (glB κ x=AC)) λhg=>an (yeW u v) λhv=>ok λm S X G=>by
   subst hv
   rcases G.glo.C x u h with q|⟨i,rfl,q⟩
   .exact zoT (zai G hg) q (yby (zbp hg))
   .exact znv (zai G hg) q (yby (zbp hg))
  |_=>AE
 |e=>yfk v e
def ygv (D:List (AR×PV))(e:AV)(fb:∀x,Pr (YE γ κ x cb)):Pr (YE γ κ e (.dix D cb)) :=
 match e with
 | .Subscript (.Name x _) b _=>match h:γ.g x with
  |some (.dct E)=>an (ask (glB κ x=AC/\nsl b=AC)) λhg=>an (eqD E D) λhv=>an (fb b) λhb=>ok λm S X G=>by
   subst hv
   exact zog (zai G hg.1) (G.glo.D x E h) (hb m S X G) (nos hg.2) (yby (zbp hg.1))
  |_=>AE
 |_=>AE
def yf5 (D:List (AR×PV))(e:AV)(fa:∀x,Pr (YE γ κ x ca)):Pr (YE γ κ e (.din ca D)) :=
 match e with
 | .Compare a [.In] [.Name x _] _=>match h:γ.g x with
  |some (.dct E)=>an (ask (glB κ x=AC)) λhg=>an (eqD E D) λhv=>an (fa a) λha=>ok λm S X G=>by
   subst hv
   exact zmf (zai G hg) (G.glo.D x E h) (ha m S X G) rfl (yby (zbp hg))
  |_=>AE
 |_=>AE
theorem ydI {pos:CT}{env:B2}:∀{es:List AV},yb0 es=AC->((backTo pos (starEach es env)).all λx=>!x.1)=AC
 | [],_=>rfl
 |a::es,h=>by
  simp only[yb0,Bc,AL]at h
  have:=ydI (pos:=pos) (env:=env) (es:=es) h.2
  simp only[backTo]at this ⊢
  rw[yae h.1,AM,Bc,this]
  rfl
theorem zko {o:AV}{n:AR}{ap pos:CT}{es:List AV}{env:B2}(hb:nca o=AC)(hs:yb0 es=AC)(hn:es.length<30)(hl:(ap.endLine == pos.line)=AC) :
  eval (.Call (.Attribute o n ap) es [] pos) env=(do
   let ov <- eval o env
   standAt ap.atName
   let (f,first) <- holding [ov] (getMethod ov n (do return (<- importBound o env).getD AC))
   callWith pos f first (backTo pos (starEach es env)) (backToKw pos (keywordEach [] env))):=by
 have hf:methodCallForm (es.length+([]:List CW).length) (backTo pos (starEach es env)) (backToKw pos (keywordEach [] env))=true:=by
  simp only[methodCallForm,ydI hs,D1]
  simp[backToKw,keywordEach,hn]
 rw[arm_eval_Call,ydV hb]
 simp only[methodCall,calleeOf,methodCallPos,hf,hl,if_true,Bool.not_true,Bool.or_true,pure_bind]
def yf1 (c:Nat)(f:AR)(e:AV)(fa:∀x,Pr (YE γ κ x ca)):Pr (YE γ κ e (.fld c ca f)) :=
 match e with
 | .Attribute a g _=>an (ask (g=f/\γ.fl c f=AC/\nca a=AC)) λh=>an (fa a) λha=>ok λm S X G=>by
  obtain⟨rfl,h1,h2⟩:=h
  exact zmB (G.glo.A c g h1).1 (G.glo.A c g h1).2 (ha m S X G) (ydV h2)
 |_=>AE
def ygI (c i:Nat)(F:Fs γ κ ces)(e:AV):Pr (YE γ κ e (.new c i ces)) :=
 match e with
 | .Call (.Name x _) (a::es) [] _=>match h:γ.g x with
  |some (.cls c' i')=>an (ask (c'=c/\i'=i/\glB κ x=AC/\nst a=AC/\yb0 es=AC)) λhg=>an (ya5 F (a::es)) λha=>ok λm S X G=>by
   obtain⟨rfl,rfl,h1,h2,h3⟩:=hg
   obtain⟨q,f,fd,ps,q1,q2,q3⟩:=G.glo.N x c' i' h
   exact zmp q1 q2 G.room (zai G h1) q q3 (ha m S X G) (yby (zbp h1)) (yae h2) (stars h3)
  |_=>AE
 |_=>AE
def yf2 (c i:Nat)(n:AR)(F:Fs γ κ ces)(e:AV)(fa:∀x,Pr (YE γ κ x ca)):Pr (YE γ κ e (.mcl c i n ca ces)) :=
 match e with
 | .Call (.Attribute (.Name x p) n' ap) [] [] pos=>match F with
  | .nil=>an (ask (n'=n/\γ.me c n=AA i/\(ap.endLine == pos.line)=AC)) λh=>an (fa (.Name x p)) λho=>ok λm S X G=>by
   obtain⟨rfl,h1,h4⟩:=h
   obtain⟨q,f,fd,ps,q1,q2,q3⟩:=G.glo.M c n' i h1
   exact zky q q1 q2 (G.room.mono (Cf m)) q3 (ho m S X G) (zko rfl rfl (Nat.zero_lt_succ _) h4)
  |_=>AE
 | .Call (.Attribute (.Name x p) n' ap) (a::es) [] pos=>an (ask (n'=n/\γ.me c n=AA i/\nst a=AC/\yb0 es=AC/\(ap.endLine == pos.line)=AC/\(a::es).length<30)) λh=>an (fa (.Name x p)) λho=>an (ya5 F (a::es)) λha=>ok λm S X G=>by
  obtain⟨rfl,h1,h2,h3,h4,h5⟩:=h
  obtain⟨q,f,fd,ps,q1,q2,q3⟩:=G.glo.M c n' i h1
  exact znr q q1 q2 (G.room.mono (Cf m)) q3 (ho m S X G) (ha m S X G) (yae h2) (stars h3) (zko rfl (by simp only[yb0,Bc,h2,D1];exact h3) h5 h4)
 |_=>AE
theorem yg8 {pos:CT}{env:B2}{b:AV}(h:nst b=AC):((backTo pos (starEach [b] env)).all (λx=>!x.1) && (backToKw pos (keywordEach [] env)).all (λx=>x.1.isSome) && decide (([b]:List AV).length+([]:List CW).length+(if ([]:List CW).isEmpty then 0 else 1)<30))=true:=by
 rw[yae h];rfl
def ygA (k:Mth)(F:Fs γ κ ces)(e:AV)(fa:∀x,Pr (YE γ κ x ca)):Pr (YE γ κ e (.mth k ca ces)) :=
 match k,e,F with
 | .append,.Call (.Attribute a n ap) [b] [] pos,.cons fb .nil=>an (ask (n="append"/\nca a=AC/\nst b=AC/\(ap.endLine == pos.line)=AC)) λh=>an (fa a) λha=>an (fb b) λhb=>ok λm S X G=>by
  obtain⟨rfl,h1,h2,h3⟩:=h
  exact zhO (ha m S X G) (hb m S X G) (yae h2) (ydV h1) h3 (yg8 h2)
 | .get,.Call (.Attribute a n ap) [b,c] [] pos,.cons fb (.cons fc .nil)=>an (ask (n="get"/\nca a=AC/\nst b=AC/\nst c=AC/\(ap.endLine == pos.line)=AC)) λh=>an (fa a) λha=>an (fb b) λhb=>an (fc c) λhc=>ok λm S X G=>by
  obtain⟨rfl,h1,h2,h4,h3⟩:=h
  exact zny (zlh G.room) (ha m S X G) (hb m S X G) (hc m S X G) ⟨ydV h1,by rw[yae h2,yae h4];rfl,h3,by rw[yae h2,yae h4];rfl⟩
 |_,_,_=>AE
end
structure Ev (γ:Gs)(c:Ce) where
 e:∀κ x,Pr (YE γ κ x c)
 t:∀κ x,Pr (YT γ κ x c)
 w:∀κ op l pos,Pr (YW γ κ (.BoolOp op l pos) c)
section
variable {γ:Gs}{ca cb cc:Ce}
def w1 {c:Ce}(t:∀κ x,Pr (YT γ κ x c))(κ:Kx)(op:Gr)(l:List AV)(pos:CT):Pr (YW γ κ (.BoolOp op l pos) c) :=
 match op,l with
 | .And,[a]=>an (t κ a) λh=>ok λm S X G=>zle (h m S X G)
 | .Or,[a]=>an (t κ a) λh=>ok λm S X G=>znW (h m S X G)
 |_,_=>AE
def plT {c:Ce}(e:∀κ x,Pr (YE γ κ x c))(κ:Kx)(x:AV):Pr (YT γ κ x c):=an (ask (nte x=AC)) λh=>an (e κ x) λhe=>ok λm S X G=>zmF (he m S X G) (itr h)
def plain {c:Ce}(e:∀κ x,Pr (YE γ κ x c)):Ev γ c:=⟨e,plT e,w1 (plT e)⟩
def ycX {c:Ce}(e:∀κ x,Pr (YE γ κ x c))(t:∀κ x,Pr (YT γ κ x c)):Ev γ c:=⟨e,t,w1 t⟩
def yfO (A:Ev γ ca)(κ:Kx)(e:AV):Pr (YT γ κ e (.not ca)) :=
 match e with
 | .UnaryOp .Not a _=>an (A.t κ a) λh=>ok λm S X G=>znw (h m S X G)
 |_=>AE
def ygp (A:Ev γ ca)(B:Ev γ cb)(κ:Kx)(e:AV):Pr (YE γ κ e (.and ca cb)) :=
 match e with
 | .BoolOp .And (a::b::[]) _=>an (A.e κ a) λha=>an (B.e κ b) λhb=>ok λm S X G=>zj8 (ha m S X G) (zkp (hb m S X G))
 | .BoolOp .And (a::b::c::r) p=>an (A.e κ a) λha=>an (B.e κ (.BoolOp .And (b::c::r) p)) λhb=>ok λm S X G=>zj8 (ha m S X G) (hb m S X G)
 |_=>AE
def orE (A:Ev γ ca)(B:Ev γ cb)(κ:Kx)(e:AV):Pr (YE γ κ e (.or ca cb)) :=
 match e with
 | .BoolOp .Or (a::b::[]) _=>an (A.e κ a) λha=>an (B.e κ b) λhb=>ok λm S X G=>zmU (ha m S X G) (zkp (hb m S X G))
 | .BoolOp .Or (a::b::c::r) p=>an (A.e κ a) λha=>an (B.e κ (.BoolOp .Or (b::c::r) p)) λhb=>ok λm S X G=>zmU (ha m S X G) (hb m S X G)
 |_=>AE
def yee (A:Ev γ ca)(B:Ev γ cb)(κ:Kx)(op:Gr)(l:List AV)(pos:CT):Pr (YW γ κ (.BoolOp op l pos) (.and ca cb)) :=
 match op,l with
 | .And,a::b::r=>an (A.t κ a) λha=>an (B.w κ .And (b::r) pos) λhb=>ok λm S X G=>zmi (ha m S X G) (hb m S X G)
 |_,_=>AE
def orW (A:Ev γ ca)(B:Ev γ cb)(κ:Kx)(op:Gr)(l:List AV)(pos:CT):Pr (YW γ κ (.BoolOp op l pos) (.or ca cb)) :=
 match op,l with
 | .Or,a::b::r=>an (A.t κ a) λha=>an (B.w κ .Or (b::r) pos) λhb=>ok λm S X G=>zo2 (ha m S X G) (hb m S X G)
 |_,_=>AE
def ptW {c:Ce}(w:∀κ op l pos,Pr (YW γ κ (.BoolOp op l pos) c))(κ:Kx)(e:AV):Pr (YT γ κ e c) :=
 match e with
 | .BoolOp op l p=>an (w κ op l p) λh=>ok λm S X G=>PW.pt (h m S X G)
 |_=>AE
def ye2 {c:Ce}(t:∀κ x,Pr (YT γ κ x c))(w:∀κ op l pos,Pr (YW γ κ (.BoolOp op l pos) c))(κ:Kx)(op:Gr)(l:List AV)(pos:CT):Pr (YW γ κ (.BoolOp op l pos) c) :=
 match l with
 | [a]=>w1 t κ op [a] pos
 |l=>w κ op l pos
def yex (A:Ev γ ca)(B:Ev γ cb):Ev γ (.and ca cb):=⟨ygp A B,ptW (yee A B),ye2 (ptW (yee A B)) (yee A B)⟩
def ygz (A:Ev γ ca)(B:Ev γ cb):Ev γ (.or ca cb):=⟨orE A B,ptW (orW A B),ye2 (ptW (orW A B)) (orW A B)⟩
end
abbrev YI (γ:Gs)(κ:Kx)(tg l:AV)(c:Cit):Prop:=∀m S X,Good γ κ m S X->PI X tg l (tI S X c)
abbrev YG (γ:Gs)(κ:Kx)(tg:AV)(c:Tg):Prop:=∀m S X,Good γ κ m S X->PG X tg (tG S X c)
section
variable {γ:Gs}{κ:Kx}{ca cb cc ce:Ce}{ci:Cit}
def yfD (e:∀x,Pr (YE γ κ x ca))(tg l:AV):Pr (YI γ κ tg l (.seq ca)):=an (e l) λh=>ok λm S X G=>znk (h m S X G)
def iR1 (fa:∀x,Pr (YE γ κ x ca))(tg l:AV):Pr (YI γ κ tg l (.range1 ca)) :=
 match l with
 | .Call (.Name x _) [a] [] _=>an (ask (x="range"/\glB κ x=AC/\γ.b x=AC/\nst a=AC)) λh=>an (fa a) λha=>ok λm S X G=>by
  obtain⟨rfl,h1,h2,h3⟩:=h
  exact zij (zai G h1) (G.glo.B _ h2) (ha m S X G) (yae h3)
 |_=>AE
def yeM (fa:∀x,Pr (YE γ κ x ca))(tg l:AV):Pr (YI γ κ tg l (.enum ca)) :=
 match tg,l with
 | .Tuple _ _ _,.Call (.Name x _) [a] [] _=>an (ask (x="enumerate"/\glB κ x=AC/\γ.b x=AC/\nst a=AC)) λh=>an (fa a) λha=>ok λm S X G=>by
  obtain⟨rfl,h1,h2,h3⟩:=h
  exact zkP (zai G h1) (G.glo.B _ h2) (ha m S X G) (yae h3)
 |_,_=>AE
def yg1 (fa:∀x,Pr (YE γ κ x ca))(fb:∀x,Pr (YE γ κ x cb))(tg l:AV):Pr (YI γ κ tg l (.zip ca cb)) :=
 match tg,l with
 | .Tuple _ _ _,.Call (.Name x _) [a,b] [] _=>an (ask (x="zip"/\glB κ x=AC/\γ.b x=AC/\nst a=AC/\nst b=AC)) λh=>an (fa a) λha=>an (fb b) λhb=>ok λm S X G=>by
  obtain⟨rfl,h1,h2,h3,h4⟩:=h
  exact zmv (zai G h1) (G.glo.B _ h2) (ha m S X G) (hb m S X G) (by rw[yae h3,yae h4];rfl) (yae h4)
 |_,_=>AE
def gNm (κ:Kx):(l:List Nat)->(es:List AV)->Pr (∀m S X,Good γ κ m S X->PGs X es (gNs l)/\(assignEach es X.env).length=l.length/\(assignEach es X.env).findIdx? (·.1)=AE)
 | [],[]=>ok λ_ _ _ _=>⟨zlX,rfl,rfl⟩
 |i::l,.Name x _::es=>an (ask (setB κ i x=AC)) λh=>an (gNm κ l es) λhr=>ok λm S X G=>by
  have s:=zaN G h
  obtain⟨h1,h2,h3⟩:=hr m S X G
  refine⟨zjq s.d s.i s.l h1 s.f,?_,?_⟩
  .simp only[assignEach,A0,h2]
  .simp only[assignEach,List.findIdx?_cons,h3];rfl
 |_,_=>AE
def mTg (ct:Tg)(tg:AV):Pr (YG γ κ tg ct) :=
 match ct,tg with
 | .n i,.Name x _=>an (ask (setB κ i x=AC)) λh=>ok λm S X G=>let s:=zaN G h;zk3 s.d s.i s.l s.f
 | .t l,.Tuple es _ _=>an (gNm κ l es) λh=>ok λm S X G=>zn5 G.calm (h m S X G).1 (h m S X G).2.1 (h m S X G).2.2
 |_,_=>AE
noncomputable def tgN:AV->List AR
 | .Name x _=>[x]
 | .Tuple es _ _=>es.filterMap fun
  | .Name x _=>AA x
  |_=>AE
 |_=>[]
def ydA (N:List AR)(sl:List (Option Nat))(tg:AV):List Str:=tgN tg++(sl.drop (tgN tg).length).filterMap λo=>o.bind λj=>N[j]?
noncomputable def ycn (sc so:Bi):Scope:={ sc with names:=sc.names.map λ(n,k)=>if (k == C9 && so.kind == .function && so.names.lookup n == AA .cell)then(n,FZ)else(n,k) }
noncomputable def yai (N:List AR)(so sc:Bi)(NC:List AR)(sl:List (Option Nat)):Bool :=
 decide (sc.kind=.function) && (sc.names.all λy=>y.2 != .local || decide (sc.names.lookup y.1=AA .local)) && (sc.names.all λy=>y.2 != .cell) && (sc.names.all λy=>y.2 != .free || decide (so.names.lookup y.1=AA .cell)) &&
  ((NC.zip sl).all λp=>p.2.all λj=>decide (N[j]?=AA p.1/\sc.names.lookup p.1=AA .free)) && decide (sl.length=NC.length)
theorem ziz {X:Cx}{sc:Bi}{NC:List AR}{sl:List (Option Nat)}(h:yai X.N X.env.scope sc NC sl=AC):yak X sc NC sl:=by
 simp only[yai,AL,decide_eq_true_eq,BX,DA,bne_iff_ne,ne_eq]at h
 obtain⟨⟨⟨⟨⟨h1,h2⟩,h3⟩,h4⟩,h5⟩,h6⟩:=h
 exact ydL _ _ rfl rfl h1 (λy hy e=>(h2 y hy).resolve_left λz=>z e) h3 (λy hy e=>(h4 y hy).resolve_left λz=>z e) (λp hp=>by simpa using h5 p hp) h6
theorem Good.comp {m:Nat}{S:Se}{X:Cx}(G:Good γ κ m S X)(sc:Bi)(NC:List AR)(j:CI):Good γ ⟨NC,ycn sc κ.sc,AD⟩ m S (cxC X sc NC j):=by
 refine⟨rfl,?_,G.calm,G.room,(λh=>nomatch h),⟨G.glo.F,G.glo.Q,G.glo.C,G.glo.D,G.glo.E,G.glo.N,G.glo.B,G.glo.T,G.glo.A,G.glo.M,λy D h=>let ⟨fa,fdd,ps,M,d⟩:=G.glo.K y D h;⟨fa,fdd,ps,⟨M.F,M.kp,M.b⟩,d⟩⟩⟩
 show relabel sc X.env=_
 rw[<- G.sc]
 rfl
def yfR (c:Ce)(f:∀x,Pr (YT γ κ x c))(ifs:List AV):Pr (∀m S X,Good γ κ m S X->PTs X ifs (tT0 S X.K c)) :=
 match ifs with
 | []=>match c with
  | .cst (.bl AC)=>ok λ_ _ _ _=>zis
  |_=>AE
 | [a]=>an (f a) λh=>ok λm S X G=>zkC rfl (h m S X G)
 |_=>AE
structure ycV (γ:Gs)(κ:Kx)(sl:List (Option Nat))(ct:Tg)(ci:Cit)(cc ce:Ce)(elt tg it:AV)(ifs:List AV)(sc:Bi):Prop where
 q:∀m S X,Good γ κ m S X->∃NC,yak X sc NC sl/\PI X tg it (tI S X ci)/\(∀j,PG (cxC X sc NC j) tg (tG0 S X.K ct))/\(∀j,PTs (cxC X sc NC j) ifs (tT0 S X.K cc))/\∀j,PE (cxC X sc NC j) elt (tE0 S X.K ce)
 f:yaC ct sl=AC
 s:nse it=AC
def mCo (sl:List (Option Nat))(ct:Tg)(fi:∀tg l,Pr (YI γ κ tg l ci))(C:Ev γ cc)(E:Ev γ ce)(elt tg it:AV)(ifs:List AV)(sc:Bi):Pr (ycV γ κ sl ct ci cc ce elt tg it ifs sc) :=
 an (ask (yai κ.N κ.sc sc (ydA κ.N sl tg) sl=AC/\yaC ct sl=AC/\nse it=AC)) λh=>an (fi tg it) λhi=>an (mTg (γ:=γ) (κ:=⟨ydA κ.N sl tg,ycn sc κ.sc,AD⟩) ct tg) λhg =>
  an (yfR (γ:=γ) (κ:=⟨ydA κ.N sl tg,ycn sc κ.sc,AD⟩) cc (C.t _) ifs) λht=>an (E.e ⟨ydA κ.N sl tg,ycn sc κ.sc,AD⟩ elt) λhe=>ok ⟨λm S X G=>⟨ydA κ.N sl tg,by
   rw[<- G.n,<- G.sc]at h;rw[<- G.n];exact ziz h.1,hi m S X G,λj=>zly rfl (hg m S _ (G.comp sc _ j)),λj=>ht m S _ (G.comp sc _ j),λj=>zlR rfl (he m S _ (G.comp sc _ j))⟩,h.2.1,h.2.2⟩
def yei (sl:List (Option Nat))(ct:Tg)(fi:∀tg l,Pr (YI γ κ tg l ci))(C:Ev γ cc)(E:Ev γ ce)(e:AV):Pr (YE γ κ e (.comp sl ct ci cc ce)) :=
 match e with
 | .ListComp elt [⟨tg,it,ifs,0⟩] sc _=>an (mCo sl ct fi C E elt tg it ifs sc) λh=>ok λm S X G=>by
  obtain⟨NC,h1,h2,h3,h4,h5⟩:=h.q m S X G
  exact zla G.calm h1 h.f h2 h3 h4 h5 (fse h.s)
 |_=>AE
end
section
variable {γ:Gs}{κ:Kx}
end
mutual
noncomputable def ch (γ:Gs):(c:Ce)->Ev γ c
 | .cst v=>plain λκ x=>yfu v x
 | .var i=>plain λκ x=>yfg i x
 | .bin o a b=>plain λκ x=>yfE o x ((ch γ a).e κ) ((ch γ b).e κ)
 | .neg a=>plain λκ x=>ygh x ((ch γ a).e κ)
 | .not a=>ycX (λκ x=>ygy x ((ch γ a).e κ)) (yfO (ch γ a))
 | .and a b=>yex (ch γ a) (ch γ b)
 | .or a b=>ygz (ch γ a) (ch γ b)
 | .cmp o a b=>ycX (λκ x=>ygU o x ((ch γ a).e κ) ((ch γ b).e κ)) (λκ x=>yeC o x ((ch γ a).e κ) ((ch γ b).e κ))
 | .chain o p a b c=>ycX (λκ x=>yf4 o p x ((ch γ a).e κ) ((ch γ b).e κ) ((ch γ c).e κ)) (λκ x=>yd6 o p x ((ch γ a).e κ) ((ch γ b).e κ) ((ch γ c).e κ))
 | .ite c a b=>plain λκ x=>yfU x ((ch γ c).t κ) ((ch γ a).e κ) ((ch γ b).e κ)
 | .tup es=>plain λκ x=>ygt x (ya5 (chs γ es κ))
 | .lst es=>plain λκ x=>yf0 x (ya5 (chs γ es κ))
 | .newl es=>plain λκ x=>yem x (ya5 (chs γ es κ))
 | .dict0 t=>plain λκ x=>yeX t x
 | .idx a i=>plain λκ x=>mIdx x ((ch γ a).e κ) ((ch γ i).e κ)
 | .slc a l h=>plain λκ x=>ygl x ((ch γ a).e κ) (λo=>yfd l o ((ch γ l).e κ)) (λo=>yfd h o ((ch γ h).e κ))
 | .call f es=>plain λκ x=>yfz f (chs γ es κ) x
 | .blt b es=>plain λκ x=>yga b (chs γ es κ) x
 | .mth k o es=>plain λκ x=>ygA k (chs γ es κ) x ((ch γ o).e κ)
 | .isi a ts=>plain λκ x=>yfB ts x ((ch γ a).e κ)
 | .comp sl tg it c e=>plain λκ x=>yei sl tg (chi γ it κ) (ch γ c) (ch γ e) x
 | .frz a=>plain λκ x=>an ((ch γ a).e κ x) λh=>ok λm S X G=>znn (h m S X G)
 | .nope=>plain λκ x=>ok λ_ _ _ _=>zlE
 | .dix D a=>plain λκ x=>ygv D x ((ch γ a).e κ)
 | .din a D=>plain λκ x=>yf5 D x ((ch γ a).e κ)
 | .fld c a f=>plain λκ x=>yf1 c f x ((ch γ a).e κ)
 | .new c i es=>plain λκ x=>ygI c i (chs γ es κ) x
 | .mcl c i n o es=>plain λκ x=>yf2 c i n (chs γ es κ) x ((ch γ o).e κ)
noncomputable def chs (γ:Gs):(cs:Ces)->(κ:Kx)->Fs γ κ cs
 | .nil,_=>.nil
 | .cons c cs,κ=>.cons (λx=>(ch γ c).e κ x) (chs γ cs κ)
noncomputable def chi (γ:Gs):(c:Cit)->(κ:Kx)->∀tg l,Pr (YI γ κ tg l c)
 | .seq a,κ=>yfD ((ch γ a).e κ)
 | .range1 a,κ=>iR1 ((ch γ a).e κ)
 | .enum a,κ=>yeM ((ch γ a).e κ)
 | .zip a b,κ=>yg1 ((ch γ a).e κ) ((ch γ b).e κ)
 |_,_=>λ_ _=>AE
end
section
variable {γ:Gs}{κ:Kx}{ca cb cc ce:Ce}{ci:Cit}{ct:Tg}{cs cs':Css}{ces:Ces}
def yeo (f:∀x,Pr (YE γ κ x ca))(s:Bv):Pr (YS γ κ s (.expr ca)) :=
 match s with
 | .Expr a _=>an (ask (nco a=AC)) λhs=>an (f a) λh=>ok λm S X G=>zkw (h m S X G) (swp hs)
 |_=>AE
def ye3 (i:Nat)(f:∀x,Pr (YE γ κ x ca))(s:Bv):Pr (YS γ κ s (.asg (.n i) ca)) :=
 match s with
 | .Assign [.Name x _] a _=>an (ask (nco a=AC/\setB κ i x=AC)) λhs=>an (f a) λh=>ok λm S X G=>let q:=zaN G hs.2;znG q.d q.i q.l (h m S X G) (swp hs.1) q.f
 |_=>AE
theorem ye0 {a:AV}(h:nst a=AC):(match (generalizing:=false) a with | .Starred _ _=>AC|_=>AD)=false:=by
 revert h;cases a <;> intro h <;> first|rfl|cases h
def swD (so:Bi)(x y:AR)(px py:CT)(a b:AV):Bool:=(if so.kind.isAnnotationScope then Fb else so.kind) == .function && so.names.lookup x == AA .local && so.names.lookup y == AA .local && py.line == px.line && nst a && nst b && !(x == y) && !(foldedForSure 8 a && foldedForSure 8 b) && !(constantsAlone 8 a && constantsAlone 8 b)
theorem ygm {x y:AR}{px py pt pt2:CT}{kt k2:Nat}{a b:AV}{env:B2}(h:swD env.scope x y px py a b=AC) :
  swappedStores [.Tuple [.Name x px,.Name y py] kt pt] (.Tuple [a,b] k2 pt2) env=pure (AA [x,y]):=by
 simp only[swD,AL,Cb]at h
 obtain⟨⟨⟨⟨⟨⟨⟨⟨h1,h2⟩,h3⟩,h4⟩,h5⟩,h6⟩,h7⟩,h8⟩,h9⟩:=h
 have k1:(env.blockKind != .function)=false:=by
  show (!((if env.scope.kind.isAnnotationScope then Fb else env.scope.kind) == .function))=AD
  rw[h1];rfl
 have k2:env.kindOf x=AA .local:=eq_of_beq h2
 have k3:env.kindOf y=AA .local:=eq_of_beq h3
 have k4:py.line=px.line:=eq_of_beq h4
 have k7:¬y=x:=λz=>by subst z;simp at h7
 have m1:=ye0 h5
 have m2:=ye0 h6
 have c8:¬(foldedForSure 8 a=AC/\foldedForSure 8 b=AC):=λz=>by rw[z.1,z.2]at h8;cases h8
 have c9:¬(constantsAlone 8 a=AC/\constantsAlone 8 b=AC):=λz=>by rw[z.1,z.2]at h9;cases h9
 have x1:(Expr.Name x px).pos=px:=rfl
 have x2:(Expr.Name y py).pos=py:=rfl
 unfold swappedStores
 simp[k1,m1,m2,k2,k3,k4,List.eraseDups_cons,k7,x1,x2,c8,c9,Bn]
 intro z
 exfalso
 rcases z with z|z
 .exact Az (m1.symm.trans z)
 .exact Az (m2.symm.trans z)
def yfs (i j:Nat)(fa:∀x,Pr (YE γ κ x ca))(fb:∀x,Pr (YE γ κ x cb))(s:Bv):Pr (YS γ κ s (.asg (.t [i,j]) (.tup (.cons ca (.cons cb .nil))))) :=
 match s with
 | .Assign [.Tuple [.Name x px,.Name y py] _ _] (.Tuple [a,b] _ _) _=>an (ask (setB κ i x=AC/\setB κ j y=AC/\i≠j/\swD κ.sc x y px py a b=AC)) λh=>an (fa a) λha=>an (fb b) λhb=>ok λm S X G=>by
  obtain⟨h1,h2,h3,h4⟩:=h
  have q:=zaN G h1
  have r:=zaN G h2
  have h5:=h4
  simp only[swD,AL]at h5
  have e1:X.env.scope.names.lookup x=AA .local:=by rw[G.sc];exact eq_of_beq h5.1.1.1.1.1.1.1.2
  have e2:X.env.scope.names.lookup y=AA .local:=by rw[G.sc];exact eq_of_beq h5.1.1.1.1.1.1.2
  exact zmx G.calm q.d q.i r.i h3 (zno G.calm q.d q.i r.i h3 e1 e2 (zed (ha m S X G) (zed (hb m S X G) zhA (yae h5.1.1.1.2)) (yae h5.1.1.1.1.2)) (ygm (by rw[G.sc];exact h4)))
 |_=>AE
theorem sw0 {es:List AV}{k:Nat}{p:CT}{a:AV}{env:B2}(h:ntu a=AC):swappedStores [.Tuple es k p] a env=pure none:=by
 cases a <;> first|rfl|cases h
theorem sw1 {b c:AV}{p:CT}{a:AV}{env:B2}:swappedStores [.Subscript b c p] a env=pure none:=by
 cases a <;> rfl
theorem yfb {t a:AV}{l:Nat}{env:B2}(h:nco a=AC):swapsWithSole [t] a l env=pure false:=by
 show swapsWith a (AA t) l env=_
 exact swp h
theorem asS {b c:AV}{pos:CT}{env:B2}(h:nsl c=AC):∀v,assign (.Subscript b c pos) env v=(do
   let ov <- holding [v] (eval b env)
   let iv <- holding [v,ov] (eval c env)
   standAt pos
   holding [v,ov,iv] (setItem ov iv v)
   release [v,ov,iv] []):=by
 cases c <;> first|exact λ_=>rfl|cases h
def yg3 (l:List Nat)(f:∀x,Pr (YE γ κ x ca))(s:Bv):Pr (YS γ κ s (.asg (.t l) ca)) :=
 match s with
 | .Assign [.Tuple es k p] a _=>an (ask (nco a=AC/\ntu a=AC)) λhs=>an (mTg (γ:=γ) (κ:=κ) (.t l) (.Tuple es k p)) λhg=>an (f a) λh=>ok λm S X G=>zlK (h m S X G) (hg m S X G) (yfb hs.1) (sw0 hs.2)
 |_=>AE
def yg5 (f:∀x,Pr (YE γ κ x cc))(fo:∀x,Pr (YE γ κ x ca))(fi:∀x,Pr (YE γ κ x cb))(s:Bv):Pr (YS γ κ s (.six ca cb cc)) :=
 match s with
 | .Assign [.Subscript b c _] a _=>an (ask (nco a=AC/\nsl c=AC)) λhs=>an (f a) λh=>an (fo b) λho=>an (fi c) λhi=>ok λm S X G=>znJ (h m S X G) (ho m S X G) (hi m S X G) (yfb hs.1) sw1 (zjR (ho m S X G) (hi m S X G) zfw (asS hs.2))
 |_=>AE
def yeB (f:∀x,Pr (YE γ κ x cc))(fo:∀x,Pr (YE γ κ x ca))(fi:∀x,Pr (YE γ κ x cb))(s:Bv):Pr (YS γ κ s (.dput ca cb cc)) :=
 match s with
 | .Assign [.Subscript b c _] a _=>an (ask (nco a=AC)) λhs=>an (f a) λh=>an (fo b) λho=>an (fi c) λhi=>ok λm S X G=>zkU (zlh G.room) (ho m S X G) (hi m S X G) (h m S X G) (swp hs)
 |_=>AE
def yfK (op:D6)(o:BOp):Pr (∀S X,PIp X op (rT2 S X (ybY o))) :=
 match op,o with
 | .Add,.add=>ok λ_ _=>zlD
 |_,_=>AE
def ygG (i:Nat)(o:BOp)(f:∀x,Pr (YE γ κ x ca))(s:Bv):Pr (YS γ κ s (.aug i o ca)) :=
 match s with
 | .AugAssign (.Name x _) op a _=>an (ask (setB κ i x=AC)) λh=>an (yfK op o) λhp=>an (f a) λha=>ok λm S X G=>let q:=zaN G h;zmq q.d q.i q.l (ha m S X G) (hp S X) q.f (yby q.p) (ydQ q.p)
 |_=>AE
def ygs (c:Ce)(f:∀x,Pr (YE γ κ x c))(s:Bv):Pr (YS γ κ s (.ret c)) :=
 match s with
 | .Return (AA a) _=>an (f a) λh=>ok λm S X G=>znm (h m S X G)
 | .Return AE _=>match c with
  | .cst .non=>ok λ_ _ _ _=>zkF
  |_=>AE
 |_=>AE
def sIf (fc:∀x,Pr (YT γ κ x cc))(fa:∀x,Pr (YSs γ κ x cs))(fb:∀x,Pr (YSs γ κ x cs'))(s:Bv):Pr (YS γ κ s (.ite cc cs cs')) :=
 match s with
 | .If c a b _=>an (fc c) λhc=>an (fa a) λha=>an (fb b) λhb=>ok λm S X G=>zou (hc m S X G) (ha m S X G) (hb m S X G)
 |_=>AE
def ygf (ct:Tg)(fi:∀tg l,Pr (YI γ κ tg l ci))(fb:∀x,Pr (YSs γ κ x cs))(s:Bv):Pr (YS γ κ s (.for ct ci cs)) :=
 match s with
 | .For tg l b [] _=>an (ask (κ.own=AC/\nse l=AC)) λho=>an (fi tg l) λhi=>an (mTg (γ:=γ) (κ:=κ) ct tg) λhg=>an (fb b) λhb=>ok λm S X G=>zn1 (G.own ho.1).1 G.calm (hi m S X G) (hg m S X G) (hb m S X G) (fse ho.2)
 |_=>AE
def sWh (fc:∀x,Pr (YT γ κ x cc))(fb:∀x,Pr (YSs γ κ x cs))(s:Bv):Pr (YS γ κ s (.while cc cs)) :=
 match s with
 | .While c b [] _=>an (ask (κ.own=AC)) λho=>an (fc c) λhc=>an (fb b) λhb=>ok λm S X G=>zjB (G.own ho).1 (hc m S X G) (hb m S X G)
 |_=>AE
def yfx (c:Nat)(f:AR)(fo:∀x,Pr (YE γ κ x ca))(fv:∀x,Pr (YE γ κ x cb))(s:Bv):Pr (YS γ κ s (.sfl c ca f cb)) :=
 match s with
 | .Assign [.Attribute a g _] b _=>an (ask (g=f/\γ.fl c f=AC/\nco b=AC)) λh=>an (fo a) λha=>an (fv b) λhb=>ok λm S X G=>by
  obtain⟨rfl,h1,h2⟩:=h
  exact zm1 (G.glo.A c g h1).1 (G.glo.A c g h1).2 (ha m S X G) (hb m S X G) (swp h2)
 |_=>AE
def yg9 (c i:Nat)(f:AR)(j:Int)(fo:∀x,Pr (YE γ κ x (.var i)))(fv:∀x,Pr (YE γ κ x (.cst (.int j))))(s:Bv):Pr (YS γ κ s (.sfl c (.var i) f (.bin .add (.fld c (.var i) f) (.cst (.int j))))) :=
 match s with
 | .AugAssign (.Attribute a g _) .Add b _=>an (ask (g=f/\γ.fl c f=AC)) λh=>an (fo a) λha=>an (fv b) λhb=>ok λm S X G=>by
  obtain⟨rfl,h1⟩:=h
  exact zmQ (G.glo.A c g h1).1 (G.glo.A c g h1).2 (ha m S X G) (hb m S X G)
 |_=>AE
def ygg (c:Nat)(o:Ce)(f:AR)(e:Ce)(O:Ev γ o)(E:Ev γ e)(s:Bv):Pr (YS γ κ s (.sfl c o f e)) :=
 match s with
 | .AugAssign t op b p=>match o,e with
  | .var i,.bin .add (.fld c' (.var i') f') (.cst (.int j))=>an (ask (c'=c/\i'=i/\f'=f)) λh=>an (yg9 (γ:=γ) (κ:=κ) c i f j (λx=>yfg i x) (λx=>yfk (.int j) x) (.AugAssign t op b p)) λq=>ok (by
    obtain⟨rfl,rfl,rfl⟩:=h
    exact q)
  |_,_=>AE
 |s=>yfx c f (O.e κ) (E.e κ) s
def ygV (ix:Nat)(D:List (AR×Nat)){cn:Ce}{ces:Ces}(fn:∀x,Pr (YE γ κ x cn))(F:Fs γ κ ces)(ss:List Bv):Pr (YSs γ κ ss (.cons (.mkr ix D cn ces) .nil)) :=
 match ss with
 | [.Assign [.Name x _] (.Subscript (.Name y _) n _) _,.Return (AA (.Call (.Name x' _) (e::es) [] _)) _]=>match hy:γ.mr y with
  |some E=>an (ask (E=D/\x'=x/\setB κ ix x=AC/\ydX κ.sc x=AC/\glB κ y=AC/\nsl n=AC/\nst e=AC/\yb0 es=AC)) λh=>an (fn n) λhn=>an (ya5 F (e::es)) λha=>ok λm S X G=>by
   obtain⟨rfl,rfl,h1,h2,h3,h4,h5,h6⟩:=h
   have q:=zaN G h1
   obtain⟨fa,fdd,ps,M,d⟩:=G.glo.K y E hy
   exact zm9 M (G.room.mono (Cf m)) q.d q.i q.l (by rw[G.sc];exact zhq h2) (zai G h3) d (hn m S X G) (ha m S X G) (nos h4) (swp rfl) q.f (yby (zbp h3)) (yby q.p) (ydQ q.p) (yae h5) (stars h6)
  |none=>AE
 |_=>AE
end
mutual
noncomputable def chS (γ:Gs):(c:Cs)->(κ:Kx)->∀s,Pr (YS γ κ s c)
 | .expr e,κ=>yeo ((ch γ e).e κ)
 | .asg (.n i) c,κ=>ye3 i ((ch γ c).e κ)
 | .asg (.t [i,j]) (.tup (.cons a (.cons b .nil))),κ=>yfs i j ((ch γ a).e κ) ((ch γ b).e κ)
 | .asg (.t l) c,κ=>yg3 l ((ch γ c).e κ)
 | .six o i e,κ=>yg5 ((ch γ e).e κ) ((ch γ o).e κ) ((ch γ i).e κ)
 | .dput o i e,κ=>yeB ((ch γ e).e κ) ((ch γ o).e κ) ((ch γ i).e κ)
 | .aug i o e,κ=>ygG i o ((ch γ e).e κ)
 | .ret e,κ=>ygs e ((ch γ e).e κ)
 | .ite c a b,κ=>sIf ((ch γ c).t κ) (yda γ a κ) (yda γ b κ)
 | .for t it b,κ=>ygf t (chi γ it κ) (yda γ b κ)
 | .while c b,κ=>sWh ((ch γ c).t κ) (yda γ b κ)
 | .nope,_=>λ_=>ok λ_ _ _ _=>zl8
 | .sfl c o f e,κ=>ygg c o f e (ch γ o) (ch γ e)
 |_,_=>λ_=>AE
noncomputable def yda (γ:Gs):(c:Css)->(κ:Kx)->∀s,Pr (YSs γ κ s c)
 | .nil,_,[]=>ok λ_ _ _ _=>znz
 | .cons (.mkr ix D cn ces) .nil,κ,ss=>ygV ix D ((ch γ cn).e κ) (chs γ ces κ) ss
 | .cons c cs,κ,s::ss=>an (chS γ c κ s) λh=>an (yda γ cs κ ss) λhr=>ok λm S X G=>zlT (h m S X G) (hr m S X G)
 |_,_,_=>AE
end
inductive Dk where
 | fn|fd (ds:List Int)|me (c:Nat)|ini (c:Nat)
structure Df where
 gn:AR
 nm:AR
 q:AR
 st:Bv
 N:List AR
 ps:List AR
 fn:IC.Fn
 k:Dk
def scB (N P:List AR)(sc:Bi):Bool:=decide (sc.kind=.function) && !sc.isCoroutine && !sc.isGenerator && decide N.Nodup && decide (N.take P.length=P) && P.all (ydR sc) && sc.names.all λy=>y.2 != .free
theorem zmE {N P:List AR}{sc:Bi}(h:scB N P sc=AC):ybc N P sc:=by
 simp only[scB,AL,decide_eq_true_eq,Cb,BX,bne_iff_ne,ne_eq]at h
 obtain⟨⟨⟨⟨⟨⟨h1,h2⟩,h3⟩,h4⟩,h5⟩,h6⟩,h7⟩:=h
 exact⟨h1,h2,h3,h4,h5,λx hx=>zg0 (h6 x hx),h7⟩
def okD (γ:Gs)(d:Df):Bool:=scB d.N d.ps (yG d.st) && decide (d.ps.length=d.fn.np) && decide (d.N.length=d.fn.ns) && (yda γ d.fn.body ⟨d.N,yG d.st,AC⟩ (yac d.st)).isSome
noncomputable def yb3 {α:Type}(P:α->Prop):List α->Prop
 | []=>True
 |d::r=>P d/\yb3 P r
theorem yb3.get {α:Type}{P:α->Prop}:∀{l:List α},yb3 P l->∀d∈l,P d
 |_::_,h,d,hd=>by
  rcases AU.1 hd with rfl|hd
  .exact h.1
  .exact h.2.get d hd
noncomputable def ybJ:List AR->(List AH->Prop)->Prop
 | [],P=>P []
 |_::r,P=>∀a,ybJ r λus=>P (a::us)
theorem ybJ.get:∀{ps:List AR} {P:List AH->Prop},ybJ ps P->∀us,us.length=ps.length->P us
 | [],P,h,[],_=>h
 |_::r,P,h,a::us,e=>(h a).get us (by simpa using e)
def ybk (d:Df):Prop:=∀(kV doc pm:AH) (an:Option AJ) (cdv ct:AH),ybJ d.ps λus=>bindArgs (B7 d.nm d.q (yad d.st) (yac d.st) (yG d.st) .none kV doc pm an cdv ct) ⟨us,[]⟩=pure (d.ps.zip us)
structure ycE (K:AG)(d:Df)(dv:AH)(f:AJ)(fd:BC):Prop where
 ex:∃(oc:AH) (od:Option AJ) (kV doc pm:AH) (an:Option AJ) (cdv ct:AH) (osl:Array (Option AH)),
  fd=B7 d.nm d.q (yad d.st) (yac d.st) (yG d.st) dv kV doc pm an cdv ct/\K.lookup f=AA ⟨oc,od,.func fd,osl⟩/\CL K cdv d.q=AC
 kp:As K (.ref f)=AC
def At (K:AG)(cn:Nat->AR)(d:Df)(f:AJ):Prop :=
 match d.k with
 | .fn=>BO K mainGlobals d.gn=AA (AA (.ref f))/\ybk d
 | .fd _=>BO K mainGlobals d.gn=AA (AA (.ref f))
 | .me c=>ybk d/\∃q,BO K mainGlobals (cn c)=AA (AA (.ref q))/\Av K (.ref q) d.nm=AA (AA (.ref f))/\Cp K (.ref f)=AC
 | .ini c=>ybk d/\∃q,BO K mainGlobals (cn c)=AA (AA (.ref q))/\Av K (.ref q) d.nm=AA (AA (.ref f))/\Cp K (.ref f)=AC/\D9 K q=AC/\As K (.ref q)=AC
def DvP (K:AG)(d:Df)(dv:AH):Prop :=
 match d.k with
 | .fd ds=>∃dT o its n,dv=.ref dT/\K.lookup dT=AA o/\o.data=.seq its n/\Vals (ds.map V.int) its.toList
 |_=>dv=.none
def yc5 (K:AG)(cn:Nat->AR)(d:Df):Prop:=∃dv f fd,ycE K d dv f fd/\At K cn d f/\DvP K d dv
section
variable {K:AG}{cn:Nat->AR}{gn nm:AR}{st:Bv}{N ps:List AR}{fn:IC.Fn}{f:AJ}{oc:AH}{od:Option AJ}{kV doc pm:AH}{an:Option AJ}{cdv ct:AH}{osl:Array (Option AH)}
theorem rowFn (a:BO K mainGlobals gn=AA (AA (.ref f)))(l:K.lookup f=AA ⟨oc,od,.func (B7 nm nm (yad st) (yac st) (yG st) .none kV doc pm an cdv ct),osl⟩)
  (c:CL K cdv nm=AC) (p:As K (.ref f)=AC) (b:ybk ⟨gn,nm,nm,st,N,ps,fn,.fn⟩):yc5 K cn ⟨gn,nm,nm,st,N,ps,fn,.fn⟩ :=
 ⟨.none,f,_,⟨⟨oc,od,kV,doc,pm,an,cdv,ct,osl,rfl,l,c⟩,p⟩,⟨a,b⟩,rfl⟩
theorem rowFd {ds:List Int}{dT:AJ}{o:CB}{its:Array AH}{n:Nat}(a:BO K mainGlobals gn=AA (AA (.ref f)))(l:K.lookup f=AA ⟨oc,od,.func (B7 nm nm (yad st) (yac st) (yG st) (.ref dT) kV doc pm an cdv ct),osl⟩)
  (c:CL K cdv nm=AC) (p:As K (.ref f)=AC) (d:K.lookup dT=AA o) (e:o.data=.seq its n) (v:Vals (ds.map V.int) its.toList):yc5 K cn ⟨gn,nm,nm,st,N,ps,fn,.fd ds⟩ :=
 ⟨.ref dT,f,_,⟨⟨oc,od,kV,doc,pm,an,cdv,ct,osl,rfl,l,c⟩,p⟩,a,dT,o,its,n,rfl,d,e,v⟩
theorem rowMe {qn:AR}{cc:Nat}{q:AJ}(z:BO K mainGlobals (cn cc)=AA (AA (.ref q)))(a:Av K (.ref q) nm=AA (AA (.ref f)))(i:Cp K (.ref f)=AC)(l:K.lookup f=AA ⟨oc,od,.func (B7 nm qn (yad st) (yac st) (yG st) .none kV doc pm an cdv ct),osl⟩)
  (c:CL K cdv qn=AC) (p:As K (.ref f)=AC) (b:ybk ⟨gn,nm,qn,st,N,ps,fn,.me cc⟩):yc5 K cn ⟨gn,nm,qn,st,N,ps,fn,.me cc⟩ :=
 ⟨.none,f,_,⟨⟨oc,od,kV,doc,pm,an,cdv,ct,osl,rfl,l,c⟩,p⟩,⟨b,q,z,a,i⟩,rfl⟩
theorem rowIni {qn:AR}{cc:Nat}{q:AJ}(z:BO K mainGlobals (cn cc)=AA (AA (.ref q)))(a:Av K (.ref q) nm=AA (AA (.ref f)))(i:Cp K (.ref f)=AC)(l:K.lookup f=AA ⟨oc,od,.func (B7 nm qn (yad st) (yac st) (yG st) .none kV doc pm an cdv ct),osl⟩)
  (c:CL K cdv qn=AC) (p:As K (.ref f)=AC) (b:ybk ⟨gn,nm,qn,st,N,ps,fn,.ini cc⟩) (mk:D9 K q=AC) (kq:As K (.ref q)=AC):yc5 K cn ⟨gn,nm,qn,st,N,ps,fn,.ini cc⟩ :=
 ⟨.none,f,_,⟨⟨oc,od,kV,doc,pm,an,cdv,ct,osl,rfl,l,c⟩,p⟩,⟨b,q,z,a,i,mk,kq⟩,rfl⟩
theorem gdf_mk {w:Af}{h:BB}{mg:AR->Option AH}{x:AR}{D:List (AR×Nat)}{fa:Nat->AJ}{y:AJ}{es:Array CH}{ep:Nat}(X:K.In h)(G:h.Ns mainGlobals mg)(a:BO K mainGlobals x=AA (AA (.ref y)))(l:K.lookup y=AA ⟨.type "dict",AE,.dict es ep,#[]⟩)
  (r:ycg w fa D es.toList) (n:(D.map (·.1)).Nodup):GDF K w mg fa x D:=⟨y,es,ep,E0 X G a,l,r,n⟩
theorem gd_mk {w:Af}{h:BB}{mg:AR->Option AH}{x:AR}{D:List (AR×PV)}{cl:Nat->AJ}{y:AJ}{es:Array CH}{ep:Nat}(X:K.In h)(G:h.Ns mainGlobals mg)(a:BO K mainGlobals x=AA (AA (.ref y)))(l:K.lookup y=AA ⟨.type "dict",AE,.dict es ep,#[]⟩)
  (s:(y == sysModules)=AD) (r:ycl K cl w D es.toList) (n:(D.map (·.1)).Nodup):GD K w mg cl x D:=⟨y,es,ep,E0 X G a,l,s,r,n⟩
end
abbrev KoV (K:AG)(v:PV)(u:AH):Prop:=∃x:V,RelV x u/\∀cl B φ H,yd K cl B φ H v x
abbrev KoL (K:AG)(vs:List PV)(us:List AH):Prop:=∃xs:List V,Vals xs us/\∀cl B φ H,yg K cl B φ H vs xs
mutual
noncomputable def yeJ (K:AG):(v:PV)->(u:AH)->Pr (KoV K v u)
 | .int i,.int j t=>an (ask (i=j)) λh=>ok ⟨.int i,⟨t,by rw[h]⟩,λ_ _ _ _=>by simp only[yd]⟩
 | .str i,.str j t=>an (ask (i=j)) λh=>ok ⟨.str i,⟨t,by rw[h]⟩,λ_ _ _ _=>by simp only[yd]⟩
 | .tp AC vs,.ref a=>match h:K.lookup a with
  |some ⟨c,_,.seq its n,_⟩=>an (ask (c=.type "tuple"/\its.size<=sizeLine)) λq=>an (ydq K vs its.toList) λr=>ok (by
    obtain⟨xs,r1,r2⟩:=r
    refine⟨.ref a,rfl,λcl B φ H=>?_⟩
    simp only[yd]
    exact⟨a,xs,rfl,.inr ⟨rfl,_,its,n,h,q.1,rfl,q.2,r1⟩,r2 cl B φ H⟩)
  |_=>AE
 |_,_=>AE
noncomputable def ydq (K:AG):(vs:List PV)->(us:List AH)->Pr (KoL K vs us)
 | [],[]=>ok ⟨[],.nil,λ_ _ _ _=>by simp only[yg]⟩
 |v::vs,u::us=>an (yeJ K v u) λh=>an (ydq K vs us) λr=>ok (by
   obtain⟨x,h1,h2⟩:=h
   obtain⟨xs,r1,r2⟩:=r
   refine⟨x::xs,.cons h1 r1,λcl B φ H=>?_⟩
   simp only[yg]
   exact⟨x,xs,rfl,h2 cl B φ H,r2 cl B φ H⟩)
 |_,_=>AE
end
theorem con_row {K:AG}{cl:Nat->AJ}{w:Af}{k:AR}{v:PV}{tk:HF}{u:AH}{D:List (AR×PV)}{es:List CH}(c:(yeJ K v u).isSome=AC)(h:ycl K cl w D es):ycl K cl w ((k,v)::D) (⟨EG w.params k,.str k tk,u⟩ :: es):=by
 obtain⟨⟨x,r,q⟩,_⟩:=Au.1 c
 exact .cons r (q cl) h
theorem frow_cons {w:Af}{fa:Nat->AJ}{k:AR}{i:Nat}{tk:HF}{a:AJ}{D:List (AR×Nat)}{es:List CH}(e:fa i=a)(h:ycg w fa D es):ycg w fa ((k,i)::D) (⟨EG w.params k,.str k tk,.ref a⟩ :: es):=by
 subst e;exact .cons h
structure Tb where
 tbl:List Df
 al:List (AR×GK)
 bs:List AR
 ts:List Ty
 fl:List (Nat×AR)
 me:List ((Nat×AR)×Nat)
 kb:List ((Nat×Nat×List AR)×List (Option Int))
 cn:List (Nat×AR)
 dd:List (AR×List (AR×PV))
 ml:List (AR×List (AR×Nat))
noncomputable abbrev eF (x:AR)(i:Nat):AR×GK:=(x,.fn i)
noncomputable abbrev eD (x:AR)(i:Nat):AR×GK:=(x,.fnD i)
noncomputable abbrev eC (x:AR)(v:PV):AR×GK:=(x,.cst v)
noncomputable abbrev eG (x:AR)(g:GK):AR×GK:=(x,g)
noncomputable abbrev eN (c:Nat)(x:AR):Nat×Str:=(c,x)
noncomputable abbrev eM (c:Nat)(x:AR)(i:Nat):(Nat×AR)×Nat:=((c,x),i)
noncomputable abbrev eK (i n:Nat)(ks:List AR)(sh:List (Option Int)):(Nat×Nat×List AR)×List (Option Int):=((i,n,ks),sh)
noncomputable abbrev eL (x:AR)(d:List (AR×Nat)):AR×List (AR×Nat):=(x,d)
noncomputable abbrev eB (x:AR)(d:List (AR×PV)):AR×List (AR×PV):=(x,d)
noncomputable def tyE:Ty->Ty->Bool
 | .int,.int=>AC
 | .bool,.bool=>AC
 | .str,.str=>AC
 | .tuple,.tuple=>AC
 | .list,.list=>AC
 |_,_=>AD
theorem zme {a b:Ty}(h:tyE a b=AC):a=b:=by
 cases a <;> cases b <;> first|rfl|cases h
def Tb.gs (t:Tb):Gs:=⟨λx=>t.al.lookup x,λx=>t.bs.contains x,λy=>t.ts.any (tyE y),λc f=>t.fl.contains (c,f),λc n=>t.me.lookup (c,n),λi n ks=>t.kb.lookup (i,n,ks),λx=>t.ml.lookup x⟩
noncomputable def nmA (K:AG)(x:AR):Option Addr:=match BO K mainGlobals x with
 |some (AA (.ref q))=>AA q
 |_=>AE
def clA (K:AG)(t:Tb)(c:Nat):Addr:=((t.cn.lookup c).bind (nmA K)).getD 0
noncomputable def cnm (t:Tb)(c:Nat):Str:=(t.cn.lookup c).getD ""
def faA (K:AG)(t:Tb)(i:Nat):Addr:=match t.tbl[i]? with
 |some d=>match d.k with
  | .fn=>(nmA K d.gn).getD 0
  | .fd _=>(nmA K d.gn).getD 0
  | .me c=>match Av K (.ref (clA K t c)) d.nm with
   |some (AA (.ref f))=>f
   |_=>0
  | .ini c=>match Av K (.ref (clA K t c)) d.nm with
   |some (AA (.ref f))=>f
   |_=>0
 |none=>0
noncomputable def ydE:Dk->Bool
 | .fn=>AC
 |_=>AD
noncomputable def yeH:Dk->Bool
 | .fd _=>AC
 |_=>AD
noncomputable def ygr:PV->Bool
 | .int _=>AC
 | .tp _ _=>AC
 |_=>AD
def alB (K:AG)(t:Tb):AR×GK->Bool
 | (x,.fn i)=>match t.tbl[i]? with
  |some d=>ydE d.k && (decide (x=d.gn) || decide (nmA K x=nmA K d.gn))
  |none=>AD
 | (x,.fnD i)=>match t.tbl[i]? with
  |some d=>yeH d.k && (decide (x=d.gn) || decide (nmA K x=nmA K d.gn))
  |none=>AD
 | (x,.cst v)=>ygr v && match BO K mainGlobals x with
  |some (AA u)=>(yeJ K v u).isSome
  |_=>AD
 | (x,.dct d)=>t.dd.any λp=>decide (p.1=x) && (eqD p.2 d).isSome
 | (x,.exc c)=>decide (t.cn.lookup c=AA x) && (nmA K x).any λq=>F2 K q [.type "ValueError",.type "Exception",.type "BaseException",.type "object"] "ValueError.__new__"
 | (x,.cls c i)=>decide (t.cn.lookup c=AA x) && (nmA K x).isSome && match t.tbl[i]? with
  |some d=>match d.k with
   | .ini c'=>decide (c'=c) && decide (d.nm="__init__")
   |_=>AD
  |none=>AD
def yfh (K:AG)(t:Ty):Bool :=
 decide (B5 K (.type "NoneType") (.type (tyN t))=AA (ybA .non t)) && decide (B5 K (.type "bool") (.type (tyN t))=AA (ybA (.bl AC) t)) && decide (B5 K (.type "int") (.type (tyN t))=AA (ybA (.int 0) t)) && decide (B5 K (.type "str") (.type (tyN t))=AA (ybA (.str GA) t)) && decide (B5 K (.type "tuple") (.type (tyN t))=AA (ybA (.tp AC []) t)) && decide (B5 K (.type "list") (.type (tyN t))=AA (ybA (.lst []) t))
noncomputable def yd0 (K:AG)(q:AJ):Bool:=Co K q GA && DF K q && ER K q && decide (Av K (.ref q) "__setattr__"=AA (AA (.builtin "object.__setattr__")))
theorem zhx {K:AG}{q:AJ}(h:yd0 K q=AC):Cls K q:=by
 simp only[yd0,AL,decide_eq_true_eq]at h
 exact⟨h.1.1.1,h.1.1.2,h.1.2,h.2⟩
def yey (K:AG)(t:Tb):Bool :=
 t.al.all (alB K t) && t.bs.all (λx=>decide (BO K mainGlobals x=AA AE)) && t.ts.all (yfh K) &&
  t.fl.all (λp=>(t.cn.lookup p.1).isSome && (nmA K (cnm t p.1)).any λq=>yd0 K q && decide (Av K (.ref q) p.2=AA AE)) &&
  t.me.all (λp=>(t.cn.lookup p.1.1).isSome && (nmA K (cnm t p.1.1)).any λq=>yd0 K q && match t.tbl[p.2]? with
   |some d=>(match d.k with
    | .me c=>decide (c=p.1.1)
    |_=>AD) && decide (d.nm=p.1.2)
   |none=>AD) &&
  t.ml.all λp=>p.2.all λq=>match t.tbl[q.2]? with
   |some d=>ydE d.k
   |none=>AD
noncomputable def fd0:FuncData:=B7 "" "" (yad (.Pass ⟨0,0,0,0⟩)) [] (yG (.Pass ⟨0,0,0,0⟩)) .none .none .none .none AE .none .none
def fdA (K:AG)(t:Tb)(i:Nat):FuncData:=match K.lookup (faA K t i)with
 |some ⟨_,_,.func fd,_⟩=>fd
 |_=>fd0
noncomputable def psA (t:Tb)(i:Nat):List Str:=match t.tbl[i]? with
 |some d=>d.ps
 |none=>[]
theorem lkm {α β:Type}[BEq α][LawfulBEq α]{x:α}{k:β}:∀{l:List (α×β)},l.lookup x=AA k->(x,k)∈l
 | [],h=>nomatch h
 |y::l,h=>by
  rw[Bg]at h
  cases hx:x == y.1 with
  |true=>rw[hx]at h;cases h;rw[eq_of_beq hx];exact Ai
  |false=>rw[hx]at h;exact AS _ (lkm h)
def KbP (t:Tb)(p:(Nat×Nat×List AR)×List (Option Int)):Prop:=∀d ds,t.tbl[p.1.1]?=AA d->d.k=.fd ds->∀(K:AG) (mg:AR->Option AH) (f:AJ) (fd:BC),FnD K mg d.nm d.st d.ps ds f fd->∃g,ybH K fd d.ps p.1.2.2 g (gK p.1.2.1 p.2)
structure Fact (t:Tb)(w:Af)(K:AG)(mg:AR->Option AH):Prop where
 X:∀x u,BO K mainGlobals x=AA u->mg x=u
 R:yb3 (yc5 K (cnm t)) t.tbl
 B:yey K t=AC
 D:yb3 (λp=>∀cl,GD K w mg cl p.1 p.2) t.dd
 Kb:yb3 (KbP t) t.kb
 Ml:yb3 (λp=>GDF K w mg (faA K t) p.1 p.2) t.ml
theorem zmZ {K:AG}{x:AR}{q:AJ}(h:nmA K x=AA q):BO K mainGlobals x=AA (AA (.ref q)):=by
 unfold nmA at h
 split at h
 .cases h;assumption
 .cases h
theorem zcc {K:AG}{x:AR}{q:AJ}(h:BO K mainGlobals x=AA (AA (.ref q))):nmA K x=AA q:=by
 simp only[nmA,h]
theorem zfL {K:AG}{t:Tb}{c:Nat}{q:AJ}(h:nmA K (cnm t c)=AA q)(hc:(t.cn.lookup c).isSome=AC):clA K t c=q:=by
 obtain⟨x,e⟩:=Au.1 hc
 simp only[clA,e,BW]
 simp only[cnm,e,CJ]at h
 rw[h];rfl
noncomputable def okT (t:Tb)(d:Df):Bool:=okD t.gs d && match d.k with
 | .fn=>AC
 | .fd _=>decide (d.q=d.nm)
 | .me c=>(t.cn.lookup c).isSome
 | .ini c=>(t.cn.lookup c).isSome && decide (d.nm="__init__")
section
variable {t:Tb}{w:Af}{K:AG}{mg:AR->Option AH}{T:Nat->Option IC.Fn}{P:A4}{base:BB}{k:Nat}
theorem zdn (F:Fact t w K mg)(O:∀d∈t.tbl,okT t d=AC){i:Nat}{d:Df}(h:t.tbl[i]?=AA d):∃dv fd,ycE K d dv (faA K t i) fd/\At K (cnm t) d (faA K t i)/\DvP K d dv:=by
 have hm:=A1 h
 obtain⟨dv,f,fd,h1,h2,h3⟩:=F.R.get d hm
 have e:f=faA K t i:=by
  have o:=O d hm
  simp only[okT,AL]at o
  have o:=o.2
  simp only[faA,h]
  unfold At at h2
  cases q:d.k with
  |fn =>
   rw[q]at h2
   simp only[zcc h2.1,CJ]
  |fd ds =>
   rw[q]at h2
   have h2:BO K mainGlobals d.gn=AA (AA (.ref f)):=h2
   simp only[zcc h2,CJ]
  |me c =>
   rw[q]at h2 o
   obtain⟨_,q',e1,e2,_⟩:=h2
   simp only[zfL (zcc e1) o,e2]
  |ini c =>
   rw[q]at h2 o
   obtain⟨_,q',e1,e2,_⟩:=h2
   simp only[AL]at o
   simp only[zfL (zcc e1) o.1,e2]
 subst e
 exact⟨dv,fd,h1,h2,h3⟩
theorem ycE.binds {d:Df}{f:AJ}{fd:BC}(R:ycE K d .none f fd)(b:ybk d):Binds K fd d.ps [] :=
 Fun.binds ⟨R.ex,R.kp⟩ λkV doc pm an cdv ct us hl=>(b kV doc pm an cdv ct).get us hl
theorem ycE.ok {d:Df}{dv:AH}{f:AJ}{fd:BC}{fi m:Nat}{cl:Nat->AJ}(R:ycE K d dv f fd)(hT:T fi=AA d.fn)(Sc:ybc d.N d.ps (yG d.st))(hnp:d.ps.length=d.fn.np)(hns:d.N.length=d.fn.ns)
  (body:∀(cdv:AH) (A:Ar) (outer:List B2) (s:AK) (H:Hp) (E:XK),yar m (A.deeper (envOfC d.q (yG d.st) s.heap.objs.size f cdv)) ->
   PSs (yaZ (CX1 P w) P w K mg base d.N d.q (yG d.st) f cdv A outer s H E) (yac d.st) (tSs ⟨cl,yc T k,AC⟩ (yaZ (CX1 P w) P w K mg base d.N d.q (yG d.st) f cdv A outer s H E) d.fn.body)) :
  yaJ P w K mg base (CX1 P w) (m+1) f fd d.ps (spI K cl (yc T (k+1)) fi):=by
 obtain⟨oc,od,kV,doc,pm,an,cdv,ct,osl,rfl,lk,hcd⟩:=R.ex
 exact zpa lk hcd Sc (λvs H Q E h=>znu hT hnp h) λA outer s H vs Q E hr h=>⟨_,body cdv A outer s H E hr,zlZ hT hns h⟩
def Fn2 (t:Tb)(P:A4)(w:Af)(K:AG)(mg:AR->Option AH)(base:BB)(T:Nat->Option IC.Fn)(k:Nat):Prop :=
 ∀i d dv fd,t.tbl[i]?=AA d->ycE K d dv (faA K t i) fd->yaJ P w K mg base (CX1 P w) (2*k) (faA K t i) fd d.ps (spI K (clA K t) (yc T k) i)
theorem zjc (F:Fact t w K mg)(O:∀d∈t.tbl,okT t d=AC)(C:Fn2 t P w K mg base T k){N:List AR}{q:AR}{sc:Bi}{f:AJ}{cdv:AH}{A:Ar}{outer:List B2}{s:AK}{H:Hp}{E:XK} :
  Glo t.gs (2*k) ⟨clA K t,yc T k,AC⟩ (yaZ (CX1 P w) P w K mg base N q sc f cdv A outer s H E):=by
 have B:=F.B
 simp only[yey,AL,BX]at B
 obtain⟨⟨⟨⟨⟨b1,b2⟩,b3⟩,b4⟩,b5⟩,b6⟩:=B
 have mgr:∀{x:AR} {a:AJ},nmA K x=AA a->mg x=AA (.ref a):=λh=>F.X _ _ (zmZ h)
 have same:∀{x y:AR} {a:AJ},(decide (x=y) || decide (nmA K x=nmA K y))=AC->nmA K y=AA a->nmA K x=AA a:=λ{x y a} h e=>by
  simp only[DA,decide_eq_true_eq]at h
  rcases h with rfl|h
  .exact e
  .rw[h];exact e
 refine⟨λx i h=>?_,λx i np ks sh h hk=>?_,λx v h=>?_,λx d h=>?_,λx c h=>?_,λx c i h=>?_,λx h=>?_,λy h=>?_,λc n h=>?_,λc n i h=>?_,λy D h=>?_⟩
 .have q:=b1 _ (lkm h)
  simp only[alB]at q
  split at q
  .rename_i d hd
   simp only[AL]at q
   obtain⟨dv,fd,r1,r2,r3⟩:=zdn F O hd
   have hk:d.k=.fn:=by cases e:d.k <;> rw[e]at q <;> first|rfl|cases q.1
   simp only[At,hk]at r2
   simp only[DvP,hk]at r3
   subst r3
   exact⟨_,fd,d.ps,C i d _ fd hd r1,mgr (same q.2 (zcc r2.1)),r1.kp,r1.binds r2.2⟩
  .cases q
 .have q:=b1 _ (lkm h)
  simp only[alB]at q
  split at q
  .rename_i d hd
   simp only[AL]at q
   obtain⟨dv,fd,r1,r2,r3⟩:=zdn F O hd
   obtain⟨ds,hk'⟩:∃ds,d.k=.fd ds:=by cases e:d.k <;> rw[e]at q <;> first|exact⟨_,rfl⟩|cases q.1
   simp only[At,hk']at r2
   simp only[DvP,hk']at r3
   obtain⟨dT,o,its,n,rfl,e1,e2,e3⟩:=r3
   have oo:=O d (A1 hd)
   simp only[okT,hk',AL,decide_eq_true_eq]at oo
   have D:FnD K (λ_=>AA (.ref (faA K t i))) d.nm d.st d.ps ds (faA K t i) fd:=by
    obtain⟨oc,od,kV,doc,pm,an,cdv,ct,osl,z1,z2,z3⟩:=r1.ex
    rw[oo.2]at z1 z3
    exact⟨⟨oc,od,dT,kV,doc,pm,an,cdv,ct,osl,o,its,n,z1,z2,z3,e1,e2,e3⟩,r1.kp,rfl⟩
   exact⟨_,fd,d.ps,C i d _ fd hd r1,mgr (same q.2 (zcc r2)),r1.kp,F.Kb.get _ (lkm hk) d ds hd hk' K _ _ _ D⟩
  .cases q
 .have q:=b1 _ (lkm h)
  simp only[alB,AL]at q
  obtain⟨q0,q⟩:=q
  split at q
  .rename_i u hu
   obtain⟨⟨y,r,z⟩,_⟩:=Au.1 q
   have hm:=F.X _ _ hu
   cases v with
   |int i =>
    have z:=z (λ_=>0) (λ_=>False) [] (λ_=>AE)
    simp only[yd]at z
    subst z
    obtain⟨tk,rfl⟩:=r
    exact .inr ⟨i,rfl,tk,hm⟩
   |tp b vs =>
    have z0:=z (λ_=>0) (λ_=>False) [] (λ_=>AE)
    simp only[yd]at z0
    obtain⟨a,xs,rfl,_⟩:=z0
    have r:u=.ref a:=r
    subst r
    exact .inl ⟨a,hm,λB φ H=>z _ B φ H⟩
   |_=>cases q0
  .cases q
 .have q:=b1 _ (lkm h)
  simp only[alB,Ec,AL,decide_eq_true_eq]at q
  obtain⟨p,hp,rfl,q⟩:=q
  obtain⟨⟨e⟩,_⟩:=Au.1 q
  rw[<- e]
  exact F.D.get p hp _
 .have q:=b1 _ (lkm h)
  simp only[alB,AL,decide_eq_true_eq,Ck]at q
  obtain⟨q1,q2,q3⟩:=q
  obtain⟨a,ha⟩:=Au.1 q2
  have e:clA K t c=a:=by simp only[clA,q1,BW,ha,CJ]
  simp only[ha,Ex]at q3
  exact⟨by show mg x=AA (.ref (clA K t c));rw[e];exact mgr ha,by show F2 K (clA K t c) _ _=AC;rw[e];exact q3⟩
 .have q:=b1 _ (lkm h)
  simp only[alB,AL,decide_eq_true_eq]at q
  obtain⟨⟨q1,q2⟩,q3⟩:=q
  obtain⟨a,ha⟩:=Au.1 q2
  have e:clA K t c=a:=by simp only[clA,q1,BW,ha,CJ]
  split at q3
  .rename_i d hd
   cases hk:d.k with
   |ini c' =>
    rw[hk]at q3
    simp only[AL,decide_eq_true_eq]at q3
    obtain⟨rfl,hn⟩:=q3
    obtain⟨dv,fd,r1,r2,r3⟩:=zdn F O hd
    simp only[At,hk]at r2
    simp only[DvP,hk]at r3
    subst r3
    obtain⟨r0,q',r4,r5,r6,r7,r8⟩:=r2
    have e2:q'=a:=by
     have:nmA K (cnm t c')=AA q':=zcc r4
     simp only[cnm,q1,CJ,ha]at this
     exact(AX this).symm
    subst e2
    rw[hn]at r5
    refine⟨by show mg x=AA (.ref (clA K t c'));rw[e];exact mgr ha,_,fd,d.ps,?_,C i d _ fd hd r1,r1.binds r0⟩
    show Mk K (clA K t c') _
    rw[e]
    exact⟨r7,r5,r6,r8⟩
   |_=>rw[hk]at q3;cases q3
  .cases q3
 .have q:x∈t.bs:=by simpa [Tb.gs] using h
  have:=b2 x q
  simp only[decide_eq_true_eq]at this
  exact F.X _ _ this
 .simp only[Tb.gs,Ec]at h
  obtain⟨y',hy,e⟩:=h
  have:=zme e
  subst this
  have q:=b3 y hy
  simp only[yfh,AL,decide_eq_true_eq]at q
  exact⟨q.1.1.1.1.1,q.1.1.1.1.2,q.1.1.1.2,q.1.1.2,q.1.2,q.2⟩
 .have q:(c,n)∈t.fl:=by simpa [Tb.gs] using h
  have q:=b4 _ q
  simp only[AL,Ck,decide_eq_true_eq]at q
  obtain⟨q1,q2,q3⟩:=q
  obtain⟨a,ha⟩:=Au.1 q2
  simp only[ha,Ex]at q3
  have e:clA K t c=a:=zfL ha q1
  show Cls K (clA K t c)/\yap K (clA K t c) n
  rw[e]
  exact⟨zhx q3.1,q3.2⟩
 .have q:=b5 _ (lkm h)
  simp only[AL,Ck,decide_eq_true_eq]at q
  obtain⟨q1,q2,q3,q4⟩:=q
  obtain⟨a,ha⟩:=Au.1 q2
  simp only[ha,Ex]at q3
  have e:clA K t c=a:=zfL ha q1
  split at q4
  .rename_i d hd
   simp only[AL,decide_eq_true_eq]at q4
   obtain⟨q4,hn⟩:=q4
   cases hk:d.k with
   |me c' =>
    rw[hk]at q4
    have q4:c'=c:=by simpa using q4
    subst q4
    obtain⟨dv,fd,r1,r2,r3⟩:=zdn F O hd
    simp only[At,hk]at r2
    simp only[DvP,hk]at r3
    subst r3
    obtain⟨r0,q',r4,r5,r6⟩:=r2
    have e2:q'=a:=AX ((zcc r4).symm.trans ha)
    subst e2
    refine⟨by show Cls K (clA K t c');rw[e];exact zhx q3,_,fd,d.ps,?_,C i d _ fd hd r1,r1.binds r0⟩
    show Meth K (clA K t c') n _
    rw[e,<- hn]
    exact⟨r5,r6,r1.kp⟩
   |_=>rw[hk]at q4;cases q4
  .cases q4
 .have q:=b6 _ (lkm h)
  have g:∀s j,D.lookup s=AA j->∃d dv fd,t.tbl[j]?=AA d/\ycE K d dv (faA K t j) fd/\dv=.none/\ybk d/\fd=fdA K t j/\d.ps=psA t j:=λs j hj=>by
   have q:=q _ (lkm hj)
   split at q
   .rename_i d hd
    obtain⟨dv,fd,r1,r2,r3⟩:=zdn F O hd
    have hk:d.k=.fn:=by cases e:d.k <;> rw[e]at q <;> first|rfl|cases q
    simp only[At,hk]at r2
    simp only[DvP,hk]at r3
    obtain⟨oc,od,kV,doc,pm,an,cdv,ct,osl,_,lk,_⟩:=r1.ex
    exact⟨d,dv,fd,hd,r1,r3,r2.2,by simp only[fdA,lk],by simp only[psA,hd]⟩
   .cases q
  refine⟨faA K t,fdA K t,psA t,⟨λs j hj=>?_,λs j hj=>?_,λs j hj=>?_⟩,F.Ml.get _ (lkm h)⟩
  .obtain⟨d,dv,fd,h1,h2,h3,h4,h5,h6⟩:=g s j hj
   rw[<- h5,<- h6]
   exact C j d dv fd h1 h2
  .obtain⟨d,dv,fd,h1,h2,h3,h4,h5,h6⟩:=g s j hj
   exact h2.kp
  .obtain⟨d,dv,fd,h1,h2,h3,h4,h5,h6⟩:=g s j hj
   subst h3
   rw[<- h5,<- h6]
   exact h2.binds h4
theorem zg7 (F:Fact t w K mg)(O:∀d∈t.tbl,okT t d=AC)(hT:∀i d,t.tbl[i]?=AA d->T i=AA d.fn):∀k,Fn2 t P w K mg base T k
 |0=>λi d dv fd _ _=>zjI
 |k+1=>λi d dv fd h R=>by
  have o:=O d (A1 h)
  simp only[okT,okD,AL,decide_eq_true_eq]at o
  obtain⟨⟨⟨⟨o1,o2⟩,o3⟩,o4⟩,_⟩:=o
  obtain⟨⟨y⟩,_⟩:=Au.1 o4
  exact R.ok (m:=2*k+1) (hT i d h) (zmE o1) o2 o3 λ_ _ _ _ _ _ hr=>y (2*k) _ _ ⟨rfl,rfl,rfl,hr,λ_=>⟨own1,λ_=>rfl,rfl⟩,zjc F O (zg7 F O hT k)⟩
noncomputable def yc4:Nat->(List AH->Prop)->Prop
 |0,P=>P []
 |n+1,P=>∀a,yc4 n λus=>P (a::us)
theorem yc4.get:∀{n:Nat} {P:List AH->Prop},yc4 n P->∀us,us.length=n->P us
 |0,P,h,[],_=>h
 |n+1,P,h,a::us,e=>(h a).get us (by simpa using e)
theorem kbP {i np:Nat}{ks:List AR}{sh:List (Option Int)}{d:Df}{ds:List Int}(hd:t.tbl[i]?=AA d)(hk:d.k=.fd ds)(h1:ks.length=nKw sh)(h2:sh.length=(ds.drop (ds.length - sh.length)).length)
  (h3:((sh.zip (ds.drop (ds.length - sh.length))).all λp=>p.1.all λi=>decide (i=p.2))=AC) (hp:0<d.ps.length)
  (h:∀(dT:AJ) (kV doc pm:AH) (an:Option AJ) (cdv ct:AH),yc4 np λus=>yc4 ks.length λws=>yc4 ds.length λits =>
   ∃k,bindArgs (B7 d.nm d.nm (yad d.st) (yac d.st) (yG d.st) (.ref dT) kV doc pm an cdv ct) ⟨us,ks.zip ws⟩=seqItems? (.ref dT) >>= k/\k (AA its.toArray)=pure (d.ps.zip (us++ybb sh ws (its.drop (ds.length - sh.length))))):KbP t ((i,np,ks),sh):=by
 intro d' ds' e1 e2 K mg f fd D
 have e1:t.tbl[i]?=AA d':=e1
 rw[hd]at e1
 cases e1
 rw[hk]at e2
 cases e2
 exact kbD D h1 h2 h3 (λdT kV doc pm an cdv ct us ws its z1 z2 z3=>(((h dT kV doc pm an cdv ct).get us z1).get ws z2).get its z3) hp
theorem all_mk2 {h:BB}{fx:AJ}(X:K.In h)(G:h.Ns mainGlobals mg)(hfa:mg "law"=AA (.ref fx))(R:yb3 (yc5 K (cnm t)) t.tbl)(B:yey K t=AC)(D:yb3 (λp=>∀cl,GD K w mg cl p.1 p.2) t.dd)(Kb:yb3 (KbP t) t.kb)(Ml:yb3 (λp=>GDF K w mg (faA K t) p.1 p.2) t.ml)
  (O:t.tbl.all (okT t)=AC) (hT:∀i d,t.tbl[i]?=AA d->T i=AA d.fn) {L:Nat} {st:Bv} {N:List AR} {fn:IC.Fn} (hL:t.tbl[L]?=AA ⟨"law","law","law",st,N,["_law_script"],fn,.fn⟩) (lvl:Nat) :
  ∃fd:BC,(∀(s:AK) (v:AH),FP s fd ⟨[v],[]⟩ [("_law_script",v)])/\∀base:BB,K.In base->base.Ns mainGlobals mg->yaJ P w K mg base (CX1 P w) (2*lvl) fx fd ["_law_script"] (spX K (yc T lvl) L):=by
 have F:Fact t w K mg:=⟨λx u e=>by
  cases u with
  |none=>exact PySem.W.mg_none_of X G e
  |some v=>exact E0 X G e,R,B,D,Kb,Ml⟩
 have O':=BX.1 O
 obtain⟨dv,fd,r1,r2,r3⟩:=zdn F O' hL
 have r3:dv=.none:=r3
 subst r3
 have r2:BO K mainGlobals "law"=AA (AA (.ref (faA K t L)))/\ybk _:=r2
 have e:=Value.ref.inj (AX (hfa.symm.trans (E0 X G r2.1)))
 subst e
 refine⟨fd,λs v=>?_,λbase _ _=>(zg7 F O' hT lvl L _ _ fd hL r1).imp λ_ _ _ _ h=>h _⟩
 obtain⟨oc,od,kV,doc,pm,an,cdv,ct,osl,rfl,_⟩:=r1.ex
 exact .of_eq (r2.2 kV doc pm an cdv ct v)
end
end L2
namespace IC
open PySem
noncomputable def zM:List (AR×Nat):=[(AF "move",63),(AF "bare",64),(AF "sum",65),(AF "less",66),(AF "both",67),(AF "any",68),(AF "odd",69),(AF "twice",70),(AF "half",71)]
noncomputable def zV:PV:=(.tp AC [(.int 0),(.int 1),(.int 0)])
noncomputable def zbi:PV:=(.int 10000000000000000000000000000000000000000)
noncomputable def zeQ:PV:=(.tp AC [(.str "h"),(.tp AC [(.int 0),(.int 0),(.int 0),(.int 0)])])
noncomputable def zjY:PV:=(.tp AC [(.str "turned"),(.str "bare")])
noncomputable def zik:PV:=(.tp AC [(.str "l"),(.tp AC [(.int 0),(.int 0),(.int 0),(.int 0)])])
noncomputable def zD:PV:=(.tp AC [(.tp AC [(.str "m"),(.tp AC [(.int 0),(.int 0),(.int 0),(.int 0)])]),(.tp AC [(.str "m"),(.tp AC [(.int 1),(.int 0),(.int 0),(.int 0)])]),(.tp AC [(.str "m"),(.tp AC [(.int 2),(.int 0),(.int 0),(.int 0)])]),(.tp AC [(.str "m"),(.tp AC [(.int 3),(.int 0),(.int 0),(.int 0)])])])
noncomputable def zca:PV:=(.int 4)
noncomputable def zel:PV:=(.int 2)
noncomputable def zbM:PV:=(.int 4000)
noncomputable def zcR:PV:=(.int 4000)
noncomputable def ze4:PV:=(.int 20)
noncomputable def zd5:PV:=(.int 2)
noncomputable def zcT:PV:=(.int 200)
noncomputable def zgm:PV:=(.tp AC [(.str "z"),(.tp AC [(.int 0),(.int 0),(.int 0),(.int 0)])])
noncomputable def zeR:PV:=(.tp AC [(.str "o"),(.tp AC [(.int 0),(.int 0),(.int 0),(.int 0)])])
noncomputable def zdY:PV:=(.tp AC [(.str "sum"),(.str "difference"),(.str "compare"),(.str "both"),(.str "any"),(.str "odd"),(.str "product"),(.str "signed product"),(.str "quotient"),(.str "signed quotient")])
noncomputable def zdj:PV:=(.tp AC [(.str "both"),(.str "any"),(.str "odd")])
noncomputable def za7:PV:=(.tp AC [(.str "product"),(.str "signed product")])
noncomputable def z8:PV:=(.tp AC [(.str "quotient"),(.str "signed quotient")])
noncomputable def zcG:PV:=(.tp AC [(.str "s"),(.tp AC [(.int 0),(.int 0),(.int 0),(.int 0)])])
noncomputable def zd8:PV:=(.tp AC [(.str "left"),(.str "right"),(.str "down"),(.str "roll")])
noncomputable def zbn:PV:=(.tp AC [(.str "t"),(.tp AC [(.int 0),(.int 0),(.int 0),(.int 0)])])
def z6:List (AR×PV):=[(AF "set",(.tp AC [(.str "cell"),(.str "figure")])),(AF "move",(.tp AC [(.str "cell"),(.str "cell")])),(AF "bare",(.tp AC [(.str "cell"),(.str "cell")])),(AF "sum",(.tp AC [(.str "cell"),(.str "cell"),(.str "cell")])),(AF "less",(.tp AC [(.str "cell"),(.str "cell"),(.str "cell")])),(AF "both",(.tp AC [(.str "cell"),(.str "cell"),(.str "cell")])),(AF "any",(.tp AC [(.str "cell"),(.str "cell"),(.str "cell")])),(AF "odd",(.tp AC [(.str "cell"),(.str "cell"),(.str "cell")])),(AF "twice",(.tp AC [(.str "cell"),(.str "cell")])),(AF "half",(.tp AC [(.str "cell"),(.str "cell")])),(AF "times",(.tp AC [(.str "cell"),(.str "cell"),(.str "cell"),(.str "cell")])),(AF "mark",(.tp AC [(.str "figure")])),(AF "ask",(.tp AC [(.str "cell")]))]
noncomputable def zki:Fn:=⟨5,5,AC,(.k (.ret (.tup (.k (.v 0) (.k (.tup (.k (.v 1) (.k (.v 2) (.k (.v 3) (.k (.v 4) .e))))) .e)))) .e)⟩
def zcz:Fn:=⟨1,1,AC,(.k (.ret (.call 0 (yaf (.k (.v 0) (.k (.neg (.i 1)) .e)) (yr [.inr 0,.inr 0,.inl (.i 1)])))) .e)⟩
noncomputable def zjX:Fn:=⟨1,1,AC,(.k (.ret (.blt .tuple (.k (.comp [AE] (.n 0) (.seq (.v 0)) (.cst (.bl AC)) (.tup (.k (.s "row") (.k (.v 0) .e)))) .e))) .e)⟩
noncomputable def zf6:Fn:=⟨3,3,AC,(.k (.ret (.tup (.k (.tup (.k (.s "rounds") (.k (.v 0) (.k (.v 1) (.k (.v 2) .e))))) .e))) .e)⟩
noncomputable def zf2:Fn:=⟨5,5,AC,(.k (.ret (.tup (.k (.s "slice") (.k (.v 0) (.k (.tup (.k (.i 0) (.k (.i 0) (.k (.i 0) (.k (.i 0) .e))))) (.k (.tup (.k (.v 1) (.k (.v 2) (.k (.v 3) (.k (.v 4) .e))))) .e)))))) .e)⟩
noncomputable def zj1:Fn:=⟨6,6,AC,(.k (.ret (.tup (.k (.v 0) (.k (.tup (.k (.i 0) (.k (.v 2) (.k (.i 0) (.k (.v 3) (.k (.v 4) (.k (.v 5) .e))))))) (.k (.v 1) .e))))) .e)⟩
def zbA:Fn:=⟨3,4,AC,(.k (.asg (.n 3) (.tup (.k (.call 5 (yaf (.k (.i 1) (.k (.tup (.k (.call 4 (yaf (.k (.v 1) .e) (yr [.inr 0,.inl (.i 1),.inr 0,.inr 0]))) .e)) .e)) (yr [.inr 0,.inr 0,.inr 0,.inr 0]))) (.k (.call 5 (yaf (.k (.neg (.i 1)) (.k (.tup (.k (.call 4 (yaf (.k (.v 0) .e) (yr [.inr 0,.inl (.i 1),.inr 0,.inr 0]))) .e)) .e)) (yr [.inr 0,.inr 0,.inr 0,.inr 0]))) .e)))) (.k (.ret (.call 3 (.k (.tup (.k (.v 2) (.k (.i 1) (.k (.i 0) .e)))) (.k (.v 3) (.k (.call 2 (.k (.lst (.k (.tup (.k (.s "move") (.k (.call 0 (yaf (.k (.v 0) .e) (yr [.inr 0,.inl (.i 1),.inr 0,.inr 0]))) (.k (.call 0 (yaf (.k (.v 1) .e) (yr [.inr 0,.inl (.i 1),.inr 0,.inr 0]))) .e)))) .e)) .e)) .e))))) .e))⟩
def zaM:Fn:=⟨2,2,AC,(.k (.ret (.call 3 (.k (.v 1) (.k (.tup .e) (.k (.call 2 (.k (.lst (.k (.tup (.k (.s "twice") (.k (.call 0 (yaf (.k (.v 0) .e) (yr [.inr 0,.inr 0,.inl (.i 1),.inr 0]))) (.k (.call 0 (yaf (.k (.v 0) .e) (yr [.inr 0,.inr 0,.inl (.i 1),.inr 0]))) .e)))) .e)) .e)) .e))))) .e)⟩
def zc0:Fn:=⟨1,1,AC,(.k (.ret (.tup (.k (.s "sum") (.k (.v 0) (.k (.cst zgm) (.k (.cst zgm) .e)))))) .e)⟩
def zaR:Fn:=⟨1,1,AC,(.k (.ret (.lst (.k (.tup (.k (.s "set") (.k (.v 0) (.k (.i 1) .e)))) (.k (.tup (.k (.s "less") (.k (.v 0) (.k (.v 0) (.k (.cst zgm) .e))))) .e)))) .e)⟩
def zbX:Fn:=⟨3,4,AC,(.k (.asg (.n 3) (.tup (.k (.s "any") (.k (.cst zcG) (.k (.cst zcG) (.k (.call 0 (yaf (.k (.v 0) .e) (yr [.inr 0,.inl (.i 1),.inr 0,.inl (.v 1)]))) .e)))))) (.k (.ret (.bin .add (.bin .add (.call 2 (.k (.lst (.k (.tup (.k (.s "set") (.k (.cst zcG) (.k (.i 0) .e)))) .e)) .e)) (.call 3 (.k (.v 2) (.k (.tup .e) (.k (.call 2 (.k (.lst (.k (.v 3) .e)) .e)) .e))))) (.call 2 (.k (.lst (.k (.tup (.k (.s "ask") (.k (.cst zcG) .e))) .e)) .e)))) .e))⟩
def zbk:Fn:=⟨2,3,AC,(.k (.asg (.n 2) (.lst (.k (.tup (.k (.s "twice") (.k (.cst zbn) (.k (.call 0 (yaf (.k (.s "c") (.k (.bin .sub (.v 0) (.i 1)) .e)) (yr [.inr 0,.inr 0,.inl (.v 1)]))) .e)))) (.k (.call 8 (.k (.idx (.cst zD) (.i 3)) .e)) .e)))) (.k (.ret (.bin .add (.call 10 (.k (.s "c") (.k (.i 0) (.k (.tup (.k (.v 0) (.k (.v 1) (.k (.i 0) .e)))) .e)))) (.call 2 (.k (.bin .add (.call 9 (.k (.idx (.cst zD) (.i 2)) .e)) (.v 2)) .e)))) .e))⟩
def zaz:Fn:=⟨0,1,AC,(.k (.asg (.n 0) (.bin .add (.call 10 (.k (.s "c") (.k (.i 1) (.k (.cst zV) .e)))) (.call 2 (.k (.lst (.k (.call 8 (.k (.idx (.cst zD) (.i 1)) .e)) .e)) .e)))) (.k (.ret (.bin .add (.bin .add (.call 13 .e) (.v 0)) (.call 11 (.k (.i 0) (.k (.i 2) .e))))) .e))⟩
def zcb:Fn:=⟨0,3,AC,(.k (.asg (.n 0) (.tup (.k (.call 5 (yaf (.k (.i 1) (.k (.tup (.k (.call 4 (yaf (.k (.s "c") .e) (yr [.inr 0,.inl (.i 1),.inr 0,.inl (.i 1)]))) .e)) .e)) (yr [.inr 0,.inr 0,.inr 0,.inr 0]))) (.k (.call 5 (yaf (.k (.neg (.i 1)) (.k (.tup (.k (.call 4 (yaf (.k (.s "a") .e) (yr [.inr 0,.inr 0,.inr 0,.inl (.i 1)]))) (.k (.call 4 (yaf (.k (.s "b") .e) (yr [.inr 0,.inl (.i 1),.inr 0,.inr 0]))) .e))) .e)) (yr [.inr 0,.inr 0,.inr 0,.inr 0]))) .e)))) (.k (.asg (.n 1) (.call 2 (.k (.lst (.k (.tup (.k (.s "mark") (.k (.i 0) .e))) (.k (.tup (.k (.s "set") (.k (.cst zeR) (.k (.i 0) .e)))) .e))) .e))) (.k (.asg (.n 2) (.call 2 (.k (.lst (.k (.tup (.k (.s "move") (.k (.call 0 (yaf (.k (.s "c") .e) (yr [.inr 0,.inl (.i 1),.inr 0,.inl (.i 1)]))) (.k (.cst zeR) .e)))) .e)) .e))) (.k (.ret (.call 3 (.k (.cst zV) (.k (.v 0) (.k (.bin .add (.bin .add (.v 1) (.call 14 .e)) (.v 2)) .e))))) .e))))⟩
def zbW:Fn:=⟨0,3,AC,(.k (.asg (.n 0) (.call 0 (yaf (.k (.s "c") .e) (yr [.inr 0,.inl (.i 1),.inl (.i 1),.inr 0])))) (.k (.asg (.n 1) (.tup (.k (.s "slice") (.k (.s "b") (.k (.tup (.k (.i 0) (.k (.i 1) (.k (.i 0) (.k (.i 0) .e))))) (.k (.tup (.k (.i 1) (.k (.i 1) (.k (.i 0) (.k (.i 0) .e))))) .e)))))) (.k (.asg (.n 2) (.tup (.k (.call 5 (yaf (.k (.i 1) (.k (.tup (.k (.call 4 (yaf (.k (.s "c") .e) (yr [.inr 0,.inl (.i 1),.inr 0,.inl (.i 1)]))) .e)) .e)) (yr [.inr 0,.inr 0,.inr 0,.inr 0]))) (.k (.call 5 (yaf (.k (.i 1) (.k (.tup (.k (.call 4 (yaf (.k (.s "o") (.k (.i 1) .e)) (yr [.inr 0,.inr 0,.inr 0]))) .e)) .e)) (yr [.inr 0,.inl (.i 1),.inl (.i 1),.inr 0]))) (.k (.call 5 (yaf (.k (.neg (.i 1)) (.k (.tup (.k (.call 4 (yaf (.k (.s "a") .e) (yr [.inr 0,.inr 0,.inr 0,.inl (.i 1)]))) (.k (.call 4 (yaf (.k (.s "b") .e) (yr [.inr 0,.inl (.i 1),.inr 0,.inr 0]))) .e))) .e)) (yr [.inr 0,.inr 0,.inr 0,.inr 0]))) (.k (.call 5 (yaf (.k (.neg (.i 1)) (.k (.tup (.k (.call 4 (yaf (.k (.s "a") .e) (yr [.inr 0,.inr 0,.inl (.i 1),.inr 0]))) (.k (.v 1) .e))) .e)) (yr [.inr 0,.inl (.i 1),.inr 0,.inr 0]))) .e)))))) (.k (.ret (.call 3 (.k (.cst zV) (.k (.v 2) (.k (.call 2 (.k (.lst (.k (.tup (.k (.s "times") (.k (.cst zik) (.k (.cst zeQ) (.k (.call 0 (yaf (.k (.s "a") .e) (yr [.inr 0,.inr 0,.inl (.i 1),.inr 0]))) (.k (.call 0 (yaf (.k (.s "b") .e) (yr [.inr 0,.inl (.i 1),.inr 0,.inr 0]))) .e)))))) (.k (.tup (.k (.s "sum") (.k (.cst zik) (.k (.cst zik) (.k (.cst zeR) .e))))) (.k (.tup (.k (.s "sum") (.k (.cst zeQ) (.k (.cst zeQ) (.k (.cst zgm) .e))))) (.k (.tup (.k (.s "sum") (.k (.v 0) (.k (.v 0) (.k (.cst zik) .e))))) (.k (.tup (.k (.s "sum") (.k (.cst zeR) (.k (.cst zeQ) (.k (.cst zgm) .e))))) .e)))))) .e)) .e))))) .e))))⟩
noncomputable def zam:Fn:=⟨3,3,AC,(.k (.ret (.and (.isi (.v 0) [.int]) (.and (.not (.isi (.v 0) [.bool])) (.chain .le .le (.v 1) (.v 0) (.v 2))))) .e)⟩
noncomputable def zbo:Fn:=⟨1,1,AC,(.k (.ret (.and (.isi (.v 0) [.str]) (.and (.cmp .eq (.blt .len (.k (.v 0) .e)) (.i 1)) (.chain .le .le (.s "a") (.v 0) (.s "z"))))) .e)⟩
def zdq:Fn:=⟨2,2,AC,(.k (.ite (.or (.not (.isi (.v 0) [.tuple])) (.cmp .ne (.blt .len (.k (.v 0) .e)) (.v 1))) (.k .nope .e) .e) (.k (.ret (.blt .all (.k (.comp [AE] (.n 0) (.seq (.v 0)) (.cst (.bl AC)) (.call 15 (.k (.v 0) (.k (.neg (.cst zcT)) (.k (.cst zcT) .e))))) .e))) .e))⟩
def zbh:Fn:=⟨1,1,AC,(.k (.ret (.bin .add (.bin .add (.call 20 (.k (.v 0) (.k (.tup (.k (.s "mark") (.k (.i 0) .e))) (.k (.call 7 (.k (.s "c") (.k (.cst zV) .e))) .e)))) (.call 22 .e)) (.call 11 (.k (.i 0) (.k (.i 1) .e))))) .e)⟩
noncomputable def zaV:Fn:=⟨1,1,AC,(.k (.ret (.bin .add (.bin .add (.call 20 (.k (.v 0) (.k (.tup (.k (.s "mark") (.k (.i 0) .e))) (.k (.call 21 .e) .e)))) (.call 22 .e)) (.call 11 (.k (.i 0) (.k (.i 1) .e))))) .e)⟩
def ze1:Fn:=⟨3,3,AC,(.k (.ret (.bin .add (.call 6 (yaf (.k (.s "c") (.k (.s "a") .e)) (yr [.inr 0]))) (.call 3 (.k (.tup (.k (.v 0) (.k (.i 0) (.k (.i 0) .e)))) (.k (.tup .e) (.k (.bin .add (.call 2 (.k (.lst (.k (.v 1) .e)) .e)) (.v 2)) .e)))))) .e)⟩
def zaS:Fn:=⟨0,1,AC,(.k (.asg (.n 0) (.call 0 (yaf (.k (.s "c") (.k (.neg (.i 1)) .e)) (yr [.inr 0,.inl (.neg (.i 1)),.inl (.i 1)])))) (.k (.ret (.call 3 (.k (.cst zV) (.k (.tup .e) (.k (.call 2 (.k (.lst (.k (.tup (.k (.s "half") (.k (.v 0) (.k (.v 0) .e)))) .e)) .e)) .e))))) .e))⟩
def zbB:Fn:=⟨0,0,AC,(.k (.ret (.call 2 (.k (.lst (.k (.call 8 (.k (.idx (.cst zD) (.i 0)) .e)) .e)) .e))) .e)⟩
def zbI:Fn:=⟨0,3,AC,(.k (.asg (.n 0) (.tup (.k (.s "sum") (.k (.call 0 (yaf (.k (.s "c") .e) (yr [.inr 0,.inl (.i 1),.inr 0,.inr 0]))) (.k (.call 0 (yaf (.k (.s "a") .e) (yr [.inr 0,.inl (.i 1),.inr 0,.inr 0]))) (.k (.call 0 (yaf (.k (.s "b") .e) (yr [.inr 0,.inl (.i 1),.inr 0,.inr 0]))) .e)))))) (.k (.asg (.n 1) (.tup (.k (.call 5 (yaf (.k (.i 1) (.k (.tup (.k (.call 4 (yaf (.k (.s "a") .e) (yr [.inr 0,.inl (.i 1),.inr 0,.inr 0]))) .e)) .e)) (yr [.inr 0,.inr 0,.inr 0,.inr 0]))) (.k (.call 5 (yaf (.k (.i 1) (.k (.tup (.k (.call 4 (yaf (.k (.s "b") .e) (yr [.inr 0,.inl (.i 1),.inr 0,.inr 0]))) .e)) .e)) (yr [.inr 0,.inr 0,.inr 0,.inr 0]))) (.k (.call 5 (yaf (.k (.neg (.i 1)) (.k (.tup (.k (.call 4 (yaf (.k (.s "c") .e) (yr [.inr 0,.inl (.i 1),.inr 0,.inr 0]))) .e)) .e)) (yr [.inr 0,.inr 0,.inr 0,.inr 0]))) (.k (.call 5 (yaf (.k (.neg (.i 1)) (.k (.tup (.k (.tup (.k (.s "mark") .e)) .e)) .e)) (yr [.inr 0,.inl (.i 1),.inr 0,.inr 0]))) .e)))))) (.k (.asg (.n 2) (.call 25 (.k (.call 1 (.k (.s "c") .e)) (.k (.call 1 (.k (.s "a") .e)) (.k (.call 1 (.k (.s "b") .e)) .e))))) (.k (.ret (.bin .add (.bin .add (.call 24 (.k (.v 0) (.k (.v 1) .e))) (.v 2)) (.call 11 (.k (.i 0) (.k (.i 1) .e))))) .e))))⟩
def zeN:Fn:=⟨2,2,AC,(.k (.ret (.bin .add (.bin .add (.call 2 (.k (.lst (.k (.tup (.k (.s "mark") (.k (.i 0) .e))) .e)) .e)) (.call 3 (.k (.cst zV) (.k (.v 1) (.k (.call 2 (.k (.lst (.k (.v 0) .e)) .e)) .e))))) (.call 2 (.k (.lst (.k (.call 8 (.k (.idx (.cst zD) (.i 0)) .e)) .e)) .e)))) .e)⟩
def zcU:Fn:=⟨3,3,AC,(.k (.ret (.call 2 (.k (.lst (.k (.tup (.k (.s "odd") (.k (.cst zbn) (.k (.v 0) (.k (.v 1) .e))))) (.k (.tup (.k (.s "odd") (.k (.cst zcG) (.k (.v 0) (.k (.v 2) .e))))) (.k (.tup (.k (.s "both") (.k (.cst zbn) (.k (.cst zbn) (.k (.cst zcG) .e))))) (.k (.tup (.k (.s "twice") (.k (.cst zbn) (.k (.cst zbn) .e)))) (.k (.call 8 (.k (.idx (.cst zD) (.i 1)) .e)) .e)))))) .e))) .e)⟩
noncomputable def zcf:Fn:=⟨1,1,AC,(.k (.ret (.call 28 (.k (.v 0) (.k (.cst (.bl AD)) .e)))) .e)⟩
noncomputable def zbv:Fn:=⟨1,1,AC,(.k (.ret (.call 28 (.k (.v 0) (.k (.cst (.bl AC)) .e)))) .e)⟩
def yL:Fn:=⟨2,4,AC,(.k (.ite (.or (.not (.call 29 (.k (.v 0) .e))) (.cmp .ne (.blt .len (.k (.v 0) .e)) (.bin .add (.blt .len (.k (.dix z6 (.idx (.v 0) (.i 0))) .e)) (.i 1)))) (.k (.ret (.cst (.bl AD))) .e) .e) (.k (.for (.t [2,3]) (.zip (.dix z6 (.idx (.v 0) (.i 0))) (.slc (.v 0) (.i 1) (.cst .non))) (.k (.ite (.not (.call 30 (.k (.v 2) (.k (.v 3) (.k (.v 1) .e))))) (.k (.ret (.cst (.bl AD))) .e) .e) .e)) (.k (.ret (.or (.cmp .ne (.idx (.v 0) (.i 0)) (.s "times")) (.cmp .ne (.idx (.v 0) (.i 1)) (.idx (.v 0) (.i 2))))) .e)))⟩
def zbd:Fn:=⟨1,1,AC,(.k (.ret (.and (.isi (.v 0) [.tuple]) (.and (.cmp .gt (.blt .len (.k (.v 0) .e)) (.i 0)) (.and (.isi (.idx (.v 0) (.i 0)) [.str]) (.din (.idx (.v 0) (.i 0)) z6))))) .e)⟩
noncomputable def zY:Fn:=⟨3,3,AC,(.k (.ite (.cmp .eq (.v 0) (.s "figure")) (.k (.ret (.call 15 (.k (.v 1) (.k (.i 0) (.k (.i 1) .e))))) .e) .e) (.k (.ret (.ite (.v 2) (.call 32 (.k (.v 1) .e)) (.call 31 (.k (.v 1) .e)))) .e))⟩
noncomputable def zbT:Fn:=⟨1,1,AC,(.k (.ret (.and (.call 33 (.k (.v 0) .e)) (.call 15 (.k (.idx (.v 0) (.i 1)) (.k (.i 0) (.k (.i 99) .e)))))) .e)⟩
noncomputable def zbl:Fn:=⟨1,1,AC,(.k (.ret (.and (.call 33 (.k (.v 0) .e)) (.call 17 (.k (.idx (.v 0) (.i 1)) (.k (.i 4) .e))))) .e)⟩
noncomputable def zal:Fn:=⟨1,1,AC,(.k (.ret (.and (.isi (.v 0) [.tuple]) (.and (.cmp .eq (.blt .len (.k (.v 0) .e)) (.i 2)) (.call 16 (.k (.idx (.v 0) (.i 0)) .e))))) .e)⟩
def zbE:Fn:=⟨1,1,AC,(.k (.ret (.and (.isi (.v 0) [.tuple]) (.and (.cmp .le (.blt .len (.k (.v 0) .e)) (.cst ze4)) (.blt .all (.k (.comp [AE] (.n 0) (.seq (.v 0)) (.cst (.bl AC)) (.call 36 (.k (.v 0) .e))) .e))))) .e)⟩
noncomputable def zba:Fn:=⟨4,4,AC,(.k (.ret (.bin .add (.bin .add (.bin .add (.idx (.v 0) (.i 0)) (.bin .mul (.idx (.v 0) (.i 1)) (.v 2))) (.bin .mul (.idx (.v 0) (.i 2)) (.v 3))) (.bin .mul (.idx (.v 0) (.i 3)) (.v 1)))) .e)⟩
def ze0:Fn:=⟨1,4,AC,(.k (.ite (.or (.not (.isi (.v 0) [.tuple])) (.cmp .ne (.blt .len (.k (.v 0) .e)) (.i 3))) (.k (.ret (.cst (.bl AD))) .e) .e) (.k (.asg (.t [1,2,3]) (.v 0)) (.k (.ret (.and (.call 15 (.k (.v 1) (.k (.bin .sub (.i 1) (.cst zbi)) (.k (.bin .sub (.cst zbi) (.i 1)) .e)))) (.and (.call 17 (.k (.v 2) (.k (.i 6) .e))) (.call 37 (.k (.v 3) .e))))) .e)))⟩
def zcd:Fn:=⟨1,1,AC,(.k (.ret (.and (.isi (.v 0) [.tuple]) (.and (.cmp .le (.blt .len (.k (.v 0) .e)) (.cst zd5)) (.blt .all (.k (.comp [AE] (.n 0) (.seq (.v 0)) (.cst (.bl AC)) (.call 38 (.k (.v 0) .e))) .e))))) .e)⟩
noncomputable def zdh:Fn:=⟨1,1,AC,(.k (.ite (.or (.not (.isi (.v 0) [.tuple])) (.cmp .eq (.blt .len (.k (.v 0) .e)) (.i 0))) (.k (.ret (.cst (.bl AD))) .e) .e) (.k (.ite (.cmp .eq (.idx (.v 0) (.i 0)) (.s "mark")) (.k (.ret (.cmp .eq (.blt .len (.k (.v 0) .e)) (.i 1))) .e) .e) (.k (.ite (.or (.cmp .ne (.idx (.v 0) (.i 0)) (.s "slice")) (.or (.cmp .ne (.blt .len (.k (.v 0) .e)) (.i 4)) (.not (.call 16 (.k (.idx (.v 0) (.i 1)) .e))))) (.k (.ret (.cst (.bl AD))) .e) .e) (.k (.ret (.and (.call 17 (.k (.idx (.v 0) (.i 2)) (.k (.i 4) .e))) (.call 17 (.k (.idx (.v 0) (.i 3)) (.k (.i 4) .e))))) .e))))⟩
noncomputable def zP:Fn:=⟨3,3,AD,(.k (.sfl 20 (.v 0) (AF "w") (.v 1)) (.k (.sfl 20 (.v 0) (AF "n") (.v 2)) (.k (.sfl 20 (.v 0) (AF "steps") (.newl .e)) (.k (.sfl 20 (.v 0) (AF "rows") (.i 0)) (.k (.sfl 20 (.v 0) (AF "rounds") (.i 0)) .e)))))⟩
noncomputable def yh:Fn:=⟨3,4,AD,(.k (.for (.n 3) (.seq (.v 1)) (.k (.ite (.cmp .eq (.idx (.v 3) (.i 0)) (.s "row")) (.k (.expr (.mcl 20 43 (AF "add_row") (.v 0) (.k (.idx (.v 3) (.i 1)) (.k (.v 2) .e)))) .e) (.k (.expr (.mcl 20 41 (AF "go_rounds") (.v 0) (.k (.v 3) (.k (.v 2) .e)))) .e)) .e)) .e)⟩
noncomputable def yj:Fn:=⟨3,5,AD,(.k (.asg (.n 3) (.blt .max (.k (.i 0) (.k (.mcl 20 42 (AF "count_of") (.v 0) (.k (.idx (.v 1) (.i 1)) .e)) .e)))) (.k (.for (.n 4) (.range1 (.v 3)) (.k (.expr (.mcl 20 45 (AF "add_asked") (.v 0) (.k (.idx (.v 1) (.i 2)) (.k (.bin .add (.v 2) (.tup (.k (.v 4) .e))) .e)))) (.k (.expr (.mcl 20 44 (AF "add_round") (.v 0) .e)) (.k (.expr (.mcl 20 40 (AF "go_parts") (.v 0) (.k (.idx (.v 1) (.i 3)) (.k (.bin .add (.v 2) (.tup (.k (.v 4) .e))) .e)))) .e)))) (.k (.expr (.mcl 20 45 (AF "add_asked") (.v 0) (.k (.idx (.v 1) (.i 2)) (.k (.bin .add (.v 2) (.tup (.k (.v 3) .e))) .e)))) .e)))⟩
noncomputable def zx:Fn:=⟨2,5,AD,(.k (.asg (.t [2,3,4]) (.v 1)) (.k (.ret (.bin .add (.bin .add (.v 2) (.bin .mul (.v 3) (.fld 20 (.v 0) (AF "n")))) (.bin .mul (.bin .mul (.v 4) (.fld 20 (.v 0) (AF "w"))) (.fld 20 (.v 0) (AF "n"))))) .e))⟩
def zE:Fn:=⟨3,6,AD,(.k (.asg (.t [3,4]) (.call 51 (.k (.v 2) .e))) (.k (.asg (.n 5) (.blt .tuple (.k (.comp [AE,AA 3,AA 4,AA 0] (.n 0) (.seq (.v 1)) (.cst (.bl AC)) (.call 52 (.k (.v 0) (.k (.fld 20 (.v 3) (AF "n")) (.k (.v 1) (.k (.v 2) .e)))))) .e))) (.k (.sfl 20 (.v 0) (AF "rows") (.bin .add (.fld 20 (.v 0) (AF "rows")) (.i 1))) (.k (.ite (.or (.not (.call 26 (.k (.v 5) .e))) (.cmp .gt (.fld 20 (.v 0) (AF "rows")) (.cst zcR))) (.k .nope .e) .e) (.k (.expr (.mth .append (.fld 20 (.v 0) (AF "steps")) (.k (.tup (.k (.s "row") (.k (.v 5) .e))) .e))) .e)))))⟩
def zw:Fn:=⟨1,1,AD,(.k (.sfl 20 (.v 0) (AF "rounds") (.bin .add (.fld 20 (.v 0) (AF "rounds")) (.i 1))) (.k (.ite (.cmp .gt (.fld 20 (.v 0) (AF "rounds")) (.cst zbM)) (.k .nope .e) .e) .e))⟩
noncomputable def zu:Fn:=⟨3,5,AD,(.k (.asg (.t [3,4]) (.call 51 (.k (.v 2) .e))) (.k (.expr (.mth .append (.fld 20 (.v 0) (AF "steps")) (.k (.tup (.k (.s "asked") (.k (.v 1) (.k (.v 3) (.k (.v 4) .e))))) .e))) .e))⟩
def zaY:Fn:=⟨1,1,AC,(.k (.ret (.call 49 (.k (.v 0) (.k (.cst zel) .e)))) .e)⟩
noncomputable def za4:Fn:=⟨3,3,AC,(.k (.ret (.blt .tuple (.k (.comp [AE] (.n 0) (.seq (.call 48 (.k (.v 0) (.k (.v 1) (.k (.v 2) .e))))) (.cmp .eq (.idx (.v 0) (.i 0)) (.s "row")) (.idx (.v 0) (.i 1))) .e))) .e)⟩
noncomputable def za5:Fn:=⟨3,4,AC,(.k (.ite (.not (.call 46 (.k (.v 0) .e))) (.k .nope .e) .e) (.k (.asg (.n 3) (.new 20 39 (.k (.v 1) (.k (.v 2) .e)))) (.k (.expr (.mcl 20 40 (AF "go_parts") (.v 3) (.k (.v 0) (.k (.tup .e) .e)))) (.k (.ret (.frz (.fld 20 (.v 3) (AF "steps")))) .e))))⟩
noncomputable def zcu:Fn:=⟨2,2,AC,(.k (.ret (.and (.isi (.v 0) [.tuple]) (.blt .all (.k (.comp [AE,AA 1] (.n 0) (.seq (.v 0)) (.cst (.bl AC)) (.call 50 (.k (.v 0) (.k (.v 1) .e)))) .e)))) .e)⟩
noncomputable def zeq:Fn:=⟨2,2,AC,(.k (.ite (.or (.not (.isi (.v 0) [.tuple])) (.cmp .eq (.blt .len (.k (.v 0) .e)) (.i 0))) (.k (.ret (.cst (.bl AD))) .e) .e) (.k (.ite (.cmp .eq (.idx (.v 0) (.i 0)) (.s "row")) (.k (.ret (.and (.cmp .eq (.blt .len (.k (.v 0) .e)) (.i 2)) (.call 27 (.k (.idx (.v 0) (.i 1)) .e)))) .e) .e) (.k (.ite (.or (.cmp .ne (.idx (.v 0) (.i 0)) (.s "rounds")) (.or (.cmp .ne (.blt .len (.k (.v 0) .e)) (.i 4)) (.cmp .eq (.v 1) (.i 0)))) (.k (.ret (.cst (.bl AD))) .e) .e) (.k (.ret (.and (.call 17 (.k (.idx (.v 0) (.i 1)) (.k (.i 3) .e))) (.and (.call 34 (.k (.idx (.v 0) (.i 2)) .e)) (.call 49 (.k (.idx (.v 0) (.i 3)) (.k (.bin .sub (.v 1) (.i 1)) .e)))))) .e))))⟩
noncomputable def zan:Fn:=⟨1,1,AC,(.k (.ret (.slc (.bin .add (.v 0) (.tup (.k (.i 0) (.k (.i 0) .e)))) (.cst .non) (.i 2))) .e)⟩
noncomputable def zaH:Fn:=⟨4,4,AC,(.k (.ite (.not (.isi (.v 0) [.tuple])) (.k (.ret (.v 0)) .e) .e) (.k (.ret (.tup (.k (.idx (.v 0) (.i 0)) (.k (.call 35 (.k (.idx (.v 0) (.i 1)) (.k (.v 1) (.k (.v 2) (.k (.v 3) .e))))) .e)))) .e))⟩
def zcW:Fn:=⟨1,1,AC,(.k (.ite (.not (.call 55 (.k (.v 0) .e))) (.k .nope .e) .e) (.k (.ite (.cmp .eq (.idx (.v 0) (.i 0)) (.s "led")) (.k .nope .e) .e) (.k (.ite (.cmp .isin (.idx (.v 0) (.i 0)) (.cst zd8)) (.k (.ret (.call 59 (.k (.idx (.v 0) (.i 0)) (.k (.idx (.v 0) (.i 1)) .e)))) .e) .e) (.k (.ite (.cmp .isin (.idx (.v 0) (.i 0)) (.cst zdj)) (.k .nope .e) .e) (.k (.ret (.call 60 (.k (.idx (.v 0) (.i 0)) .e))) .e)))))⟩
noncomputable def zat:Fn:=⟨3,3,AC,(.k (.ret (.call 47 (.k (.call 53 (.k (.v 0) .e)) (.k (.v 1) (.k (.v 2) .e))))) .e)⟩
def zeC:Fn:=⟨1,1,AC,(.k (.ite (.or (.not (.isi (.v 0) [.tuple])) (.cmp .eq (.blt .len (.k (.v 0) .e)) (.i 0))) (.k .nope .e) .e) (.k (.ite (.cmp .eq (.idx (.v 0) (.i 0)) (.s "led")) (.k .nope .e) .e) (.k (.ite (.cmp .isin (.idx (.v 0) (.i 0)) (.cst zd8)) (.k (.ret (.and (.cmp .eq (.blt .len (.k (.v 0) .e)) (.i 2)) (.call 15 (.k (.idx (.v 0) (.i 1)) (.k (.i 0) (.k (.i 100) .e)))))) .e) .e) (.k (.ret (.and (.cmp .eq (.blt .len (.k (.v 0) .e)) (.i 1)) (.or (.cmp .isin (.idx (.v 0) (.i 0)) (.cst zdY)) (.cmp .isin (.idx (.v 0) (.i 0)) (.cst zjY))))) .e))))⟩
def zcD:Fn:=⟨1,1,AC,(.k (.ret (.cmp .isin (.idx (.v 0) (.i 0)) (.cst zdY))) .e)⟩
def zS:Fn:=⟨2,2,AC,(.k (.ite (.cmp .eq (.idx (.v 0) (.i 0)) (.s "compare")) (.k .nope .e) .e) (.k (.ite (.cmp .eq (.idx (.v 0) (.i 0)) (.s "led")) (.k .nope .e) .e) (.k (.ret (.ite (.cmp .isin (.idx (.v 0) (.i 0)) (.cst za7)) (.bin .mul (.i 2) (.v 1)) (.v 1))) .e)))⟩
def zaf:Fn:=⟨2,2,AC,(.k (.ret (.ite (.cmp .isin (.idx (.v 0) (.i 0)) (.cst z8)) (.v 1) (.i 0))) .e)⟩
noncomputable def zaU:Fn:=⟨2,2,AC,(.k (.ite (.cmp .eq (.v 0) (.s "left")) (.k (.ret (.call 18 (.k (.v 1) .e))) .e) .e) (.k (.ite (.cmp .eq (.v 0) (.s "right")) (.k (.ret (.call 19 (.k (.v 1) .e))) .e) .e) (.k .nope (.k .nope .e))))⟩
noncomputable def zaW:Fn:=⟨1,1,AC,(.k (.ite (.cmp .eq (.v 0) (.s "sum")) (.k (.ret (.call 23 .e)) .e) .e) (.k (.ite (.cmp .eq (.v 0) (.s "difference")) (.k .nope .e) .e) (.k (.ite (.cmp .eq (.v 0) (.s "turned")) (.k .nope .e) .e) (.k (.ite (.cmp .eq (.v 0) (.s "compare")) (.k .nope .e) .e) (.k (.ite (.cmp .eq (.v 0) (.s "bare")) (.k .nope .e) .e) (.k (.ite (.cmp .eq (.v 0) (.s "product")) (.k (.ret (.call 12 .e)) .e) .e) (.k .nope (.k .nope (.k .nope .e)))))))))⟩
def zfX:Fn:=⟨5,6,AC,(.k (.mkr 5 zM (.v 0) (.k (.v 1) (.k (.v 2) (.k (.v 3) (.k (.v 4) .e))))) .e)⟩
noncomputable def zbC:Fn:=⟨1,1,AC,(.k (.ret (.bin .sub (.bin .shl (.i 1) (.v 0)) (.i 1))) .e)⟩
noncomputable def zdR:Fn:=⟨4,4,AC,(.k (.ret (.tup (.k (.v 1) (.k (.v 3) .e)))) .e)⟩
noncomputable def zd1:Fn:=⟨4,4,AC,(.k (.ret (.tup (.k (.bin .sub (.call 62 (.k (.v 0) .e)) (.v 1)) (.k (.v 3) .e)))) .e)⟩
noncomputable def zcm:Fn:=⟨4,5,AC,(.k (.asg (.n 4) (.bin .add (.bin .add (.v 1) (.v 2)) (.v 3))) (.k (.ret (.tup (.k (.bin .band (.v 4) (.call 62 (.k (.v 0) .e))) (.k (.bin .shr (.v 4) (.v 0)) .e)))) .e))⟩
noncomputable def zad:Fn:=⟨4,5,AC,(.k (.asg (.n 4) (.bin .sub (.bin .sub (.v 1) (.v 2)) (.v 3))) (.k (.ret (.tup (.k (.bin .band (.v 4) (.call 62 (.k (.v 0) .e))) (.k (.ite (.cmp .lt (.v 4) (.i 0)) (.i 1) (.i 0)) .e)))) .e))⟩
noncomputable def zbx:Fn:=⟨4,4,AC,(.k (.ret (.tup (.k (.bin .band (.v 1) (.v 2)) (.k (.v 3) .e)))) .e)⟩
noncomputable def zcq:Fn:=⟨4,4,AC,(.k (.ret (.tup (.k (.bin .bor (.v 1) (.v 2)) (.k (.v 3) .e)))) .e)⟩
noncomputable def zcl:Fn:=⟨4,4,AC,(.k (.ret (.tup (.k (.bin .bxor (.v 1) (.v 2)) (.k (.v 3) .e)))) .e)⟩
noncomputable def zbN:Fn:=⟨4,4,AC,(.k (.ret (.call 65 (.k (.v 0) (.k (.v 1) (.k (.v 1) (.k (.v 3) .e)))))) .e)⟩
noncomputable def zcs:Fn:=⟨4,4,AC,(.k (.ret (.tup (.k (.bin .bor (.bin .shr (.v 1) (.i 1)) (.bin .shl (.v 3) (.bin .sub (.v 0) (.i 1)))) (.k (.bin .band (.v 1) (.i 1)) .e)))) .e)⟩
noncomputable def zF:Fn:=⟨2,2,AD,(.k (.sfl 21 (.v 0) (AF "w") (.v 1)) (.k (.sfl 21 (.v 0) (AF "words") (.dict0 AC)) (.k (.sfl 21 (.v 0) (AF "marked") (.i 0)) .e)))⟩
noncomputable def zaj:Fn:=⟨4,5,AD,(.k (.asg (.n 4) (.call 80 (.k (.v 1) (.k (.v 2) .e)))) (.k (.ite (.not (.call 15 (.k (.v 3) (.k (.i 0) (.k (.call 62 (.k (.fld 21 (.v 0) (AF "w")) .e)) .e))))) (.k .nope .e) .e) (.k (.dput (.fld 21 (.v 0) (AF "words")) (.v 4) (.v 3)) .e)))⟩
noncomputable def zac:Fn:=⟨3,3,AD,(.k (.ret (.mcl 21 76 (AF "held_in") (.v 0) (.k (.call 80 (.k (.v 1) (.k (.v 2) .e))) .e))) .e)⟩
noncomputable def yC:Fn:=⟨2,3,AD,(.k (.for (.n 2) (.seq (.v 1)) (.k (.expr (.call 81 (.k (.v 2) .e))) .e)) (.k (.for (.n 2) (.seq (.v 1)) (.k (.expr (.mcl 21 77 (AF "go_row") (.v 0) (.k (.v 2) .e))) .e)) .e))⟩
noncomputable def zN:Fn:=⟨2,2,AD,(.k (.ret (.mth .get (.fld 21 (.v 0) (AF "words")) (.k (.v 1) (.k (.i 0) .e)))) .e)⟩
def zd:Fn:=⟨2,2,AD,(.k (.ite (.cmp .eq (.idx (.v 1) (.i 0)) (.s "mark")) (.k (.sfl 21 (.v 0) (AF "marked") (.idx (.v 1) (.i 1))) .e) (.k (.ite (.cmp .eq (.idx (.v 1) (.i 0)) (.s "ask")) (.k (.sfl 21 (.v 0) (AF "marked") (.ite (.cmp .eq (.mcl 21 76 (AF "held_in") (.v 0) (.k (.idx (.v 1) (.i 1)) .e)) (.i 0)) (.i 0) (.i 1))) .e) (.k (.ite (.cmp .eq (.idx (.v 1) (.i 0)) (.s "set")) (.k (.dput (.fld 21 (.v 0) (AF "words")) (.idx (.v 1) (.i 1)) (.idx (.v 1) (.i 2))) .e) (.k (.ite (.cmp .eq (.idx (.v 1) (.i 0)) (.s "times")) (.k (.expr (.mcl 21 78 (AF "go_times") (.v 0) (.k (.v 1) .e))) .e) (.k (.expr (.mcl 21 79 (AF "go_made") (.v 0) (.k (.v 1) .e))) .e)) .e)) .e)) .e)) .e)⟩
noncomputable def zG:Fn:=⟨2,3,AD,(.k (.asg (.n 2) (.bin .mul (.mcl 21 76 (AF "held_in") (.v 0) (.k (.idx (.v 1) (.i 3)) .e)) (.mcl 21 76 (AF "held_in") (.v 0) (.k (.idx (.v 1) (.i 4)) .e)))) (.k (.dput (.fld 21 (.v 0) (AF "words")) (.idx (.v 1) (.i 1)) (.bin .band (.v 2) (.call 62 (.k (.fld 21 (.v 0) (AF "w")) .e)))) (.k (.dput (.fld 21 (.v 0) (AF "words")) (.idx (.v 1) (.i 2)) (.bin .shr (.v 2) (.fld 21 (.v 0) (AF "w")))) .e)))⟩
noncomputable def zL:Fn:=⟨2,6,AD,(.k (.asg (.t [2,3]) (.tup (.k (.mcl 21 76 (AF "held_in") (.v 0) (.k (.idx (.v 1) (.i 2)) .e)) (.k (.mcl 21 76 (AF "held_in") (.v 0) (.k (.idx (.v 1) (.neg (.i 1))) .e)) .e)))) (.k (.asg (.t [4,5]) (.call 61 (.k (.idx (.v 1) (.i 0)) (.k (.fld 21 (.v 0) (AF "w")) (.k (.v 2) (.k (.v 3) (.k (.fld 21 (.v 0) (AF "marked")) .e))))))) (.k (.dput (.fld 21 (.v 0) (AF "words")) (.idx (.v 1) (.i 1)) (.v 4)) (.k (.sfl 21 (.v 0) (AF "marked") (.v 5)) .e))))⟩
noncomputable def zaO:Fn:=⟨2,2,AC,(.k (.ite (.not (.call 31 (.k (.tup (.k (.v 0) (.k (.v 1) .e))) .e))) (.k .nope .e) .e) (.k (.ret (.tup (.k (.v 0) (.k (.v 1) .e)))) .e))⟩
noncomputable def zae:Fn:=⟨1,1,AC,(.k (.ite (.not (.call 26 (.k (.v 0) .e))) (.k .nope .e) .e) .e)⟩
noncomputable def za3:Fn:=⟨3,3,AC,(.k (.ite (.or (.cmp .lt (.v 0) (.i 0)) (.cmp .ge (.v 0) (.bin .shl (.i 1) (.bin .mul (.v 1) (.v 2))))) (.k .nope .e) .e) (.k (.ret (.call 84 (.k (.v 0) (.k (.v 1) (.k (.v 2) .e))))) .e))⟩
noncomputable def zd2:Fn:=⟨2,2,AC,(.k (.ret (.blt .sum (.k (.comp [AE,AE,AA 1] (.t [0,1]) (.enum (.v 0)) (.cst (.bl AC)) (.bin .shl (.v 1) (.bin .mul (.v 2) (.v 0)))) .e))) .e)⟩
noncomputable def zab:Fn:=⟨3,4,AC,(.k (.asg (.n 3) (.bin .sub (.bin .shl (.i 1) (.v 1)) (.i 1))) (.k (.ret (.blt .tuple (.k (.comp [AE,AA 3,AA 0,AA 1] (.n 0) (.range1 (.v 2)) (.cst (.bl AC)) (.bin .band (.bin .shr (.v 2) (.bin .mul (.v 3) (.v 0))) (.v 1))) .e))) .e))⟩
def zZ:Fn:=⟨5,5,AC,(.k (.ite (.not (.call 55 (.k (.v 0) .e))) (.k .nope .e) .e) (.k (.expr (.call 82 (.k (.v 3) (.k (.v 1) (.k (.v 2) .e))))) (.k (.expr (.call 82 (.k (.v 4) (.k (.v 1) (.k (.v 2) .e))))) (.k (.ite (.and (.cmp .ne (.v 4) (.i 0)) (.not (.call 56 (.k (.v 0) .e)))) (.k .nope .e) .e) (.k (.ite (.and (.cmp .eq (.v 4) (.i 0)) (.cmp .isin (.idx (.v 0) (.i 0)) (.cst z8))) (.k .nope .e) .e) .e)))))⟩
def ycw:Fn:=⟨5,7,AC,(.k (.expr (.call 85 (.k (.v 0) (.k (.v 1) (.k (.v 2) (.k (.v 3) (.k (.v 4) .e))))))) (.k (.asg (.n 5) (.call 87 (.k (.v 1) (.k (.v 2) (.k (.v 3) (.k (.v 4) .e)))))) (.k (.expr (.mcl 21 75 (AF "run") (.v 5) (.k (.call 54 (.k (.v 0) (.k (.v 1) (.k (.v 2) .e)))) .e))) (.k (.asg (.n 6) (.call 88 (.k (.v 5) (.k (.s "c") (.k (.call 57 (.k (.v 0) (.k (.v 2) .e))) .e))))) (.k (.ret (.tup (.k (.v 6) (.k (.call 88 (.k (.v 5) (.k (.s "d") (.k (.call 58 (.k (.v 0) (.k (.v 2) .e))) .e)))) (.k (.call 88 (.k (.v 5) (.k (.s "m") (.k (.cst zca) .e)))) .e))))) .e)))))⟩
def yp:Fn:=⟨4,9,AD,(.k (.asg (.n 4) (.new 21 72 (.k (.v 0) .e))) (.k (.for (.t [5,6]) (.seq (.tup (.k (.tup (.k (.s "a") (.k (.v 2) .e))) (.k (.tup (.k (.s "b") (.k (.v 3) .e))) .e)))) (.k (.for (.t [7,8]) (.enum (.call 84 (.k (.v 6) (.k (.v 0) (.k (.v 1) .e))))) (.k (.expr (.mcl 21 73 (AF "put") (.v 4) (.k (.v 5) (.k (.v 7) (.k (.v 8) .e))))) .e)) .e)) (.k (.ret (.v 4)) .e)))⟩
noncomputable def yam:Fn:=⟨3,3,AD,(.k (.ret (.blt .tuple (.k (.comp [AE,AA 1,AA 0] (.n 0) (.range1 (.v 2)) (.cst (.bl AC)) (.mcl 21 74 (AF "word") (.v 2) (.k (.v 1) (.k (.v 0) .e)))) .e))) .e)⟩
noncomputable def zcg:Fn:=⟨1,1,AD,(.k (.ret (.newl (.k (.slc (.v 0) (.cst .non) (.i 63)) (.k (.i 0) (.k (.i 0) (.k (.cst (.bl AD)) .e)))))) .e)⟩
noncomputable def yav:Fn:=⟨1,8,AC,(.k (.asg (.n 1) (.tup (.k (.i 2147483647) (.k (.i 2147483629) (.k (.i 2147483587) (.k (.i 2147483579) (.k (.i 2147483563) .e))))))) (.k (.asg (.n 2) (.i 0)) (.k (.for (.t [3,4]) (.enum (.v 1)) (.k (.asg (.n 5) (.bin .add (.v 0) (.idx (.tup (.k (.i 11) (.k (.i 101) (.k (.i 1009) (.k (.i 10007) (.k (.i 100003) .e)))))) (.v 3)))) (.k (.asg (.n 5) (.bin .mod (.bin .mul (.v 5) (.bin .add (.i 48271) (.bin .mul (.i 2) (.v 3)))) (.v 4))) (.k (.asg (.n 6) (.bin .mod (.bin .mul (.v 5) (.v 5)) (.v 4))) (.k (.asg (.n 7) (.bin .mod (.bin .mul (.bin .mod (.bin .mul (.v 6) (.v 6)) (.v 4)) (.v 5)) (.v 4))) (.k (.asg (.n 2) (.bin .add (.bin .mul (.v 2) (.v 4)) (.v 7))) .e)))))) (.k (.ret (.v 2)) .e))))⟩
noncomputable def yag:Fn:=⟨1,4,AD,(.k (.asg (.t [1,2]) (.tup (.k (.idx (.v 0) (.i 0)) (.k (.idx (.v 0) (.i 1)) .e)))) (.k (.asg (.n 3) (.bin .add (.bin .mul (.i 31) (.v 2)) (.i 7))) (.k (.ite (.cmp .gt (.blt .len (.k (.v 1) .e)) (.i 0)) (.k (.asg (.n 3) (.bin .mul (.i 104729) (.bin .fdiv (.v 2) (.blt .len (.k (.v 1) .e))))) (.k (.asg (.n 3) (.bin .add (.v 3) (.idx (.v 1) (.bin .mod (.v 2) (.blt .len (.k (.v 1) .e)))))) .e)) .e) (.k (.six (.v 0) (.i 1) (.bin .add (.v 2) (.i 1))) (.k (.six (.v 0) (.i 3) (.or (.cmp .ge (.v 2) (.blt .len (.k (.v 1) .e))) (.cmp .lt (.v 3) (.bin .pow (.i 10) (.i 18))))) (.k (.ite (.idx (.v 0) (.i 3)) (.k (.six (.v 0) (.i 2) (.call 90 (.k (.v 3) .e))) .e) (.k (.six (.v 0) (.i 2) (.bin .sub (.v 3) (.bin .pow (.i 10) (.i 18)))) .e)) .e))))))⟩
noncomputable def yab:Fn:=⟨2,4,AD,(.k (.asg (.n 2) (.i 0)) (.k (.while (.and (.cmp .lt (.v 2) (.i 64)) (.or (.cmp .eq (.idx (.v 0) (.i 2)) (.i 0)) (.and (.idx (.v 0) (.i 3)) (.cmp .lt (.idx (.v 0) (.i 2)) (.bin .mul (.v 1) (.i 4096)))))) (.k (.expr (.call 91 (.k (.v 0) .e))) (.k (.aug 2 .add (.i 1)) (.k (.ite (.and (.idx (.v 0) (.i 3)) (.cmp .lt (.idx (.v 0) (.i 2)) (.bin .mul (.v 1) (.i 4096)))) (.k (.six (.v 0) (.i 2) (.bin .add (.idx (.v 0) (.i 2)) (.bin .mul (.bin .mul (.v 1) (.i 4096)) (.bin .add (.i 1) (.bin .mod (.idx (.v 0) (.i 2)) (.i 4093)))))) .e) .e) .e)))) (.k (.asg (.n 3) (.bin .mod (.idx (.v 0) (.i 2)) (.v 1))) (.k (.six (.v 0) (.i 2) (.bin .fdiv (.idx (.v 0) (.i 2)) (.v 1))) (.k (.ret (.v 3)) .e)))))⟩
noncomputable def zcn:Fn:=⟨2,2,AD,(.k (.ret (.tup (.k (.bin .add (.i 4) (.call 92 (.k (.v 0) (.k (.i 13) .e)))) (.k (.bin .add (.i 1) (.call 92 (.k (.v 0) (.k (.v 1) .e)))) .e)))) .e)⟩
noncomputable def yX:Fn:=⟨3,13,AD,(.k (.asg (.n 3) (.call 92 (.k (.v 0) (.k (.i 12) .e)))) (.k (.asg (.n 4) (.i 1)) (.k (.for (.n 5) (.range1 (.bin .mul (.v 1) (.v 2))) (.k (.asg (.n 4) (.bin .mul (.i 2) (.v 4))) .e)) (.k (.asg (.n 6) (.tup (.k (.i 0) (.k (.i 1) (.k (.bin .sub (.v 4) (.i 1)) (.k (.bin .fdiv (.v 4) (.i 2)) (.k (.bin .sub (.bin .fdiv (.v 4) (.i 2)) (.i 1)) (.k (.bin .sub (.v 4) (.i 2)) .e)))))))) (.k (.ite (.cmp .lt (.v 3) (.i 6)) (.k (.ret (.idx (.v 6) (.v 3))) .e) .e) (.k (.asg (.n 7) (.call 92 (.k (.v 0) (.k (.v 4) .e)))) (.k (.ite (.cmp .eq (.v 3) (.i 6)) (.k (.asg (.n 8) (.i 1)) (.k (.for (.n 5) (.range1 (.call 92 (.k (.v 0) (.k (.bin .mul (.v 1) (.v 2)) .e)))) (.k (.asg (.n 8) (.bin .mul (.i 2) (.v 8))) .e)) (.k (.ret (.bin .mul (.bin .fdiv (.v 7) (.v 8)) (.v 8))) .e))) .e) (.k (.ite (.cmp .eq (.v 3) (.i 7)) (.k (.asg (.n 8) (.i 1)) (.k (.for (.n 5) (.range1 (.call 92 (.k (.v 0) (.k (.bin .mul (.v 1) (.v 2)) .e)))) (.k (.asg (.n 8) (.bin .mul (.i 2) (.v 8))) .e)) (.k (.ret (.bin .sub (.v 4) (.v 8))) .e))) .e) (.k (.ite (.cmp .gt (.v 3) (.i 9)) (.k (.ret (.v 7)) .e) .e) (.k (.asg (.n 9) (.i 1)) (.k (.for (.n 5) (.range1 (.v 1)) (.k (.asg (.n 9) (.bin .mul (.i 2) (.v 9))) .e)) (.k (.asg (.n 10) (.i 0)) (.k (.for (.n 5) (.range1 (.v 2)) (.k (.asg (.n 11) (.bin .mod (.bin .fdiv (.v 7) (.bin .add (.v 5) (.i 1))) (.v 9))) (.k (.asg (.n 12) (.tup (.k (.i 0) (.k (.i 1) (.k (.bin .sub (.v 9) (.i 1)) (.k (.bin .fdiv (.v 9) (.i 2)) (.k (.v 11) .e))))))) (.k (.asg (.n 10) (.bin .add (.bin .mul (.v 10) (.v 9)) (.idx (.v 12) (.call 92 (.k (.v 0) (.k (.i 5) .e)))))) .e)))) (.k (.ret (.v 10)) .e))))))))))))))⟩
noncomputable def zbF:Fn:=⟨1,3,AC,(.k (.asg (.n 1) (.i 1)) (.k (.for (.n 2) (.range1 (.v 0)) (.k (.asg (.n 1) (.bin .mul (.i 2) (.v 1))) .e)) (.k (.ret (.v 1)) .e)))⟩
noncomputable def zch:Fn:=⟨3,6,AC,(.k (.asg (.n 3) (.call 95 (.k (.v 1) .e))) (.k (.asg (.n 4) (.newl .e)) (.k (.for (.n 5) (.range1 (.v 2)) (.k (.expr (.mth .append (.v 4) (.k (.bin .mod (.v 0) (.v 3)) .e))) (.k (.asg (.n 0) (.bin .fdiv (.v 0) (.v 3))) .e))) (.k (.ret (.blt .tuple (.k (.v 4) .e))) .e))))⟩
noncomputable def zee:Fn:=⟨1,1,AC,(.k (.ret (.and (.isi (.v 0) [.int]) (.not (.isi (.v 0) [.bool])))) .e)⟩
noncomputable def zbV:Fn:=⟨3,3,AC,(.k (.ite (.or (.not (.isi (.v 0) [.tuple])) (.or (.cmp .ne (.blt .len (.k (.v 0) .e)) (.v 2)) (.not (.blt .all (.k (.comp [AE] (.n 0) (.seq (.v 0)) (.cst (.bl AC)) (.call 97 (.k (.v 0) .e))) .e))))) (.k .nope .e) .e) (.k (.ret (.blt .all (.k (.comp [AE,AA 1] (.n 0) (.seq (.v 0)) (.cst (.bl AC)) (.chain .le .lt (.i 0) (.v 0) (.call 95 (.k (.v 1) .e)))) .e))) .e))⟩
noncomputable def zby:Fn:=⟨5,6,AC,(.k (.asg (.n 5) (.call 86 (.k (.v 0) (.k (.v 1) (.k (.v 2) (.k (.v 3) (.k (.v 4) .e))))))) (.k (.ite (.or (.not (.isi (.v 5) [.tuple])) (.cmp .ne (.blt .len (.k (.v 5) .e)) (.i 3))) (.k .nope .e) .e) (.k (.ret (.idx (.v 5) (.i 0))) .e)))⟩
noncomputable def zco:Fn:=⟨4,7,AC,(.k (.asg (.n 4) (.call 99 (.k (.tup (.k (.s "product") .e)) (.k (.v 0) (.k (.v 1) (.k (.v 2) (.k (.call 95 (.k (.v 3) .e)) .e))))))) (.k (.asg (.n 5) (.call 99 (.k (.tup (.k (.s "left") (.k (.v 3) .e))) (.k (.v 0) (.k (.v 1) (.k (.v 2) (.k (.i 0) .e))))))) (.k (.asg (.n 6) (.call 99 (.k (.tup (.k (.s "right") (.k (.bin .sub (.bin .mul (.v 0) (.v 1)) (.v 3)) .e))) (.k (.v 0) (.k (.v 1) (.k (.v 2) (.k (.i 0) .e))))))) (.k (.ret (.and (.cmp .eq (.blt .len (.k (.v 4) .e)) (.bin .mul (.i 2) (.v 1))) (.and (.cmp .eq (.slc (.v 4) (.cst .non) (.v 1)) (.v 5)) (.cmp .eq (.slc (.v 4) (.v 1) (.cst .non)) (.v 6))))) .e))))⟩
noncomputable def ybd:Fn:=⟨1,10,AC,(.k (.asg (.n 1) (.call 89 (.k (.v 0) .e))) (.k (.asg (.t [2,3]) (.call 93 (.k (.v 1) (.k (.i 2) .e)))) (.k (.asg (.n 4) (.bin .fdiv (.call 94 (.k (.v 1) (.k (.v 2) (.k (.v 3) .e)))) (.i 2))) (.k (.asg (.n 5) (.bin .fdiv (.call 94 (.k (.v 1) (.k (.v 2) (.k (.v 3) .e)))) (.i 2))) (.k (.asg (.n 6) (.call 94 (.k (.v 1) (.k (.v 2) (.k (.v 3) .e))))) (.k (.asg (.n 7) (.call 99 (.k (.tup (.k (.s "product") .e)) (.k (.v 2) (.k (.v 3) (.k (.v 4) (.k (.v 6) .e))))))) (.k (.asg (.n 8) (.call 99 (.k (.tup (.k (.s "product") .e)) (.k (.v 2) (.k (.v 3) (.k (.v 5) (.k (.v 6) .e))))))) (.k (.asg (.n 9) (.call 99 (.k (.tup (.k (.s "product") .e)) (.k (.v 2) (.k (.v 3) (.k (.bin .add (.v 4) (.v 5)) (.k (.v 6) .e))))))) (.k (.ite (.not (.blt .all (.k (.comp [AE,AA 2,AA 3] (.n 0) (.seq (.tup (.k (.v 7) (.k (.v 8) (.k (.v 9) .e))))) (.cst (.bl AC)) (.call 98 (.k (.v 0) (.k (.v 1) (.k (.bin .mul (.i 2) (.v 2)) .e))))) .e))) (.k .nope .e) .e) (.k (.ite (.or (.cmp .ne (.call 99 (.k (.tup (.k (.s "product") .e)) (.k (.v 2) (.k (.v 3) (.k (.v 6) (.k (.v 4) .e)))))) (.v 7)) (.cmp .ne (.call 99 (.k (.tup (.k (.s "product") .e)) (.k (.v 2) (.k (.v 3) (.k (.v 6) (.k (.i 1) .e)))))) (.call 96 (.k (.v 6) (.k (.v 2) (.k (.bin .mul (.i 2) (.v 3)) .e)))))) (.k .nope .e) .e) (.k (.ite (.cmp .ne (.call 99 (.k (.tup (.k (.s "sum") .e)) (.k (.v 2) (.k (.bin .mul (.i 2) (.v 3)) (.k (.call 83 (.k (.v 7) (.k (.v 2) .e))) (.k (.call 83 (.k (.v 8) (.k (.v 2) .e))) .e)))))) (.v 9)) (.k .nope .e) .e) (.k (.ret (.call 100 (.k (.v 2) (.k (.v 3) (.k (.v 6) (.k (.call 92 (.k (.v 1) (.k (.bin .mul (.v 2) (.v 3)) .e))) .e)))))) .e))))))))))))⟩
def Tl:List Fn:=[zki,zcz,zjX,zf6,zf2,zj1,zbA,zaM,zc0,zaR,zbX,zbk,zaz,zcb,zbW,zam,zbo,zdq,zbh,zaV,ze1,zaS,zbB,zbI,zeN,zcU,zcf,zbv,yL,zbd,zY,zbT,zbl,zal,zbE,zba,ze0,zcd,zdh,zP,yh,yj,zx,zE,zw,zu,zaY,za4,za5,zcu,zeq,zan,zaH,zcW,zat,zeC,zcD,zS,zaf,zaU,zaW,zfX,zbC,zdR,zd1,zcm,zad,zbx,zcq,zcl,zbN,zcs,zF,zaj,zac,yC,zN,zd,zG,zL,zaO,zae,za3,zd2,zab,zZ,ycw,yp,yam,zcg,yav,yag,yab,zcn,yX,zbF,zch,zee,zbV,zby,zco,ybd]
def T (i:Nat):Option Fn:=Tl[i]?
noncomputable abbrev zaC:Nat:=15
noncomputable abbrev zbq:Nat:=16
noncomputable abbrev za6:Nat:=26
noncomputable abbrev zb1:Nat:=28
noncomputable abbrev zb6:Nat:=29
noncomputable abbrev zt:Nat:=30
noncomputable abbrev zeH:Nat:=31
noncomputable abbrev zbG:Nat:=33
noncomputable abbrev zdo:Nat:=35
noncomputable abbrev zah:Nat:=39
noncomputable abbrev zQ:Nat:=40
noncomputable abbrev zo:Nat:=41
noncomputable abbrev zO:Nat:=42
noncomputable abbrev zap:Nat:=43
noncomputable abbrev zJ:Nat:=44
noncomputable abbrev zI:Nat:=45
noncomputable abbrev zB:Nat:=46
noncomputable abbrev zdg:Nat:=47
noncomputable abbrev zdx:Nat:=48
noncomputable abbrev zaG:Nat:=51
noncomputable abbrev za8:Nat:=52
noncomputable abbrev zay:Nat:=53
noncomputable abbrev zaI:Nat:=54
noncomputable abbrev zbY:Nat:=55
noncomputable abbrev zbs:Nat:=56
noncomputable abbrev zaw:Nat:=57
noncomputable abbrev zaQ:Nat:=58
noncomputable abbrev zif:Nat:=61
noncomputable abbrev zdb:Nat:=62
noncomputable abbrev zfm:Nat:=63
noncomputable abbrev ze5:Nat:=64
noncomputable abbrev zd6:Nat:=65
noncomputable abbrev zaZ:Nat:=66
noncomputable abbrev zcN:Nat:=67
noncomputable abbrev zd7:Nat:=68
noncomputable abbrev zdZ:Nat:=69
noncomputable abbrev zcO:Nat:=70
noncomputable abbrev zdP:Nat:=71
noncomputable abbrev z5:Nat:=72
noncomputable abbrev zbS:Nat:=73
noncomputable abbrev zR:Nat:=74
noncomputable abbrev zaE:Nat:=75
noncomputable abbrev zq:Nat:=76
noncomputable abbrev zk:Nat:=77
noncomputable abbrev zau:Nat:=78
noncomputable abbrev z7:Nat:=79
noncomputable abbrev za0:Nat:=80
noncomputable abbrev zW:Nat:=81
noncomputable abbrev zbb:Nat:=82
noncomputable abbrev zdI:Nat:=83
noncomputable abbrev zT:Nat:=84
noncomputable abbrev zbL:Nat:=85
noncomputable abbrev zol:Nat:=86
noncomputable abbrev zax:Nat:=87
noncomputable abbrev zas:Nat:=88
noncomputable abbrev zdS:Nat:=89
noncomputable abbrev zeg:Nat:=90
noncomputable abbrev zhN:Nat:=91
noncomputable abbrev zdC:Nat:=92
noncomputable abbrev zdK:Nat:=93
noncomputable abbrev zbz:Nat:=94
noncomputable abbrev zbP:Nat:=95
noncomputable abbrev zcr:Nat:=96
noncomputable abbrev zdN:Nat:=97
noncomputable abbrev zao:Nat:=98
noncomputable abbrev zr:Nat:=99
noncomputable abbrev zfS:Nat:=100
noncomputable abbrev zi0:Nat:=101
end IC
namespace WK
open PySem L2 IC
noncomputable def top (i:Nat):Stmt:=DX.main.body.getD i (.Pass ⟨0,0,0,0⟩)
def tbQ:Tb where
 tbl:=[⟨"word","word","word",top 15,["letter","c","i","j","m"],["letter","c","i","j","m"],zki,.fd [0,0,0,0]⟩,⟨"last_word","last_word","last_word",top 16,["letter"],["letter"],zcz,.fn⟩,⟨"rows","rows","rows",top 17,["told"],["told"],zjX,.fn⟩,⟨"rounds","rounds","rounds",top 18,["count","sentence","inner"],["count","sentence","inner"],zf6,.fn⟩,⟨"lowest","lowest","lowest",top 19,["letter","c","i","j","m"],["letter","c","i","j","m"],zf2,.fd [0,0,0,0]⟩,⟨"term","term","term",top 20,["f","things","i","p","q","r"],["f","things","i","p","q","r"],zj1,.fd [0,0,0,0]⟩,⟨"moved_parts","moved","moved",top 21,["to","source","c","sentence"],["to","source","c"],zbA,.fd [0]⟩,⟨"doubled_parts","doubled","doubled",top 23,["letter","count"],["letter","count"],zaM,.fn⟩,⟨"kept_mark","kept_mark","kept_mark",top 25,["to"],["to"],zc0,.fn⟩,⟨"kept_contrary","kept_contrary","kept_contrary",top 26,["to"],["to"],zaR,.fn⟩,⟨"asked_words","asked_words","asked_words",top 29,["letter","m","count","gathered"],["letter","m","count"],zbX,.fn⟩,⟨"answer_marks","answer_marks","answer_marks",top 30,["c","m","sign"],["c","m"],zbk,.fn⟩,⟨"product_telling","product_telling","product_telling",top 43,["unfit"],[],zaz,.fn⟩,⟨"multiplied","multiplied","multiplied",top 44,["sentence","begun","ended"],[],zcb,.fn⟩,⟨"by_one_word","by_one_word","by_one_word",top 45,["here","this_word","sentence"],[],zbW,.fn⟩,⟨"is_whole","is_whole","is_whole",top 58,["thing","low","high"],["thing","low","high"],zam,.fn⟩,⟨"is_letter","is_letter","is_letter",top 59,["thing"],["thing"],zbo,.fn⟩,⟨"are_told","are_told","are_told",top 60,["thing","many"],["thing","many"],zdq,.fn⟩,⟨"left_telling","left_telling","left_telling",top 62,["s"],["s"],zbh,.fn⟩,⟨"right_telling","right_telling","right_telling",top 63,["s"],["s"],zaV,.fn⟩,⟨"shifted","shifted","shifted",top 66,["s","ahead","by_one"],["s","ahead","by_one"],ze1,.fn⟩,⟨"halved_shifts","halved","halved",top 67,["here"],[],zaS,.fn⟩,⟨"left_behind","left_behind","left_behind",top 70,[],[],zbB,.fn⟩,⟨"sum_telling","sum_telling","sum_telling",top 91,["added","sentence","lone"],[],zbI,.fn⟩,⟨"carried","carried","carried",top 97,["row","sentence"],["row","sentence"],zeN,.fn⟩,⟨"lone_sign","lone_sign","lone_sign",top 98,["lone","one","other"],["lone","one","other"],zcU,.fn⟩,⟨"is_row","is_row","is_row",top 101,["thing"],["thing"],zcf,.fn⟩,⟨"is_told_row","is_told_row","is_told_row",top 102,["thing"],["thing"],zbv,.fn⟩,⟨"has_form","has_form","has_form",top 103,["thing","told","kind","operand"],["thing","told"],yL,.fn⟩,⟨"is_named","is_named","is_named",top 104,["thing"],["thing"],zbd,.fn⟩,⟨"is_operand","is_operand","is_operand",top 105,["kind","thing","told"],["kind","thing","told"],zY,.fn⟩,⟨"is_cell","is_cell","is_cell",top 106,["thing"],["thing"],zbT,.fn⟩,⟨"is_told_cell","is_told_cell","is_told_cell",top 107,["thing"],["thing"],zbl,.fn⟩,⟨"is_lettered","is_lettered","is_lettered",top 108,["thing"],["thing"],zal,.fn⟩,⟨"is_sentence","is_sentence","is_sentence",top 113,["thing"],["thing"],zbE,.fn⟩,⟨"place_of","place_of","place_of",top 114,["told","n","i","j"],["told","n","i","j"],zba,.fn⟩,⟨"is_term","is_term","is_term",top 115,["thing","f","exponent","things"],["thing"],ze0,.fn⟩,⟨"are_things","are_things","are_things",top 116,["thing"],["thing"],zcd,.fn⟩,⟨"is_thing","is_thing","is_thing",top 117,["thing"],["thing"],zdh,.fn⟩,⟨"","__init__","Unrolling.__init__",inClass (top 122) 0,["self","w","n"],["self","w","n"],zP,.ini 20⟩,⟨"","go_parts","Unrolling.go_parts",inClass (top 122) 1,["self","parts","gone","part"],["self","parts","gone"],yh,.me 20⟩,⟨"","go_rounds","Unrolling.go_rounds",inClass (top 122) 2,["self","part","gone","count","at"],["self","part","gone"],yj,.me 20⟩,⟨"","count_of","Unrolling.count_of",inClass (top 122) 3,["self","told","c","m","t"],["self","told"],zx,.me 20⟩,⟨"","add_row","Unrolling.add_row",inClass (top 122) 4,["self","told","gone","i","j","row"],["self","told","gone"],zE,.me 20⟩,⟨"","add_round","Unrolling.add_round",inClass (top 122) 5,["self"],["self"],zw,.me 20⟩,⟨"","add_asked","Unrolling.add_asked",inClass (top 122) 6,["self","sentence","gone","i","j"],["self","sentence","gone"],zu,.me 20⟩,⟨"is_telling","is_telling","is_telling",top 123,["thing"],["thing"],zaY,.fn⟩,⟨"unrolled","unrolled","unrolled",top 124,["telling","w","n"],["telling","w","n"],za4,.fn⟩,⟨"steps_of","steps_of","steps_of",top 125,["telling","w","n","unrolling"],["telling","w","n"],za5,.fn⟩,⟨"are_parts","are_parts","are_parts",top 126,["thing","nests"],["thing","nests"],zcu,.fn⟩,⟨"is_part","is_part","is_part",top 127,["thing","nests"],["thing","nests"],zeq,.fn⟩,⟨"both_gone","both_gone","both_gone",top 128,["gone"],["gone"],zan,.fn⟩,⟨"placed","placed","placed",top 129,["thing","n","i","j"],["thing","n","i","j"],zaH,.fn⟩,⟨"telling","telling","telling",top 138,["deed"],["deed"],zcW,.fn⟩,⟨"deed_rows","deed_rows","deed_rows",top 139,["deed","w","n"],["deed","w","n"],zat,.fn⟩,⟨"is_deed","is_deed","is_deed",top 140,["thing"],["thing"],zeC,.fn⟩,⟨"is_paired","is_paired","is_paired",top 141,["deed"],["deed"],zcD,.fn⟩,⟨"answer_words","answer_words","answer_words",top 142,["deed","n"],["deed","n"],zS,.fn⟩,⟨"rest_words","rest_words","rest_words",top 143,["deed","n"],["deed","n"],zaf,.fn⟩,⟨"shift_telling","shift_telling","shift_telling",top 144,["name","s"],["name","s"],zaU,.fn⟩,⟨"named_telling","named_telling","named_telling",top 145,["name"],["name"],zaW,.fn⟩,⟨"made","made","made",top 147,["name","w","x","y","k","make"],["name","w","x","y","k"],zfX,.fn⟩,⟨"highest","highest","highest",top 148,["w"],["w"],zbC,.fn⟩,⟨"moved","moved","moved",top 149,["w","x","y","k"],["w","x","y","k"],zdR,.fn⟩,⟨"bared","bared","bared",top 151,["w","x","y","k"],["w","x","y","k"],zd1,.fn⟩,⟨"summed","summed","summed",top 152,["w","x","y","k","total"],["w","x","y","k"],zcm,.fn⟩,⟨"taken_away","taken_away","taken_away",top 153,["w","x","y","k","total"],["w","x","y","k"],zad,.fn⟩,⟨"in_both","in_both","in_both",top 154,["w","x","y","k"],["w","x","y","k"],zbx,.fn⟩,⟨"in_any","in_any","in_any",top 155,["w","x","y","k"],["w","x","y","k"],zcq,.fn⟩,⟨"in_one","in_one","in_one",top 156,["w","x","y","k"],["w","x","y","k"],zcl,.fn⟩,⟨"doubled","doubled","doubled",top 157,["w","x","y","k"],["w","x","y","k"],zbN,.fn⟩,⟨"halved","halved","halved",top 159,["w","x","y","k"],["w","x","y","k"],zcs,.fn⟩,⟨"","__init__","Machine.__init__",inClass (top 163) 0,["self","w"],["self","w"],zF,.ini 21⟩,⟨"","put","Machine.put",inClass (top 163) 1,["self","letter","at","word","cell"],["self","letter","at","word"],zaj,.me 21⟩,⟨"","word","Machine.word",inClass (top 163) 2,["self","letter","at"],["self","letter","at"],zac,.me 21⟩,⟨"","run","Machine.run",inClass (top 163) 5,["self","rows","row"],["self","rows"],yC,.me 21⟩,⟨"","held_in","Machine.held_in",inClass (top 163) 6,["self","cell"],["self","cell"],zN,.me 21⟩,⟨"","go_row","Machine.go_row",inClass (top 163) 7,["self","row"],["self","row"],zd,.me 21⟩,⟨"","go_times","Machine.go_times",inClass (top 163) 8,["self","row","product"],["self","row"],zG,.me 21⟩,⟨"","go_made","Machine.go_made",inClass (top 163) 9,["self","row","x","y","word","mark"],["self","row"],zL,.me 21⟩,⟨"known_cell","known_cell","known_cell",top 164,["letter","at"],["letter","at"],zaO,.fn⟩,⟨"refuse_row","refuse_row","refuse_row",top 165,["thing"],["thing"],zae,.fn⟩,⟨"words_of","words_of","words_of",top 167,["worth","w","n"],["worth","w","n"],za3,.fn⟩,⟨"plain","plain","plain",top 168,["number","w"],["number","w"],zd2,.fn⟩,⟨"lowest_words","lowest_words","lowest_words",top 169,["worth","w","n","highest"],["worth","w","n"],zab,.fn⟩,⟨"refuse_deed","refuse_deed","refuse_deed",top 171,["deed","w","n","x","y"],["deed","w","n","x","y"],zZ,.fn⟩,⟨"ran","ran","ran",top 174,["deed","w","n","x","y","machine","answer"],["deed","w","n","x","y"],ycw,.fn⟩,⟨"machine_with","machine_with","machine_with",top 175,["w","n","x","y","machine","letter","worth","at","word"],["w","n","x","y"],yp,.fn⟩,⟨"number_in","number_in","number_in",top 176,["machine","letter","many"],["machine","letter","many"],yam,.fn⟩,⟨"_law_fresh","_law_fresh","_law_fresh",top 178,["_law_script"],["_law_script"],zcg,.fn⟩,⟨"_law_mixed","_law_mixed","_law_mixed",top 179,["_law_seed","_law_primes","_law_number_here","_law_k","_law_prime","_law_far","_law_square","_law_power"],["_law_seed"],yav,.fn⟩,⟨"_law_fill","_law_fill","_law_fill",top 180,["_law_state","_law_cells","_law_at","_law_seed"],["_law_state"],yag,.fn⟩,⟨"_law_take","_law_take","_law_take",top 181,["_law_state","_law_many","_law_turns","_law_digit"],["_law_state","_law_many"],yab,.fn⟩,⟨"_law_sizes","_law_sizes","_law_sizes",top 182,["_law_state","_law_most"],["_law_state","_law_most"],zcn,.fn⟩,⟨"_law_worth","_law_worth","_law_worth",top 183,["_law_state","_law_w","_law_n","_law_way","_law_top","_law_k","_law_edges","_law_any_one","_law_low","_law_wide","_law_worth_here","_law_some","_law_words_here"],["_law_state","_law_w","_law_n"],yX,.fn⟩,⟨"_law_two_to","_law_two_to","_law_two_to",top 184,["_law_many","_law_found","_law_k"],["_law_many"],zbF,.fn⟩,⟨"_law_words","_law_words","_law_words",top 185,["_law_worth_here","_law_w","_law_n","_law_wide","_law_words_here","_law_k"],["_law_worth_here","_law_w","_law_n"],zch,.fn⟩,⟨"_law_whole","_law_whole","_law_whole",top 186,["_law_thing"],["_law_thing"],zee,.fn⟩,⟨"_law_number","_law_number","_law_number",top 187,["_law_thing","_law_w","_law_n"],["_law_thing","_law_w","_law_n"],zbV,.fn⟩,⟨"_law_answer","_law_answer","_law_answer",top 188,["_law_deed","_law_w","_law_n","_law_x","_law_y","_law_found"],["_law_deed","_law_w","_law_n","_law_x","_law_y"],zby,.fn⟩,⟨"_law_split","_law_split","_law_split",top 189,["_law_w","_law_n","_law_x","_law_s","_law_whole_here","_law_left","_law_right"],["_law_w","_law_n","_law_x","_law_s"],zco,.fn⟩,⟨"law","law","law",top 190,["_law_script","_law_state","_law_w","_law_n","_law_x","_law_y","_law_z","_law_one","_law_two","_law_both"],["_law_script"],ybd,.fn⟩]
 al:=[eD "word" 0,eF "last_word" 1,eF "rows" 2,eF "rounds" 3,eD "lowest" 4,eD "term" 5,eD "moved_parts" 6,eF "doubled_parts" 7,eF "kept_mark" 8,eF "kept_contrary" 9,eF "asked_words" 10,eF "answer_marks" 11,eF "product_telling" 12,eF "multiplied" 13,eF "by_one_word" 14,eF "is_whole" 15,eF "is_letter" 16,eF "are_told" 17,eF "left_telling" 18,eF "right_telling" 19,eF "shifted" 20,eF "halved_shifts" 21,eF "left_behind" 22,eF "sum_telling" 23,eF "carried" 24,eF "lone_sign" 25,eF "is_row" 26,eF "is_told_row" 27,eF "has_form" 28,eF "is_named" 29,eF "is_operand" 30,eF "is_cell" 31,eF "is_told_cell" 32,eF "is_lettered" 33,eF "is_sentence" 34,eF "place_of" 35,eF "is_term" 36,eF "are_things" 37,eF "is_thing" 38,eF "is_telling" 46,eF "unrolled" 47,eF "steps_of" 48,eF "are_parts" 49,eF "is_part" 50,eF "both_gone" 51,eF "placed" 52,eF "telling" 53,eF "deed_rows" 54,eF "is_deed" 55,eF "is_paired" 56,eF "answer_words" 57,eF "rest_words" 58,eF "shift_telling" 59,eF "named_telling" 60,eF "made" 61,eF "highest" 62,eF "moved" 63,eF "bared" 64,eF "summed" 65,eF "taken_away" 66,eF "in_both" 67,eF "in_any" 68,eF "in_one" 69,eF "doubled" 70,eF "halved" 71,eF "known_cell" 80,eF "refuse_row" 81,eF "words_of" 82,eF "plain" 83,eF "lowest_words" 84,eF "refuse_deed" 85,eF "ran" 86,eF "machine_with" 87,eF "number_in" 88,eF "_law_fresh" 89,eF "_law_mixed" 90,eF "_law_fill" 91,eF "_law_take" 92,eF "_law_sizes" 93,eF "_law_worth" 94,eF "_law_two_to" 95,eF "_law_words" 96,eF "_law_whole" 97,eF "_law_number" 98,eF "_law_answer" 99,eF "_law_split" 100,eF "law" 101,eF "doubled_made" 70,eF "halved_made" 71,eF "moved_made" 63,eC "EACH_WORD" zV,eC "FACTOR_LIMIT" (.int (10000000000000000000000000000000000000000)),eC "HIGH" zeQ,eC "LONE" zjY,eC "LOW" zik,eC "MARKS_parts" zD,eC "MARKS_runs" (.int (4)),eC "MOST_NESTS" (.int (2)),eC "MOST_ROUNDS" (.int (4000)),eC "MOST_ROWS" (.int (4000)),eC "MOST_TERMS" (.int (20)),eC "MOST_THINGS" (.int (2)),eC "MOST_TOLD" (.int (200)),eC "NIL" zgm,eC "OVER" zeR,eC "PAIRED" zdY,eC "PAIRWISE" zdj,eC "PRODUCTS" za7,eC "QUOTIENTS" z8,eC "SEEN" zcG,eC "SHIFTS" zd8,eC "SPARE" zbn,eG "ROWS" (.dct z6),eG "Machine" (.cls 21 72),eG "Unrolling" (.cls 20 39)]
 bs:=["all","bool","enumerate","int","isinstance","len","max","range","str","sum","tuple","zip"]
 ts:=[.bool,.int,.str,.tuple]
 fl:=[eN 20 "n",eN 20 "rounds",eN 20 "rows",eN 20 "steps",eN 20 "w",eN 21 "marked",eN 21 "w",eN 21 "words"]
 me:=[eM 20 "go_parts" 40,eM 20 "go_rounds" 41,eM 20 "count_of" 42,eM 20 "add_row" 43,eM 20 "add_round" 44,eM 20 "add_asked" 45,eM 21 "put" 73,eM 21 "word" 74,eM 21 "run" 75,eM 21 "held_in" 76,eM 21 "go_row" 77,eM 21 "go_times" 78,eM 21 "go_made" 79]
 kb:=[eK 0 1 ["i"] [AA 0,AE,AA 0,AA 0],eK 0 1 ["i","j"] [AA 0,AE,AE,AA 0],eK 0 1 ["i","m"] [AA 0,AE,AA 0,AE],eK 0 1 ["j"] [AA 0,AA 0,AE,AA 0],eK 0 2 ["j","m"] [AA 0,AE,AE],eK 0 2 ["m"] [AA 0,AA 0,AE],eK 4 1 ["i"] [AA 0,AE,AA 0,AA 0],eK 4 1 ["i","m"] [AA 0,AE,AA 0,AE],eK 4 1 ["j"] [AA 0,AA 0,AE,AA 0],eK 4 1 ["m"] [AA 0,AA 0,AA 0,AE],eK 4 2 [] [AA 0,AA 0,AA 0],eK 5 2 [] [AA 0,AA 0,AA 0,AA 0],eK 5 2 ["p"] [AA 0,AE,AA 0,AA 0],eK 5 2 ["p","q"] [AA 0,AE,AE,AA 0],eK 6 2 [] [AA 0]]
 cn:=[eN 21 "Machine",eN 20 "Unrolling"]
 dd:=[eB "ROWS" z6]
 ml:=[eL "MAKERS" zM]
theorem ok_all:tbQ.tbl.all (okT tbQ)=true:=by decide +kernel
theorem T_ok:∀i d,tbQ.tbl[i]?=AA d->T i=AA d.fn:=λi d h=>by
 have e:Tl=tbQ.tbl.map (·.fn):=rfl
 rw[T,e,Bm,h];rfl
theorem kb_all:yb3 (KbP tbQ) tbQ.kb:=by
 repeat' (first|exact trivial|(refine⟨kbP rfl rfl rfl rfl rfl (by decide) ?_,?_⟩;((repeat intro _);exact⟨_,rfl,rfl⟩)))
theorem cn_20:cnm tbQ 20="Unrolling":=rfl
theorem cn_21:cnm tbQ 21="Machine":=rfl
end WK
namespace IC
open PySem
def ya8 (call:Cl)(t:Tg)(b:Css)(xs:List PV)(ρ:Env)(st:Store):Fl:=forL t (λρ2 st2=>exs call ρ2 st2 b) xs ρ st
def yaS (call:Cl)(c:Ce)(b:Css)(n:Nat)(ρ:Env)(st:Store):Fl:=yaq (λρ2 st2=>ev call ρ2 st2 c) (λρ2 st2=>exs call ρ2 st2 b) n ρ st
def yaR (call:Cl)(ρ0:Env)(t:Tg)(c e:Ce)(x:PV)(st2:Store):R (Option PV):=match yM t x ρ0 with
 |none=>.bad
 |some ρ1=>(ev call ρ1 st2 c).bind λb st3=>onO (yaP st3 b) λk=>cond k ((ev call ρ1 st3 e).bind λy st4=>.ok (AA y) st4) (.ok AE st3)
def yai (call:Cl)(ρ0:Env)(t:Tg)(c e:Ce)(xs:List PV)(st:Store):R (List PV):=yaT (yaR call ρ0 t c e) xs st
noncomputable def yaD (f:Fl)(k:Env->Store->Fl):Fl :=
 match f with
 | .nx ρ st=>k ρ st
 |f=>f
noncomputable def nxO (o:Option Env)(st:Store):Fl :=
 match o with
 |some ρ=>.nx ρ st
 |none=>.bad
noncomputable def stO (ρ:Env)(o:Option Store):Fl :=
 match o with
 |some st=>.nx ρ st
 |none=>.bad
section
variable {call:Cl}{ρ:Env}{st:Store}
theorem x_for {t:Tg}{it:Cit}{b:Css}:ex call ρ st (.for t it b)=(evi call ρ st it).fl ρ λxs st1=>ya8 call t b xs ρ st1:=rfl
theorem zl3 {c:Ce}{b:Css}:ex call ρ st (.while c b)=yaS call c b 100000 ρ st:=rfl
theorem v_comp {sl:List (Option Nat)}{t:Tg}{it:Cit}{c e:Ce}:ev call ρ st (.comp sl t it c e)=(evi call ρ st it).bind λxs st1=>yca (yai call (sl.map λo=>o.bind λj=>(ρ[j]?).join) t c e xs st1):=rfl
theorem zH {t:Tg}{b:Css}:ya8 call t b [] ρ st=.nx ρ st:=rfl
theorem zA {t:Tg}{b:Css}{x:PV}{xs:List PV}{ρ1:Env}(h:yM t x ρ=AA ρ1):ya8 call t b (x::xs) ρ st=yaz (exs call ρ1 st b) λρ2 st2=>ya8 call t b xs ρ2 st2:=by
 rw[ya8,forL,h];rfl
theorem zd4 {t:Tg}{b:Css}(P:Nat->Env->Store->Prop):∀(xs:List PV) (i:Nat) (ρ:Env) (st:Store),P i ρ st ->
  (∀(j:Nat) (x:PV) (ρ:Env) (st:Store),xs[j]?=AA x->P (i+j) ρ st->∃ρ1 ρ2 st2,yM t x ρ=AA ρ1/\exs call ρ1 st b=.nx ρ2 st2/\P (i+j+1) ρ2 st2) ->
  ∃ρ' st',ya8 call t b xs ρ st=.nx ρ' st'/\P (i+xs.length) ρ' st'
 | [],i,ρ,st,h,_=>⟨ρ,st,zH,h⟩
 |x::xs,i,ρ,st,h,k=>by
  obtain⟨ρ1,ρ2,st2,e1,e2,h2⟩:=k 0 x ρ st rfl h
  obtain⟨ρ',st',e3,h3⟩:=zd4 P xs (i+1) ρ2 st2 h2 λj y ρ st hy hp=>by
   have:=k (j+1) y ρ st (by simpa using hy) (by rw[show i+(j+1)=i+1+j by omega];exact hp)
   rw[show i+(j+1)+1=i+1+j+1 by omega]at this
   exact this
  refine⟨ρ',st',?_,by rw[A0,show i+(xs.length+1)=i+1+xs.length by omega];exact h3⟩
  rw[zA e1,e2]
  exact e3
theorem zhM {c:Ce}{b:Css}{n:Nat}{x:PV}{st1 st2:Store}{ρ2:Env}(h:ev call ρ st c=.ok x st1)(ht:yaP st1 x=AA AC)(hb:exs call ρ st1 b=.nx ρ2 st2):yaS call c b (n+1) ρ st=yaS call c b n ρ2 st2:=by
 rw[yaS,yaq,h]
 simp only[R.fl,ht,onF,cond_true,hb,yaz]
 rfl
theorem ze7 {c:Ce}{b:Css}{n:Nat}{x:PV}{st1:Store}(h:ev call ρ st c=.ok x st1)(ht:yaP st1 x=AA AD):yaS call c b (n+1) ρ st=.nx ρ st1:=by
 rw[yaS,yaq,h]
 simp only[R.fl,ht,onF,cond_false]
theorem za1 {ρ0:Env}{t:Tg}{c e:Ce}:yai call ρ0 t c e [] st=.ok [] st:=rfl
theorem zK {ρ0:Env}{t:Tg}{c e:Ce}{x:PV}{xs:List PV}:yai call ρ0 t c e (x::xs) st=(yaR call ρ0 t c e x st).bind λo st1=>(yai call ρ0 t c e xs st1).bind λys st2=>.ok (ycb o ys) st2:=rfl
theorem zaP {ρ0:Env}{t:Tg}{c e:Ce}{f:PV->PV}:∀(xs:List PV),(∀x∈xs,yaR call ρ0 t c e x st=.ok (AA (f x)) st)->yai call ρ0 t c e xs st=.ok (xs.map f) st
 | [],_=>za1
 |x::xs,h=>by
  rw[zK,h x Ai]
  simp only[R.bind]
  rw[zaP xs λy hy=>h y (AS _ hy)]
  rfl
theorem xs_nil:exs call ρ st .nil=.nx ρ st:=rfl
theorem xs_cons {s:Cs}{ss:Css}:exs call ρ st (.cons s ss)=yaD (ex call ρ st s) λρ1 st1=>exs call ρ1 st1 ss:=rfl
theorem x_asg {t:Tg}{e:Ce}:ex call ρ st (.asg t e)=(ev call ρ st e).fl ρ λv st1=>nxO (yM t v ρ) st1:=rfl
theorem x_expr {e:Ce}:ex call ρ st (.expr e)=(ev call ρ st e).fl ρ λ_ st1=>.nx ρ st1:=rfl
theorem x_ret {e:Ce}:ex call ρ st (.ret e)=(ev call ρ st e).fl ρ λv st1=>.rt v st1:=rfl
theorem x_ite {c:Ce}{a b:Css}:ex call ρ st (.ite c a b)=(ev call ρ st c).fl ρ λx st1=>onF (yaP st1 x) λk=>cond k (exs call ρ st1 a) (exs call ρ st1 b):=rfl
theorem x_six {o i e:Ce}:ex call ρ st (.six o i e)=(ev call ρ st e).fl ρ λv st1=>(ev call ρ st1 o).fl ρ λx st2=>(ev call ρ st2 i).fl ρ λy st3=>stO ρ (ybC st3 x y v):=rfl
noncomputable def yfe (o:Option Nat)(k:Nat->Fl):Fl:=match o with
 |some j=>k j
 |none=>.bad
theorem zoC {i:Nat}{D:List (AR×Nat)}{n:Ce}{es:Ces}:ex call ρ st (.mkr i D n es)=(ev call ρ st n).fl ρ λx st1=>yfe (mkV D (decide (i<ρ.length)) x) λj=>((evs call (ρ.set i AE) st1 es).bind λvs st2=>call j vs st2).fl (ρ.set i AE) λv st3=>.rt v st3:=rfl
theorem zfd {c:Nat}{o e:Ce}{f:AR}:ex call ρ st (.sfl c o f e)=(ev call ρ st e).fl ρ λv st1=>(ev call ρ st1 o).fl ρ λx st2=>stO ρ (ya2 c st2 x f v):=rfl
theorem zfB {o i e:Ce}:ex call ρ st (.dput o i e)=(ev call ρ st e).fl ρ λv st1=>(ev call ρ st1 o).fl ρ λx st2=>(ev call ρ st2 i).fl ρ λy st3=>stO ρ (ybh st3 x y v):=rfl
theorem zov {i:Nat}{o:BOp}{e:Ce}{x:PV}(h:ρ[i]?=AA (AA x)):ex call ρ st (.aug i o e)=(ev call ρ st e).fl ρ λy st1=>nxO ((ybY o x y).map λz=>ρ.set i (AA z)) st1:=by
 rw[ex,h]
 show (ev call ρ st e).fl ρ _=_
 refine congrArg _ (funext λy=>funext λst1=>?_)
 cases ybY o x y <;> rfl
end
theorem ve1 (call:Nat->List PV->Store->R PV)(ρ:Env)(st:Store)(v:PV) :
  ev call ρ st (Ce.cst v)=R.ok v st:=rfl
theorem ve2 (call:Nat->List PV->Store->R PV)(ρ:Env)(st:Store)(i:Nat) :
  ev call ρ st (Ce.var i) =
  match ρ[i]? with
  |some (AA v)=>R.ok v st
  |x=>R.bad:=rfl
theorem ve3 (call:Nat->List PV->Store->R PV)(ρ:Env)(st:Store)(o:BOp)(a b:Ce) :
  ev call ρ st (Ce.bin o a b)=R.bind (ev call ρ st a) λx st1=>R.bind (ev call ρ st1 b) λy st2=>toR (yx o x y) st2:=rfl
theorem ve4 (call:Nat->List PV->Store->R PV)(ρ:Env)(st:Store)(a:Ce) :
  ev call ρ st (Ce.neg a) =
  R.bind (ev call ρ st a) λx st1 =>
   match x with
   |PV.int i=>R.ok (PV.int (-i)) st1
   |x=>R.bad:=rfl
theorem ve5 (call:Nat->List PV->Store->R PV)(ρ:Env)(st:Store)(a:Ce) :
  ev call ρ st (Ce.not a)=R.bind (ev call ρ st a) λx st1=>onBl x λk=>R.ok (PV.bl !k) st1:=rfl
theorem ve6 (call:Nat->List PV->Store->R PV)(ρ:Env)(st:Store)(a b:Ce) :
  ev call ρ st (Ce.and a b)=R.bind (ev call ρ st a) λx st1=>onBl x λk=>bif k then ev call ρ st1 b else R.ok (PV.bl AD) st1:=rfl
theorem ve7 (call:Nat->List PV->Store->R PV)(ρ:Env)(st:Store)(a b:Ce) :
  ev call ρ st (Ce.or a b)=R.bind (ev call ρ st a) λx st1=>onBl x λk=>bif k then R.ok (PV.bl AC) st1 else ev call ρ st1 b:=rfl
theorem ve8 (call:Nat->List PV->Store->R PV)(ρ:Env)(st:Store)(o:COp)(a b:Ce) :
  ev call ρ st (Ce.cmp o a b)=R.bind (ev call ρ st a) λx st1=>R.bind (ev call ρ st1 b) λy st2=>toR (yE o x y) st2:=rfl
theorem ve9 (call:Nat->List PV->Store->R PV)(ρ:Env)(st:Store)(o p:COp)(a b c:Ce) :
  ev call ρ st (Ce.chain o p a b c)=R.bind (ev call ρ st a) λx st1=>R.bind (ev call ρ st1 b) λy st2=>onO (blO (yE o x y)) λk=>bif k then R.bind (ev call ρ st2 c) λz st3=>toR (yE p y z) st3 else R.ok (PV.bl AD) st2:=rfl
theorem ve10 (call:Nat->List PV->Store->R PV)(ρ:Env)(st:Store)(c a b:Ce) :
  ev call ρ st (Ce.ite c a b)=R.bind (ev call ρ st c) λx st1=>onO (yaP st1 x) λk=>bif k then ev call ρ st1 a else ev call ρ st1 b:=rfl
theorem ve11 (call:Nat->List PV->Store->R PV)(ρ:Env)(st:Store)(es:Ces) :
  ev call ρ st (Ce.tup es)=R.bind (evs call ρ st es) λvs st1=>if C0 vs<=sizeMax then R.ok (PV.tup vs) st1 else R.bad:=rfl
theorem ve12 (call:Nat->List PV->Store->R PV)(ρ:Env)(st:Store)(es:Ces) :
  ev call ρ st (Ce.lst es)=R.bind (evs call ρ st es) λvs st1=>if C0 vs<=sizeMax then R.ok (PV.lst vs) st1 else R.bad:=rfl
theorem ve13 (call:Nat->List PV->Store->R PV)(ρ:Env)(st:Store)(es:Ces) :
  ev call ρ st (Ce.newl es)=R.bind (evs call ρ st es) λvs st1=>if C0 vs<=sizeMax then R.ok (PV.loc (C0 st1)) (st1++[Ob.lst vs])else R.bad:=rfl
theorem ve15 (call:Nat->List PV->Store->R PV)(ρ:Env)(st:Store)(t:Bool) :
  ev call ρ st (Ce.dict0 t)=R.ok (PV.loc (C0 st)) (st++[Ob.dct t []]):=rfl
theorem ve16 (call:Nat->List PV->Store->R PV)(ρ:Env)(st:Store)(a i:Ce) :
  ev call ρ st (Ce.idx a i)=R.bind (ev call ρ st a) λx st1=>R.bind (ev call ρ st1 i) λy st2=>toR (idxV st2 x y) st2:=rfl
theorem ve17 (call:Nat->List PV->Store->R PV)(ρ:Env)(st:Store)(a l h:Ce) :
  ev call ρ st (Ce.slc a l h)=R.bind (ev call ρ st a) λx st1=>R.bind (ev call ρ st1 l) λy st2=>onP (yb1 y) λo=>R.bind (ev call ρ st2 h) λz st3=>toR (ycm x o z) st3:=rfl
theorem ve18 (call:Nat->List PV->Store->R PV)(ρ:Env)(st:Store)(f:Nat)(es:Ces) :
  ev call ρ st (Ce.call f es)=R.bind (evs call ρ st es) λvs st1=>call f vs st1:=rfl
theorem ve19 (call:Nat->List PV->Store->R PV)(ρ:Env)(st:Store)(b:Blt)(es:Ces) :
  ev call ρ st (Ce.blt b es)=R.bind (evs call ρ st es) λvs st1=>toR (yay b st1 vs) st1:=rfl
theorem ve20 (call:Nat->List PV->Store->R PV)(ρ:Env)(st:Store)(m:Mth)(o:Ce)(es:Ces) :
  ev call ρ st (Ce.mth m o es)=R.bind (ev call ρ st o) λx st1=>onO (yaO m st1 x) λx_1=>R.bind (evs call ρ st1 es) λvs st2=>ycu m st2 x vs:=rfl
theorem ve21 (call:Nat->List PV->Store->R PV)(ρ:Env)(st:Store)(a:Ce)(ts:List Ty) :
  ev call ρ st (Ce.isi a ts)=R.bind (ev call ρ st a) λx st1=>toR (ya0 x ts) st1:=rfl
theorem ve24 (call:Nat->List PV->Store->R PV)(ρ:Env)(st:Store) :
  ev call ρ st Ce.nope=R.bad:=rfl
theorem ve25 (call:Nat->List PV->Store->R PV)(ρ:Env)(st:Store)(a:Ce) :
  ev call ρ st (Ce.frz a)=R.bind (ev call ρ st a) λx st1=>ydP x st1:=rfl
theorem ve28 (call:Nat->List PV->Store->R PV)(ρ:Env)(st:Store)(D:List (AR×PV))(a:Ce) :
  ev call ρ st (Ce.dix D a)=R.bind (ev call ρ st a) λx st1=>toR (ycx D x) st1:=rfl
theorem ve29 (call:Nat->List PV->Store->R PV)(ρ:Env)(st:Store)(a:Ce)(D:List (AR×PV)) :
  ev call ρ st (Ce.din a D)=R.bind (ev call ρ st a) λx st1=>toR (ycs D x) st1:=rfl
theorem ve32 (call:Nat->List PV->Store->R PV)(ρ:Env)(st:Store)(c:Nat)(a:Ce)(f:AR) :
  ev call ρ st (Ce.fld c a f)=R.bind (ev call ρ st a) λx st1=>toR (ya3 c st1 x f) st1:=rfl
theorem ve33 (call:Nat->List PV->Store->R PV)(ρ:Env)(st:Store)(c i:Nat)(es:Ces) :
  ev call ρ st (Ce.new c i es)=R.bind (evs call ρ st es) λvs st1=>R.bind (ybD (call i (PV.loc (C0 st1)::vs) (st1++[Ob.ins c []]))) λv st2=>newV (C0 st1) v st2:=rfl
theorem ve37 (call:Nat->List PV->Store->R PV)(ρ:Env)(st:Store)(c i:Nat)(m:AR)(o:Ce)
 (es:Ces) :
  ev call ρ st (Ce.mcl c i m o es)=R.bind (ev call ρ st o) λx st1=>onO (yb8 c m st1 x) λx_1=>R.bind (evs call ρ st1 es) λvs st2=>call i (x::vs) st2:=rfl
end IC
namespace WK
open IC PySem
mutual
noncomputable def pvq:PV->PV->Bool
 | .non,.non=>AC
 | .bl a,.bl b=>a == b
 | .int i,.int j=>decide (i=j)
 | .str x,.str y=>decide (x=y)
 | .tp k xs,.tp l ys=>(k == l) && ycY xs ys
 | .lst xs,.lst ys=>ycY xs ys
 |_,_=>AD
noncomputable def ycY:List PV->List PV->Bool
 | [],[]=>AC
 |x::xs,y::ys=>pvq x y && ycY xs ys
 |_,_=>AD
end
mutual
theorem zjT:∀(a b:PV),pvq a b=AC->a=b
 | .non,b,h=>by cases b <;> simp[pvq]at h ⊢
 | .bl a,b,h=>by cases b <;> simp[pvq]at h ⊢;exact h
 | .int a,b,h=>by cases b <;> simp[pvq]at h ⊢;exact h
 | .str a,b,h=>by cases b <;> simp[pvq]at h ⊢;exact h
 | .tp k xs,b,h=>by
  cases b <;> simp[pvq]at h ⊢
  exact⟨h.1,ze6 _ _ h.2⟩
 | .lst xs,b,h=>by
  cases b <;> simp[pvq]at h ⊢
  exact ze6 _ _ h
 | .loc _,b,h=>by cases b <;> simp[pvq]at h
 | .exn _,b,h=>by cases b <;> simp[pvq]at h
 | .scr _,b,h=>by cases b <;> simp[pvq]at h
theorem ze6:∀(a b:List PV),ycY a b=AC->a=b
 | [],b,h=>by cases b <;> simp[ycY]at h ⊢
 |x::xs,b,h=>by
  cases b with
  |nil=>simp[ycY]at h
  |cons y ys =>
   simp[ycY]at h
   rw[zjT x y h.1,ze6 xs ys h.2]
end
def isOk (r:R PV)(v:PV):Bool:=match r with
 | .ok w []=>pvq w v
 |_=>AD
theorem zcM {r:R PV}{v:PV}(h:isOk r v=AC):r=.ok v []:=by
 match r with
 | .ok w []=>rw[zjT w v h]
 | .ok w (_::_)=>simp[isOk]at h
 | .exc _ _=>simp[isOk]at h
 | .bad=>simp[isOk]at h
noncomputable def chS (c:Nat):Str:=⟨#[c]⟩
def yW (c:Nat)(i:Int):PV:=.tup [.str (chS c),.int i]
theorem zks {c d:Nat}(h:chS c=chS d):c=d:=by
 have:=congrArg (λx=>x.cps) h
 simpa [chS] using this
theorem zbg (c d:Nat)(i j:Int):peq (yW c i) (yW d j)=decide (c=d/\i=j):=by
 have h:(chS c == chS d)=decide (c=d):=by
  rw[De]
  simp
  exact⟨zks,λe=>by rw[e]⟩
 simp[yW,peq,ybu,h,Bool.decide_and]
 try rfl
noncomputable abbrev Mem:=Nat->Int->Int
noncomputable def upd (M:Mem)(c:Nat)(i v:Int):Mem:=λd j=>if d=c/\j=i then v else M d j
def ycP (kvs:List (PV×PV)):Prop:=∀p∈kvs,∃c i,p.1=yW c i
def Rel (kvs:List (PV×PV))(M:Mem):Prop:=∀c i,(look (yW c i) kvs).getD (.int 0)=.int (M c i)
theorem zfu (c:Nat)(i:Int)(v:PV)(d:Nat)(j:Int):∀kvs,ycP kvs->look (yW d j) (kvs.map λp=>if peq p.1 (yW c i)=AC then(p.1,v)else p)=if d=c/\j=i then(if (kvs.any λp=>peq p.1 (yW c i))=AC then AA v else AE)else look (yW d j) kvs
 | [],_=>by simp[look]
 |p::kvs,h=>by
  obtain⟨e,g,hp⟩:=h p Ai
  obtain⟨p1,p2⟩:=p
  simp only at hp
  subst hp
  have ih:=zfu c i v d j kvs λq hq=>h q (AS _ hq)
  rw[AM,Bk]
  simp only[zbg]
  by_cases h1:e=c/\g=i
  .obtain⟨rfl,rfl⟩:=h1
   simp only[and_self,decide_true,if_true,look,zbg,Ft]
   by_cases h2:e=d/\g=j
   .obtain⟨rfl,rfl⟩:=h2
    simp
   .have h3:¬(d=e/\j=g):=λz=>h2 ⟨z.1.symm,z.2.symm⟩
    simp only[h2,h3,decide_false,if_false,BR]
    rw[ih,if_neg h3]
  .simp only[h1,decide_false,F0,BR,if_false]
   rw[look,look]
   simp only[zbg]
   by_cases h2:e=d/\g=j
   .obtain⟨rfl,rfl⟩:=h2
    simp[h1]
   .simp only[h2,decide_false,BR,if_false]
    exact ih
theorem zfH (c:Nat)(i:Int)(v:PV)(d:Nat)(j:Int):∀kvs,ycP kvs->(kvs.any λp=>peq p.1 (yW c i))=AD->look (yW d j) (kvs++[(yW c i,v)])=if d=c/\j=i then AA v else look (yW d j) kvs
 | [],_,_=>by
  simp only[Be,look,zbg]
  by_cases h2:c=d/\i=j
  .obtain⟨rfl,rfl⟩:=h2;simp
  .have h3:¬(d=c/\j=i):=λz=>h2 ⟨z.1.symm,z.2.symm⟩
   simp[h2,h3]
 |p::kvs,h,hn=>by
  obtain⟨e,g,hp⟩:=h p Ai
  obtain⟨p1,p2⟩:=p
  simp only at hp
  subst hp
  rw[Bk,Bool.or_eq_false_iff]at hn
  have ih:=zfH c i v d j kvs (λq hq=>h q (AS _ hq)) hn.2
  have h1:¬(e=c/\g=i):=by simpa [zbg] using hn.1
  rw[Ay,look,look]
  simp only[zbg]
  by_cases h2:e=d/\g=j
  .obtain⟨rfl,rfl⟩:=h2
   simp[h1]
  .simp only[h2,decide_false,BR,if_false]
   exact ih
theorem ziQ (c:Nat)(i:Int)(v:PV)(d:Nat)(j:Int)(kvs:List (PV×PV))(h:ycP kvs):look (yW d j) (put (yW c i) v kvs)=if d=c/\j=i then AA v else look (yW d j) kvs:=by
 unfold put
 split
 .rename_i z
  rw[zfu _ _ _ _ _ _ h,z,if_pos rfl]
 .rename_i z
  exact zfH _ _ _ _ _ _ h (by simpa using z)
theorem zjh {c:Nat}{i:Int}{v:PV}{kvs:List (PV×PV)}(h:ycP kvs):ycP (put (yW c i) v kvs):=by
 unfold put
 split
 .intro p hp
  obtain⟨q,hq,rfl⟩:=Dr.1 hp
  obtain⟨e,g,he⟩:=h q hq
  refine⟨e,g,?_⟩
  split
  .exact he
  .exact he
 .intro p hp
  rcases Ag.1 hp with hp|hp
  .exact h p hp
  .simp at hp
   exact⟨c,i,by rw[hp]⟩
theorem zlU {c:Nat}{i v:Int}{kvs:List (PV×PV)}{M:Mem}(h:ycP kvs)(r:Rel kvs M):Rel (put (yW c i) (.int v) kvs) (upd M c i v):=by
 intro d j
 rw[ziQ _ _ _ _ _ _ h]
 unfold upd
 split
 .rfl
 .exact r d j
theorem zkM {k v:PV}{kvs:List (PV×PV)}:(put k v kvs).length<=kvs.length+1:=by
 unfold put
 split
 .simp
 .simp
theorem zf4 (c:Nat)(i:Int):isKey AC (yW c i)=true:=rfl
structure Dc (st:Store)(n:Nat)(M:Mem)(L:Nat):Prop where
 ex:∃kvs,st[n]?=AA (.dct AC kvs)/\ycP kvs/\Rel kvs M/\kvs.length<=L
theorem ziY {st:Store}{n L:Nat}{M:Mem}(h:Dc st n M L)(c:Nat)(i:Int):yd1 st (.loc n) (yW c i) (.int 0)=.ok (.int (M c i)) st:=by
 obtain⟨kvs,h1,h2,h3,h4⟩:=h
 simp only[yd1,ybf,h1,zf4,if_true,h3 c i]
theorem ziO {st:Store}{n L:Nat}{M:Mem}(h:Dc st n M L)(hL:L<999999)(c:Nat)(i v:Int):∃kvs,ybh st (.loc n) (yW c i) (.int v)=AA (st.set n (.dct AC kvs))/\Dc (st.set n (.dct AC kvs)) n (upd M c i v) (L+1):=by
 obtain⟨kvs,h1,h2,h3,h4⟩:=h
 have hn:n<st.length:=by
  rcases Cq n st.length with z|z
  .exact z
  .rw[BI z]at h1;cases h1
 refine⟨put (yW c i) (.int v) kvs,?_,⟨_,A5 hn,zjh h2,zlU h2 h3,BZ zkM (by omega)⟩⟩
 have h5:kvs.length<1000000:=by omega
 simp only[ybh,h1,zf4,h5,and_self,if_true]
noncomputable abbrev Cel:=Nat×Int
def yu (x:Cel):PV:=yW x.1 x.2
inductive Rw where
 | mark (d:Int)|ask (x:Cel)|set (t:Cel) (d:Int)|move (t x:Cel)|bare (t x:Cel)|twice (t x:Cel)|half (t x:Cel)
 | sum (t x y:Cel)|less (t x y:Cel)|both (t x y:Cel)|any (t x y:Cel)|odd (t x y:Cel)|times (l h x y:Cel)
def yO:Rw->PV
 | .mark d=>.tup [.str "mark",.int d]
 | .ask x=>.tup [.str "ask",yu x]
 | .set t d=>.tup [.str "set",yu t,.int d]
 | .move t x=>.tup [.str "move",yu t,yu x]
 | .bare t x=>.tup [.str "bare",yu t,yu x]
 | .twice t x=>.tup [.str "twice",yu t,yu x]
 | .half t x=>.tup [.str "half",yu t,yu x]
 | .sum t x y=>.tup [.str "sum",yu t,yu x,yu y]
 | .less t x y=>.tup [.str "less",yu t,yu x,yu y]
 | .both t x y=>.tup [.str "both",yu t,yu x,yu y]
 | .any t x y=>.tup [.str "any",yu t,yu x,yu y]
 | .odd t x y=>.tup [.str "odd",yu t,yu x,yu y]
 | .times l h x y=>.tup [.str "times",yu l,yu h,yu x,yu y]
noncomputable def rd (M:Mem)(x:Cel):Int:=M x.1 x.2
def wr (M:Mem)(x:Cel)(v:Int):Mem:=upd M x.1 x.2 v
def stepM (W:Int)(M:Mem)(k:Int):Rw->Mem×Int
 | .mark d=>(M,d)
 | .ask x=>(M,bi (!(rd M x == 0)))
 | .set t d=>(wr M t d,k)
 | .move t x=>(wr M t (rd M x),k)
 | .bare t x=>(wr M t (W - 1 - rd M x),k)
 | .twice t x=>(wr M t ((2*rd M x+k)%W),(2*rd M x+k) / W)
 | .half t x=>(wr M t (rd M x / 2+k*(W / 2)),rd M x%2)
 | .sum t x y=>(wr M t ((rd M x+rd M y+k)%W),(rd M x+rd M y+k) / W)
 | .less t x y=>(wr M t ((rd M x - rd M y - k)%W),bi (decide (rd M x - rd M y - k<0)))
 | .both t x y=>(wr M t (BS (rd M x) (rd M y)),k)
 | .any t x y=>(wr M t (Bj (rd M x) (rd M y)),k)
 | .odd t x y=>(wr M t (Bl (rd M x) (rd M y)),k)
 | .times l h x y=>(wr (wr M l (rd M x*rd M y%W)) h (rd M x*rd M y / W),k)
def yQ (W:Int):List Rw->Mem->Int->Mem×Int
 | [],M,k=>(M,k)
 |r::rs,M,k=>yQ W rs (stepM W M k r).1 (stepM W M k r).2
theorem zU (W:Int):∀(a b:List Rw) (M:Mem) (k:Int),yQ W (a++b) M k=yQ W b (yQ W a M k).1 (yQ W a M k).2
 | [],b,M,k=>rfl
 |r::a,b,M,k=>by rw[Ay,yQ,zU W a b,yQ]
theorem zi5 {st:Store}{n:Nat}{o:Ob}(h:st[n]?=AA o):st=st.set n o:=by
 refine DP λi=>?_
 rw[Ca]
 split
 .rename_i e
  subst e
  split
  .exact h
  .rename_i z
   rw[BI (by omega)]at h
   cases h
 .rfl
theorem zdc (i:Int):shp (.int i)=true:=rfl
section
variable {st:Store}{k:Bool}{a b c d e:PV}{r:List PV}{i j:Int}
theorem ix0:idxV st (.tp k (a::r)) (.int 0)=AA a:=by simp[idxV,yba,at?,ixI]
theorem ix1:idxV st (.tp k (a::b::r)) (.int 1)=AA b:=by
 have:(1:Int)<(r.length:Int)+1+1:=by omega
 simp[idxV,yba,at?,ixI,this]
theorem ix2:idxV st (.tp k (a::b::c::r)) (.int 2)=AA c:=by
 have:(2:Int)<(r.length:Int)+1+1+1:=by omega
 simp[idxV,yba,at?,ixI,this]
theorem ix3:idxV st (.tp k (a::b::c::d::r)) (.int 3)=AA d:=by
 have:(3:Int)<(r.length:Int)+1+1+1+1:=by omega
 simp[idxV,yba,at?,ixI,this]
theorem b_add:yx .add (.int i) (.int j)=AA (.int (i+j)):=rfl
theorem b_sub:yx .sub (.int i) (.int j)=AA (.int (i - j)):=rfl
theorem ziN (h:i.natAbs<18446744073709551616 \/ j.natAbs<18446744073709551616):yx .mul (.int i) (.int j)=AA (.int (i*j)):=by
 have:yaA i j=true:=by simpa [yaA] using h
 simp[yx,binI,this]
theorem zaD (h:i.natAbs<18446744073709551616):yx .mul (.int i) (.int j)=AA (.int (i*j)):=ziN (.inl h)
theorem zct (h:j.natAbs<18446744073709551616):yx .mul (.int i) (.int j)=AA (.int (i*j)):=ziN (.inr h)
theorem b_mul2:yx .mul (.int 2) (.int j)=AA (.int (2*j)):=ziN (.inl (by decide))
theorem zjm (h:0<j)(h2:j<18446744073709551616*18446744073709551616):yx .fdiv (.int i) (.int j)=AA (.int (i / j)):=by
 have h3:j<10000000000000000000000000000000000000000000000000000000000000000000000:=by omega
 simp[yx,binI,h,h3]
theorem b_div2:yx .fdiv (.int i) (.int 2)=AA (.int (i / 2)):=rfl
theorem zjx (h:0<j):yx .mod (.int i) (.int j)=AA (.int (i%j)):=by simp[yx,binI,h]
theorem zoW:yx .band (.int i) (.int j)=AA (.int (BS i j)):=rfl
theorem ye7:yx .bor (.int i) (.int j)=AA (.int (Bj i j)):=rfl
theorem zo5:yx .bxor (.int i) (.int j)=AA (.int (Bl i j)):=rfl
theorem toR_some {v:PV}:toR (AA v) st=.ok v st:=rfl
theorem c_ne:yE .ne (.int i) (.int j)=AA (.bl (!(i == j))):=by simp[yE,zdc,peq]
theorem c_eq:yE .eq (.int i) (.int j)=AA (.bl (i == j)):=by simp[yE,zdc,peq]
theorem c_lt:yE .lt (.int i) (.int j)=AA (.bl (decide (i<j))):=rfl
theorem c_le:yE .le (.int i) (.int j)=AA (.bl (decide (i<=j))):=rfl
theorem c_gt:yE .gt (.int i) (.int j)=AA (.bl (decide (j<i))):=rfl
theorem c_ge:yE .ge (.int i) (.int j)=AA (.bl (decide (j<=i))):=rfl
theorem t_bl {b:Bool}:yaP st (.bl b)=AA b:=rfl
theorem on_t {f:Bool->Fl}{b:Bool}:onF (AA b) f=f b:=rfl
theorem ono {α:Type}{f:Bool->R α}{b:Bool}:onO (AA b) f=f b:=rfl
theorem zaa {ρ:IC.Env}:stO ρ (AA st)=.nx ρ st:=rfl
theorem nxO_some {ρ:IC.Env}:nxO (AA ρ) st=.nx ρ st:=rfl
theorem fl_ok {α:Type}{a:α}{ρ:IC.Env}{k:α->Store->Fl}:(R.ok a st).fl ρ k=k a st:=rfl
theorem bd_ok {α β:Type}{a:α}{k:α->Store->R β}:(R.ok a st).bind k=k a st:=rfl
theorem th_nx {ρ:IC.Env}{k:IC.Env->Store->Fl}:yaD (.nx ρ st) k=k ρ st:=rfl
theorem th_rt {v:PV}{k:IC.Env->Store->Fl}:yaD (.rt v st) k=.rt v st:=rfl
theorem fl_exc {α:Type}{c:Nat}{ρ:IC.Env}{k:α->Store->Fl}:(R.exc c st:R α).fl ρ k=.exc c ρ st:=rfl
theorem bd_exc {α β:Type}{c:Nat}{k:α->Store->R β}:(R.exc c st:R α).bind k=.exc c st:=rfl
theorem th_exc {c:Nat}{ρ:IC.Env}{k:IC.Env->Store->Fl}:yaD (.exc c ρ st) k=.exc c ρ st:=rfl
theorem noLocs_ints:∀(l:List Int),noLocs (l.map PV.int)=AC
 | []=>rfl
 |_::l=>by simp[noLocs,noLoc,noLocs_ints l]
theorem bT_n {i:Nat}{v:PV}{ρ:IC.Env}:yM (.n i) v ρ=AA (ρ.set i (AA v)):=rfl
end
theorem zoe:∀(n x y:Nat),x<=n->(x ^^^ y)+(x &&& y)=x ||| y
 |n,x,y,h=>by
  by_cases hx:x=0
  .subst hx;simp
  .have ih:=zoe (n - 1) (x / 2) (y / 2) (by omega)
   rw[<- Nat.xor_div_two,<- Nat.and_div_two,<- Nat.or_div_two]at ih
   have m1:(x ^^^ y)%2=((x%2) ^^^ (y%2)):=by
    have:=Nat.xor_mod_two_pow (a:=x) (b:=y) (n:=1);simpa using this
   have m2:(x &&& y)%2=((x%2) &&& (y%2)):=by
    have:=Nat.and_mod_two_pow (a:=x) (b:=y) (n:=1);simpa using this
   have m3:(x ||| y)%2=((x%2) ||| (y%2)):=by
    have:=Nat.or_mod_two_pow (a:=x) (b:=y) (n:=1);simpa using this
   rcases EI x with a|a <;> rcases EI y with b|b <;> rw[a,b]at m1 m2 m3 <;> simp only[Nat.reduceXor,Nat.reduceAnd,Nat.reduceOr]at m1 m2 m3 <;> omega
theorem zkf (x y:Nat):BS (x:Int) (y:Int)=((x &&& y:Nat):Int):=by
 simp[BS]
theorem zhI (x y:Nat):Bj (x:Int) (y:Int)=((x ||| y:Nat):Int):=by
 have h1:¬(0:Int)<=-(x:Int) - 1:=by omega
 have h2:¬(0:Int)<=-(y:Int) - 1:=by omega
 have h3:(-(-(x:Int) - 1) - 1).toNat=x:=by omega
 have h4:(-(-(y:Int) - 1) - 1).toNat=y:=by omega
 simp only[Bj,BS,Builtin.bitNot,h1,h2,decide_false,h3,h4]
 omega
theorem znC (x y:Nat):Bl (x:Int) (y:Int)=((x ^^^ y:Nat):Int):=by
 have:=zoe x x y (AT x)
 rw[Bl,zhI,zkf]
 omega
theorem pw (w:Nat):((2^w:Nat):Int)=2^w:=by simp
theorem zn6 {w:Nat}{a b:Int}(a0:0<=a)(b0:0<=b)(b1:b<2^w):0<=BS a b/\BS a b<2^w:=by
 obtain⟨x,rfl⟩:∃n:Nat,a=n:=⟨a.toNat,by omega⟩
 obtain⟨y,rfl⟩:∃n:Nat,b=n:=⟨b.toNat,by omega⟩
 rw[zkf]
 rw[<- pw]at b1 ⊢
 exact⟨by omega,by exact_mod_cast Nat.and_lt_two_pow x (by omega:y<2^w)⟩
theorem zmk {w:Nat}{a b:Int}(a0:0<=a)(a1:a<2^w)(b0:0<=b)(b1:b<2^w):0<=Bl a b/\Bl a b<2^w:=by
 obtain⟨x,rfl⟩:∃n:Nat,a=n:=⟨a.toNat,by omega⟩
 obtain⟨y,rfl⟩:∃n:Nat,b=n:=⟨b.toNat,by omega⟩
 rw[znC]
 rw[<- pw]at a1 b1 ⊢
 exact⟨by omega,by exact_mod_cast Nat.xor_lt_two_pow (by omega:x<2^w) (by omega:y<2^w)⟩
theorem zmb {w:Nat}{a b:Int}(a0:0<=a)(a1:a<2^w)(b0:0<=b)(b1:b<2^w):0<=Bj a b/\Bj a b<2^w:=by
 obtain⟨x,rfl⟩:∃n:Nat,a=n:=⟨a.toNat,by omega⟩
 obtain⟨y,rfl⟩:∃n:Nat,b=n:=⟨b.toNat,by omega⟩
 rw[zhI]
 rw[<- pw]at a1 b1 ⊢
 exact⟨by omega,by exact_mod_cast Nat.or_lt_two_pow (by omega:x<2^w) (by omega:y<2^w)⟩
noncomputable def tb (w:Nat)(a:Int):Int:=(2*a) / 2^w
theorem znF {w:Nat}(hw:0<w){a:Int}(a0:0<=a)(a1:a<2^w):tb w a=if 2^w<=2*a then 1 else 0:=by
 have h1:(0:Int)<2^w:=Ad (by omega)
 unfold tb
 split
 .rename_i h
  exact Int.le_antisymm (Int.le_of_lt_add_one (BY h1 (by omega))) (Int.le_ediv_of_mul_le h1 (by omega))
 .exact CF (by omega) (by omega)
theorem zcV (ys:List PV)(h:ys.length<=1000000)(st:Store):yca (.ok ys st)=.ok (.lst ys) st:=by simp[yca,h]
theorem za2 (n:Nat)(h:n<1000):yb2 (.int (n:Int))=AA (yo n 0 1):=by
 simp[yb2];omega
theorem zc2 {z:Int}(h:0<=z):∃n:Nat,z=n:=⟨z.toNat,by omega⟩
def ybz (st:Store)(f:Fl):R PV :=
 match f with
 | .rt v _=>if noLoc v then .ok v st else .bad
 | .nx _ _=>.ok .non st
 | .exc c _ _=>.exc c st
 |_=>.bad
theorem zc {T:Nat->Option IC.Fn}{k f:Nat}{fn:IC.Fn}{args:List PV}{st:Store}(hT:T f=AA fn)(hp:fn.pure=AC)(hl:args.length=fn.np)(hn:noLocs args=AC) :
  yc T (k+1) f args st=ybz st (exs (yc T k) (args.map AA++Aw (fn.ns - fn.np) AE) [] fn.body):=by
 rw[yc,hT]
 dsimp only
 rw[if_pos hl,if_pos hp,if_pos hn]
 rfl
def outI (f:Fl):R PV :=
 match f with
 | .rt v st1=>.ok v st1
 | .nx _ st1=>.ok .non st1
 | .exc c _ st1=>.exc c st1
 |_=>.bad
theorem zm {T:Nat->Option IC.Fn}{k f:Nat}{fn:IC.Fn}{args:List PV}{st:Store}(hT:T f=AA fn)(hp:fn.pure=AD)(hl:args.length=fn.np) :
  yc T (k+1) f args st=outI (exs (yc T k) (args.map AA++Aw (fn.ns - fn.np) AE) st fn.body):=by
 rw[yc,hT]
 dsimp only
 rw[if_pos hl,hp,if_neg (by simp)]
 rfl
theorem zbj {st:Store}{v:PV}:outI (.rt v st)=.ok v st:=rfl
theorem zn0 {st s:Store}{b:Bool}:ybz st (.rt (.bl b) s)=.ok (.bl b) st:=rfl
theorem zlB {st s:Store}{b:Int}:ybz st (.rt (.int b) s)=.ok (.int b) st:=rfl
local macro_rules | `(tactic| simp! [$xs,*])=>`(tactic| simp only[IC.xs_cons,IC.xs_nil,IC.x_asg,IC.x_ite,IC.x_ret,IC.x_expr,IC.x_for,IC.x_six,IC.evs,IC.evi,IC.ve1,IC.ve2,IC.ve3,IC.ve4,IC.ve5,IC.ve6,IC.ve7,IC.ve8,IC.ve9,IC.ve10,IC.ve11,IC.ve12,IC.ve13,IC.ve15,IC.ve16,IC.ve17,IC.ve18,IC.ve19,IC.ve20,IC.ve21,IC.ve24,IC.ve25,IC.ve28, IC.v_comp,List.getElem?_cons_zero,List.getElem?_cons_succ,WK.bd_ok,WK.fl_ok,WK.bd_exc,WK.fl_exc,WK.toR_some,IC.toL,WK.bT_n,WK.nxO_some,WK.th_nx,WK.th_rt,WK.th_exc,List.set_cons_zero,List.set_cons_succ,WK.on_t,WK.t_bl,WK.ono,IC.onBl,cond_true,cond_false,List.length_cons,List.length_nil,Nat.zero_add,Nat.reduceAdd,Nat.reduceSub,Nat.reduceLeDiff,if_true,IC.noLoc,IC.noLocs,WK.noLocs_ints,Bool.and_self,Bool.not_true,Bool.not_false,List.map_cons,List.map_nil,List.replicate,List.cons_append,List.nil_append,List.append_nil,Option.bind_none,Option.bind_some,Option.join_some,WK.b_add,WK.b_sub,WK.b_mul2,WK.b_div2,WK.c_lt,WK.c_le,WK.c_gt,WK.c_ge,WK.c_eq,WK.c_ne,IC.PV.tup,IC.sizeMax,$xs,*])
noncomputable def yas:PV:=.tup [.int 2147483647,.int 2147483629,.int 2147483587,.int 2147483579,.int 2147483563]
noncomputable def ydx:Css:=match yav.body with
 | .cons _ (.cons _ (.cons (.for _ _ b) _))=>b
 |_=>.nil
theorem zcv {c:Cl}{s num g p:Int}{i:Nat}{u5 u6 u7:Option PV}(hg:∀st,idxV st (.tup [.int 11,.int 101,.int 1009,.int 10007,.int 100003]) (.int i)=AA (.int g))(hi:i<5)(hp:0<p)(hp2:p<18446744073709551616) :
  ∃num' v5 v6 v7,exs c [AA (.int s),AA yas,AA (.int num),AA (.int i),AA (.int p),u5,u6,u7] [] ydx=.nx [AA (.int s),AA yas,AA (.int num'),AA (.int i),AA (.int p),v5,v6,v7] []:=by
 have h1:∀z:Int,yx .mul (.int z) (.int (48271+2*(i:Int)))=AA (.int (z*(48271+2*(i:Int)))):=λz=>zct (by omega)
 have h2:∀z y:Int,yx .mul (.int z) (.int (y%p))=AA (.int (z*(y%p))):=λz y=>zct (by
  have a:=BA y (show p≠0 by omega)
  have b:=Aj y hp
  omega)
 have h3:∀z:Int,yx .mul (.int z) (.int p)=AA (.int (z*p)):=λz=>zct (by omega)
 simp! [ydx,yav,hg,h1,h2,h3,zjx hp]
 exact⟨_,_,_,_,rfl⟩
theorem ziw {c:Cl}{s num:Int}{u5 u6 u7:Option PV}(i:Nat)(p:Int)(h:(i,p)∈[(0,(2147483647:Int)),(1,2147483629),(2,2147483587),(3,2147483579),(4,2147483563)]) :
  ∃num' v5 v6 v7,exs c [AA (.int s),AA yas,AA (.int num),AA (.int i),AA (.int p),u5,u6,u7] [] ydx=.nx [AA (.int s),AA yas,AA (.int num'),AA (.int i),AA (.int p),v5,v6,v7] []:=by
 simp only[AU,Prod.mk.injEq,Aa,or_false]at h
 rcases h with⟨rfl,rfl⟩|⟨rfl,rfl⟩|⟨rfl,rfl⟩|⟨rfl,rfl⟩|⟨rfl,rfl⟩
 .exact zcv (λ_=>rfl) (by decide) (by decide) (by decide)
 .exact zcv (λ_=>rfl) (by decide) (by decide) (by decide)
 .exact zcv (λ_=>rfl) (by decide) (by decide) (by decide)
 .exact zcv (λ_=>rfl) (by decide) (by decide) (by decide)
 .exact zcv (λ_=>rfl) (by decide) (by decide) (by decide)
noncomputable def ydT:List PV:=[.tup [.int 0,.int 2147483647],.tup [.int 1,.int 2147483629],.tup [.int 2,.int 2147483587],.tup [.int 3,.int 2147483579],.tup [.int 4,.int 2147483563]]
theorem mixed (k:Nat)(s:Int)(st:Store):∃num,yc T (k+1) zeg [.int s] st=.ok (.int num) st:=by
 obtain⟨ρ',st',h,num,a,b,c,d,e,e1,e2⟩:=zd4 (call:=yc T k) (t:=.t [3,4]) (b:=ydx) (λ_ ρ st=>∃num a b c d e,ρ=[AA (.int s),AA yas,AA (.int num),a,b,c,d,e]/\st=[]) ydT 0 [AA (.int s),AA yas,AA (.int 0),AE,AE,AE,AE,AE] [] ⟨_,_,_,_,_,_,rfl,rfl⟩ (by
  rintro j x ρ st hx ⟨num,a,b,c,d,e,rfl,rfl⟩
  have hx:=A1 hx
  have hx:∃i p,x=.tup [.int ((i:Nat):Int),.int p]/\(i,p)∈[(0,(2147483647:Int)),(1,2147483629),(2,2147483587),(3,2147483579),(4,2147483563)]:=by
   simp only[ydT,AU,Aa,or_false]at hx
   rcases hx with rfl|rfl|rfl|rfl|rfl
   .exact⟨0,_,rfl,by simp⟩
   .exact⟨1,_,rfl,by simp⟩
   .exact⟨2,_,rfl,by simp⟩
   .exact⟨3,_,rfl,by simp⟩
   .exact⟨4,_,rfl,by simp⟩
  obtain⟨i,p,rfl,hm⟩:=hx
  obtain⟨num',v5,v6,v7,hh⟩:=ziw (c:=yc T k) (s:=s) (num:=num) (u5:=c) (u6:=d) (u7:=e) i p hm
  exact⟨_,_,_,rfl,hh,_,_,_,_,_,_,rfl,rfl⟩)
 subst e1 e2
 refine⟨num,?_⟩
 rw[yc]
 have hb:yav.body=.cons (.asg (.n 1) (.tup (.cons (.cst (.int 2147483647)) (.cons (.cst (.int 2147483629)) (.cons (.cst (.int 2147483587)) (.cons (.cst (.int 2147483579)) (.cons (.cst (.int 2147483563)) .nil))))))) (.cons (.asg (.n 2) (.cst (.int 0))) (.cons (.for (.t [3,4]) (.enum (.var 1)) ydx) (.cons (.ret (.var 2)) .nil))):=rfl
 have hT:T zeg=AA ⟨1,8,AC,yav.body⟩:=rfl
 have hp:PV.tup [.int 2147483647,.int 2147483629,.int 2147483587,.int 2147483579,.int 2147483563]=yas:=rfl
 rw[hT,hb]
 have h5:ev (yc T k) [AA (.int s),AE,AE,AE,AE,AE,AE,AE] [] (.tup (.cons (.cst (.int 2147483647)) (.cons (.cst (.int 2147483629)) (.cons (.cst (.int 2147483587)) (.cons (.cst (.int 2147483579)) (.cons (.cst (.int 2147483563)) .nil))))))=.ok yas []:=by
  simp[IC.ve1,IC.ve11,evs,R.bind,sizeMax,yas]
 have he:evi (yc T k) [AA (.int s),AA yas,AA (.int 0),AE,AE,AE,AE,AE] [] (.enum (.var 1))=.ok ydT []:=by
  simp[evi,IC.ve2,R.bind,yas,yD,ydT]
 simp only[A0,CA,if_true,noLocs,noLoc,D4,AM,A6,Cy,Aw,Ay,Be,xs_cons,xs_nil,x_asg,x_for,x_ret,h5,R.fl,yM,nxO,yaD,BE,BF,IC.ve1,he,h,IC.ve2,Al,A9]
theorem rdS {st:Store}{n:Nat}{o x:Ob}(h:st[n]?=AA o):(st.set n x)[n]?=AA x:=by
 have:n<st.length:=by
  rcases Cq n st.length with h1|h1
  .exact h1
  .rw[BI h1]at h;cases h
 rw[A5 this]
theorem zmc (ns:List Int)(a:Int)(h:ns≠[]):∃v,yba (ns.map PV.int) (.int (a%(ns.length:Int)))=AA (.int v):=by
 have h0:0<ns.length:=FV.2 h
 have h1:=BA a (show (ns.length:Int)≠0 by omega)
 have h2:=Aj a (show (0:Int)<ns.length by omega)
 have h3:(a%(ns.length:Int)).toNat<ns.length:=by omega
 refine⟨ns[(a%(ns.length:Int)).toNat],?_⟩
 simp[yba,at?,ixI,h1,h2,h3]
noncomputable def flT:Css:=match yag.body with
 | .cons _ (.cons _ (.cons _ t))=>t
 |x=>x
noncomputable abbrev flS (l:PV)(a p:Int)(f:Bool):Ob:=.lst [l,.int a,.int p,.bl f]
theorem zoO {st:Store}{n:Nat}{l:PV}{a p v:Int}{f:Bool}(h:st[n]?=AA (flS l a p f)):ybC st (.loc n) (.int 1) (.int v)=AA (st.set n (flS l v p f)):=by simp only[ybC,h];rfl
theorem zoS {st:Store}{n:Nat}{l:PV}{a p v:Int}{f:Bool}(h:st[n]?=AA (flS l a p f)):ybC st (.loc n) (.int 2) (.int v)=AA (st.set n (flS l a v f)):=by simp only[ybC,h];rfl
theorem zoG {st:Store}{n:Nat}{l:PV}{a p:Int}{f g:Bool}(h:st[n]?=AA (flS l a p f)):ybC st (.loc n) (.int 3) (.bl g)=AA (st.set n (flS l a p g)):=by simp only[ybC,h];rfl
theorem ygE {st:Store}{n:Nat}{l:PV}{a p:Int}{f:Bool}(h:st[n]?=AA (flS l a p f)):idxV st (.loc n) (.int 0)=AA l:=by simp only[idxV,h];rfl
theorem yfC {st:Store}{n:Nat}{l:PV}{a p:Int}{f:Bool}(h:st[n]?=AA (flS l a p f)):idxV st (.loc n) (.int 1)=AA (.int a):=by simp only[idxV,h];rfl
theorem ygn {st:Store}{n:Nat}{l:PV}{a p:Int}{f:Bool}(h:st[n]?=AA (flS l a p f)):idxV st (.loc n) (.int 3)=AA (.bl f):=by simp only[idxV,h];rfl
theorem p18:yx .pow (.int 10) (.int 18)=AA (.int 1000000000000000000):=by ac_rfl
theorem zfU (k n:Nat){l:PV}{m a v p q:Int}{f g:Bool}{st:Store}(h:st[n]?=AA (flS l a p f))(hl:∀st,yay .len st [l]=AA (.int m))(hg:(decide (a ≥ m) || decide (v<1000000000000000000))=g)
  (h1:g=AC->yc T (k+1) zeg [.int v] (st.set n (flS l (a+1) p AC))=.ok (.int q) (st.set n (flS l (a+1) p AC))) (h2:g=AD->q=v - 1000000000000000000) :
  exs (yc T (k+1)) [AA (.loc n),AA l,AA (.int a),AA (.int v)] st flT=.nx [AA (.loc n),AA l,AA (.int a),AA (.int v)] (st.set n (flS l (a+1) q g)):=by
 have s1:=zoO h (v:=a+1)
 have r1:=rdS h (x:=flS l (a+1) p f)
 have s2:=zoG r1 (g:=g)
 have r2:=rdS r1 (x:=flS l (a+1) p g)
 have s3:=zoS r2 (v:=q)
 have i3:=ygn r2
 rw[DQ]at s2 s3 i3 r2
 rw[DQ]at s3
 have hb:flT=(match flT with
  | .cons a (.cons (.six x y _) r)=>.cons a (.cons (.six x y (.or (.cmp .ge (.var 2) (.blt .len (.cons (.var 1) .nil))) (.cmp .lt (.var 3) (.bin .pow (.cst (.int 10)) (.cst (.int 18)))))) r)
  |x=>x):=rfl
 have hor:∀st,ev (yc T (k+1)) [AA (.loc n),AA l,AA (.int a),AA (.int v)] st (.or (.cmp .ge (.var 2) (.blt .len (.cons (.var 1) .nil))) (.cmp .lt (.var 3) (.bin .pow (.cst (.int 10)) (.cst (.int 18)))))=.ok (.bl g) st:=λst=>by
  cases c:decide (a ≥ m)
  .rw[c,F0]at hg
   simp! [hl,c,p18,hg]
  .rw[c,Ft]at hg
   subst hg
   simp! [hl,c]
 generalize hE:(Ce.or (.cmp .ge (.var 2) (.blt .len (.cons (.var 1) .nil))) (.cmp .lt (.var 3) (.bin .pow (.cst (.int 10)) (.cst (.int 18)))))=E at *
 cases g with
 |true =>
  have h1:=h1 rfl
  rw[hb]
  simp! [flT,yag,stO,s1,hor,s2,i3,h1,s3]
 |false =>
  have h2:=h2 rfl
  subst h2
  rw[hb]
  simp! [flT,yag,stO,s1,hor,s2,i3,p18,s3]
theorem fill (k n:Nat)(ns:List Int)(hns:ns.length<=1000)(a p:Int)(ha:0<=a)(f:Bool)(st:Store)(h:st[n]?=AA (.lst [.lst (ns.map .int),.int a,.int p,.bl f])) :
  ∃p' f',yc T (k+2) zhN [.loc n] st=.ok .non (st.set n (.lst [.lst (ns.map .int),.int (a+1),.int p',.bl f'])):=by
 have hT:T zhN=AA ⟨1,4,AD,yag.body⟩:=rfl
 have hl:∀st,yay .len st [.lst (ns.map .int)]=AA (.int (ns.length:Int)):=λst=>by
  show AA (PV.int (((ns.map PV.int).length:Nat):Int))=_
  simp
 have i0:=ygE h
 have i1:=yfC h
 have bt:∀(a b:PV) (ρ:IC.Env),yM (.t [1,2]) (.tp AD [a,b]) ρ=AA ((ρ.set 1 (AA a)).set 2 (AA b)):=λ_ _ _=>rfl
 have hb:yag.body=(match yag.body with
  | .cons a (.cons b (.cons c _))=>.cons a (.cons b (.cons c flT))
  |x=>x):=rfl
 have m31:yx .mul (.int 31) (.int a)=AA (.int (31*a)):=zaD (by decide)
 obtain⟨v,hv⟩:∃v,exs (yc T (k+1)) [AA (.loc n),AE,AE,AE] st yag.body=exs (yc T (k+1)) [AA (.loc n),AA (.lst (ns.map .int)),AA (.int a),AA (.int v)] st flT:=by
  by_cases hn:ns=[]
  .have c0:decide ((ns.length:Int) > 0)=false:=by subst hn;rfl
   refine⟨31*a+7,?_⟩
   rw[hb]
   generalize flT=F at *
   generalize ns.map PV.int=L at *
   simp! [yag,i0,i1,bt,m31,hl,c0]
  .have h0:0<ns.length:=FV.2 hn
   obtain⟨v,hv⟩:=zmc ns a hn
   have c0:decide ((ns.length:Int) > 0)=true:=decide_eq_true (by omega)
   have d1:=zjm (i:=a) (j:=(ns.length:Int)) (by omega) (by omega)
   have d2:=zjx (i:=a) (j:=(ns.length:Int)) (by omega)
   have m1:yx .mul (.int 104729) (.int (a / (ns.length:Int)))=AA (.int (104729*(a / (ns.length:Int)))):=zaD (by decide)
   have ix:∀st,idxV st (.lst (ns.map .int)) (.int (a%(ns.length:Int)))=AA (.int v):=λ_=>hv
   refine⟨104729*(a / (ns.length:Int))+v,?_⟩
   rw[hb]
   generalize flT=F at *
   generalize ns.map PV.int=L at *
   simp! [yag,i0,i1,bt,m31,hl,c0,d1,d2,m1,ix]
 cases c:(decide (a ≥ (ns.length:Int)) || decide (v<1000000000000000000))with
 |true =>
  obtain⟨q,hq⟩:=mixed k v (st.set n (flS (.lst (ns.map .int)) (a+1) p AC))
  refine⟨q,AC,?_⟩
  rw[zm hT rfl rfl]
  have e:=zfU k n h hl c (λ_=>hq) (λh=>nomatch h)
  rw[<- hv]at e
  exact(congrArg _ e).trans rfl
 |false =>
  refine⟨v - 1000000000000000000,AD,?_⟩
  rw[zm hT rfl rfl]
  have e:=zfU k n h hl c (λh=>nomatch h) (λ_=>rfl)
  rw[<- hv]at e
  exact(congrArg _ e).trans rfl
noncomputable abbrev cM:Nat:=21
noncomputable abbrev sw:Str:=AF "w"
noncomputable abbrev sws:Str:=AF "words"
noncomputable abbrev smk:Str:=AF "marked"
def mob (w:Int)(L:Nat)(mk:Int):Ob:=.ins cM [(sw,.int w),(sws,.loc L),(smk,.int mk)]
structure MM (st:Store)(m l:Nat)(w:Int)(M:Mem)(mk:Int)(L:Nat):Prop where
 o:st[m]?=AA (mob w l mk)
 d:Dc st l M L
 ne:m≠l
theorem yge {w mk:Int}{L:Nat}:([(sw,PV.int w),(sws,.loc L),(smk,.int mk)]:List (AR×PV)).lookup sw=AA (.int w):=by ac_rfl
theorem ygF {w mk:Int}{L:Nat}:([(sw,PV.int w),(sws,.loc L),(smk,.int mk)]:List (AR×PV)).lookup sws=AA (.loc L):=by ac_rfl
theorem yfy {w mk:Int}{L:Nat}:([(sw,PV.int w),(sws,.loc L),(smk,.int mk)]:List (AR×PV)).lookup smk=AA (.int mk):=by ac_rfl
section
variable {st:Store}{m l L:Nat}{w mk:Int}{M:Mem}
theorem MM.fw (h:MM st m l w M mk L):ya3 cM st (.loc m) sw=AA (.int w):=by simp only[ya3,h.o,mob,if_true];exact yge
theorem MM.fd (h:MM st m l w M mk L):ya3 cM st (.loc m) sws=AA (.loc l):=by simp only[ya3,h.o,mob,if_true];exact ygF
theorem MM.fm (h:MM st m l w M mk L):ya3 cM st (.loc m) smk=AA (.int mk):=by simp only[ya3,h.o,mob,if_true];exact yfy
theorem MM.ins (h:MM st m l w M mk L)(n:AR)(hm:(([(sw,PV.non),(sws,.non),(smk,.non)]:List (AR×PV)).lookup n).isNone=true:=by decide +kernel):yb8 cM n st (.loc m)=AA true:=by
 have e:([(sw,PV.int w),(sws,.loc l),(smk,.int mk)]:List (AR×PV)).lookup n=none:=by
  simp only[Bs]at hm ⊢
  cases h1:n == sw with
  |true=>rw[h1]at hm;cases hm
  |false =>
   rw[h1]at hm
   cases h2:n == sws with
   |true=>rw[h2]at hm;cases hm
   |false =>
    rw[h2]at hm
    cases h3:n == smk with
    |true=>rw[h3]at hm;cases hm
    |false=>rfl
 simp only[yb8,h.o,mob]
 rw[if_pos ⟨trivial,e⟩]
theorem zm4 {v:Int}:ybV smk (.int v) [(sw,PV.int w),(sws,.loc L),(smk,.int mk)]=[(sw,.int w),(sws,.loc L),(smk,.int v)]:=by ac_rfl
theorem Dc.set_ne {n:Nat}(h:Dc st l M L)(hn:n≠l)(o:Ob):Dc (st.set n o) l M L:=by
 obtain⟨kvs,h1,h2⟩:=h.ex
 exact⟨kvs,by rw[AO hn];exact h1,h2⟩
theorem Dc.le {L':Nat}(h:Dc st l M L)(hL:L<=L'):Dc st l M L':=by
 obtain⟨kvs,h1,h2,h3,h4⟩:=h.ex
 exact⟨kvs,h1,h2,h3,BZ h4 hL⟩
theorem MM.sm (h:MM st m l w M mk L)(v:Int):ya2 cM st (.loc m) smk (.int v)=AA (st.set m (mob w l v))/\MM (st.set m (mob w l v)) m l w M v L:=by
 refine⟨?_,⟨rdS h.o,h.d.set_ne h.ne _,h.ne⟩⟩
 simp only[ya2,h.o,mob]
 rw[if_pos ⟨trivial,by simp⟩,zm4]
theorem MM.sd (h:MM st m l w M mk L)(hL:L<999999)(c:Cel)(v:Int):∃st',ybh st (.loc l) (yu c) (.int v)=AA st'/\(∃o,st'=st.set l o)/\MM st' m l w (wr M c v) mk (L+1):=by
 obtain⟨kvs,e,d⟩:=ziO h.d hL c.1 c.2 v
 exact⟨_,e,⟨_,rfl⟩,by rw[AO (BG h.ne)];exact h.o,d,h.ne⟩
theorem zb5 (k:Nat)(h:MM st m l w M mk L)(c:Cel):yc T (k+1) zq [.loc m,yu c] st=.ok (.int (rd M c)) st:=by
 have hT:T zq=AA zN:=rfl
 have g:ycu .get st (.loc l) [yu c,.int 0]=.ok (.int (rd M c)) st:=ziY h.d c.1 c.2
 have o:yaO .get st (.loc l)=AA true:=by
  obtain⟨kvs,h1,_⟩:=h.d.ex
  simp[yaO,ybf,h1]
 rw[zm hT rfl rfl]
 generalize yu c=q at *
 simp! [zN,h.fd,o,g,zbj,IC.ve32]
end
theorem highest (k n:Nat)(hn:n<=100)(s:Store):yc T (k+1) zdb [.int n] s=.ok (.int (2^n - 1)) s:=by
 have hT:T zdb=AA zbC:=rfl
 have hs:yx .shl (.int 1) (.int (n:Int))=AA (.int (2^n)):=by
  simp only[yx,binI]
  rw[if_pos ⟨by omega,by omega,by decide⟩]
  simp
 rw[zc hT rfl rfl rfl]
 simp! [zbC,zlB,hs]
theorem zaq {st s:Store}{a b:Int}:ybz st (.rt (.tp AD [.int a,.int b]) s)=.ok (.tp AD [.int a,.int b]) st:=rfl
section
variable {x y m:Int}{n:Nat}(hn:n<=100)(hn1:1<=n)(k:Nat)(st:Store)
theorem zkJ:yx .shr (.int x) (.int (n:Int))=AA (.int (x / 2^n)):=by
 simp only[yx,binI]
 rw[if_pos (by omega)]
 simp
theorem band (a b:Int):yx .band (.int a) (.int b)=AA (.int (BS a b)):=rfl
theorem zeJ (a:Int):BS a (2^n - 1)=a%2^n:=PySem.W.kbt_mask a n
include hn
theorem zl5:yc T (k+1) zfm [.int n,.int x,.int y,.int m] st=.ok (.tp AD [.int x,.int m]) st:=by
 have hT:T zfm=AA zdR:=rfl
 rw[zc hT rfl rfl rfl]
 simp! [zdR,zaq]
theorem zkT:yc T (k+2) ze5 [.int n,.int x,.int y,.int m] st=.ok (.tp AD [.int (2^n - 1 - x),.int m]) st:=by
 have hT:T ze5=AA zd1:=rfl
 have e:=highest k n hn
 rw[zc hT rfl rfl rfl]
 simp! [zd1,zaq,e]
theorem zf3:yc T (k+2) zd6 [.int n,.int x,.int y,.int m] st=.ok (.tp AD [.int ((x+y+m)%2^n),.int ((x+y+m) / 2^n)]) st:=by
 have hT:T zd6=AA zcm:=rfl
 have e:=highest k n hn
 rw[zc hT rfl rfl rfl]
 simp! [zcm,zaq,e,band,zkJ,zeJ]
theorem zkS:yc T (k+2) zaZ [.int n,.int x,.int y,.int m] st=.ok (.tp AD [.int ((x - y - m)%2^n),.int (if x - y - m<0 then 1 else 0)]) st:=by
 have hT:T zaZ=AA zad:=rfl
 have e:=highest k n hn
 rw[zc hT rfl rfl rfl]
 by_cases c:x - y - m<0
 .have hc:yE .lt (.int (x - y - m)) (.int 0)=AA (.bl AC):=by simp[yE,ybG,c]
  rw[if_pos c]
  have hd:decide (x - y - m<0)=true:=decide_eq_true c
  simp! [zad,zaq,e,band,zeJ,hd]
 .rw[if_neg c]
  have hd:decide (x - y - m<0)=false:=decide_eq_false c
  simp! [zad,zaq,e,band,zeJ,hd]
theorem zof:yc T (k+1) zcN [.int n,.int x,.int y,.int m] st=.ok (.tp AD [.int (BS x y),.int m]) st:=by
 have hT:T zcN=AA zbx:=rfl
 rw[zc hT rfl rfl rfl]
 simp! [zbx,zaq,zoW]
theorem zoN:yc T (k+1) zd7 [.int n,.int x,.int y,.int m] st=.ok (.tp AD [.int (Bj x y),.int m]) st:=by
 have hT:T zd7=AA zcq:=rfl
 rw[zc hT rfl rfl rfl]
 simp! [zcq,zaq,ye7]
theorem zo6:yc T (k+1) zdZ [.int n,.int x,.int y,.int m] st=.ok (.tp AD [.int (Bl x y),.int m]) st:=by
 have hT:T zdZ=AA zcl:=rfl
 rw[zc hT rfl rfl rfl]
 simp! [zcl,zaq,zo5]
theorem zgX:yc T (k+3) zcO [.int n,.int x,.int y,.int m] st=.ok (.tp AD [.int ((x+x+m)%2^n),.int ((x+x+m) / 2^n)]) st:=by
 have hT:T zcO=AA zbN:=rfl
 have e:=zf3 (x:=x) (y:=x) (m:=m) hn k
 rw[zc hT rfl rfl rfl]
 simp! [zbN,zaq,e]
include hn1
theorem zma (x0:0<=x)(x1:x<2^n)(m0:0<=m)(m1:m<2):Bj (x / 2) (m*2^(n - 1))=x / 2+m*(2^n / 2):=by
 obtain⟨n',rfl⟩:∃n',n=n'+1:=⟨n - 1,by omega⟩
 obtain⟨a,rfl⟩:=zc2 x0
 obtain⟨b,rfl⟩:=zc2 m0
 have e1:((a:Int) / 2)=((a / 2:Nat):Int):=by omega
 have e2:((b:Int)*2^(n'+1 - 1))=((2^n' * b:Nat):Int):=by
  rw[show n'+1 - 1=n' from rfl,A8]
  simp
 have hp:(2:Int)^(n'+1)=2*2^n':=by rw[Am,A8]
 have ha:a / 2<2^n':=by
  have:(a:Int)<2*2^n':=by rw[<- hp];exact x1
  have h3:((2^n':Nat):Int)=2^n':=by simp
  omega
 rw[e1,e2,zhI,Nat.or_comm,<- Nat.two_pow_add_eq_or_of_lt ha,hp,Int.mul_ediv_cancel_left _ (by decide)]
 have h3:((2^n' * b:Nat):Int)=b*2^n':=by rw[A8];simp
 rw[Int.natCast_add,h3,Dq]
theorem zjd (x0:0<=x)(x1:x<2^n)(m0:0<=m)(m1:m<2):yc T (k+1) zdP [.int n,.int x,.int y,.int m] st=.ok (.tp AD [.int (x / 2+m*(2^n / 2)),.int (x%2)]) st:=by
 have hT:T zdP=AA zcs:=rfl
 have h1:yx .shr (.int x) (.int 1)=AA (.int (x / 2)):=by
  have:=zkJ (x:=x) (n:=1)
  simpa using this
 have h2:yx .shl (.int m) (.int ((n:Int) - 1))=AA (.int (m*2^(n - 1))):=by
  simp only[yx,binI]
  rw[if_pos ⟨by omega,by omega,by omega⟩]
  congr 3
  congr 1
  omega
 have h3:BS x 1=x%2:=Gu x
 rw[zc hT rfl rfl rfl]
 simp! [zcs,zaq,h1,h2,ye7,zma hn hn1 x0 x1 m0 m1,band,h3]
end
theorem ziR {j:Nat}{k:Nat->Fl}:yfe (AA j) k=k j:=rfl
theorem made {s:AR}{j:Nat}(hj:mkV zM AC (.str s)=AA j)(k:Nat)(st:Store){n x y m a b:Int}(e:yc T k j [.int n,.int x,.int y,.int m] []=.ok (.tp AD [.int a,.int b]) []) :
  yc T (k+1) zif [.str s,.int n,.int x,.int y,.int m] st=.ok (.tp AD [.int a,.int b]) st:=by
 have hT:T zif=AA zfX:=rfl
 have hd:decide (5<6)=true:=rfl
 rw[zc hT rfl rfl rfl]
 simp only[zfX,AM,A6,Cy,Aw,Ay,Be,xs_cons,zoC,IC.ve2,Al,fl_ok]
 simp! [hd,hj,ziR,e,zaq]
theorem zjC:mkV zM AC (.str "move")=AA zfm/\mkV zM AC (.str "bare")=AA ze5/\mkV zM AC (.str "sum")=AA zd6/\mkV zM AC (.str "less")=AA zaZ/\mkV zM AC (.str "both")=AA zcN /\
  mkV zM AC (.str "any")=AA zd7/\mkV zM AC (.str "odd")=AA zdZ/\mkV zM AC (.str "twice")=AA zcO/\mkV zM AC (.str "half")=AA zdP:=by
 refine⟨?_,?_,?_,?_,?_,?_,?_,?_,?_⟩ <;> decide +kernel
theorem ygY {i j:Nat}{k:Bool}{a b:PV}{ρ:IC.Env}:yM (.t [i,j]) (.tp k [a,b]) ρ=AA ((ρ.set i (AA a)).set j (AA b)):=rfl
theorem yeg {call:Cl}{ρ:IC.Env}{st:Store}:ev call ρ st (.neg (.cst (.int 1)))=.ok (.int (-1)) st:=by simp only[ev,R.bind]
def okM (r:R PV)(st:Store)(m l:Nat)(w:Int)(M':Mem)(mk':Int)(L':Nat):Prop:=∃st',MM st' m l w M' mk' L'/\(∀n,n≠m->n≠l->st'[n]?=st[n]?)/\st'.length=st.length/\r=.ok .non st'
section
variable {st:Store}{m l L n:Nat}{mk:Int}{M:Mem}
theorem zaF (k:Nat)(h:MM st m l n M mk L)(hL:L<999999){s:AR}{j:Nat}(hj:mkV zM AC (.str s)=AA j){t x z:Cel}{r:List PV}
  (hlast:∀st,idxV st (.tp AD (.str s::yu t::yu x::r)) (.int (-1))=AA (yu z)) {v m':Int} (e:yc T (k+3) j [.int n,.int (rd M x),.int (rd M z),.int mk] []=.ok (.tp AD [.int v,.int m']) []) :
  okM (yc T (k+5) z7 [.loc m,.tp AD (.str s::yu t::yu x::r)] st) st m l n (wr M t v) m' (L+1):=by
 have hT:T z7=AA zL:=rfl
 have e1:yc T (k+4) zq [.loc m,yu x] st=.ok (.int (rd M x)) st:=zb5 (k+3) h x
 have e2:yc T (k+4) zq [.loc m,yu z] st=.ok (.int (rd M z)) st:=zb5 (k+3) h z
 have e3:yc T (k+4) zif [.str s,.int n,.int (rd M x),.int (rd M z),.int mk] st=_:=made hj (k+3) st e
 have ih:=h.ins (AF "held_in")
 obtain⟨s1,d1,⟨o,ho⟩,h1⟩:=h.sd hL t v
 obtain⟨d2,h2⟩:=h1.sm m'
 refine⟨_,h2,λq a b=>?_,by simp[ho],?_⟩
 .rw[AO (BG a),ho,AO (BG b)]
 rw[zm hT rfl rfl]
 generalize yu t=ct at *
 generalize yu x=cx at *
 generalize yu z=cz at *
 simp! [zL,ih,ix0,ix1,ix2,e1,yeg,hlast,e2,ygY,h.fw,h.fm,e3,h.fd,zfB,d1,zaa,zfd,d2,DD,IC.ve32,IC.ve37]
 rfl
end
section
variable {st:Store}{m l L n:Nat}{mk:Int}{M:Mem}
theorem zbO (k:Nat){s:AR}{r:List PV}{M':Mem}{mk':Int}{L':Nat}(h:MM st m l n M mk L)(q1:yE .eq (.str s) (.str "mark")=AA (.bl AD))(q2:yE .eq (.str s) (.str "ask")=AA (.bl AD))(q3:yE .eq (.str s) (.str "set")=AA (.bl AD))(q4:yE .eq (.str s) (.str "times")=AA (.bl AD))
  (g:okM (yc T (k+5) z7 [.loc m,.tp AD (.str s::r)] st) st m l n M' mk' L'):okM (yc T (k+6) zk [.loc m,.tp AD (.str s::r)] st) st m l n M' mk' L':=by
 have hT:T zk=AA zd:=rfl
 obtain⟨st',g1,g2,g3,e⟩:=g
 refine⟨st',g1,g2,g3,?_⟩
 have ih:=h.ins (AF "go_made")
 rw[zm hT rfl rfl]
 simp! [zd,ix0,q1,q2,q3,q4,ih,e,IC.ve37]
 rfl
theorem MM.le {L':Nat}{w:Int}(h:MM st m l w M mk L)(hL:L<=L'):MM st m l w M mk L':=⟨h.o,h.d.le hL,h.ne⟩
theorem zlw (k:Nat)(h:MM st m l n M mk L)(d:Int):okM (yc T (k+6) zk [.loc m,yO (.mark d)] st) st m l n M d (L+1):=by
 have hT:T zk=AA zd:=rfl
 obtain⟨d2,h2⟩:=h.sm d
 refine⟨_,h2.le (by omega),λq a b=>by rw[AO (BG a)],by simp,?_⟩
 have q:yE .eq (.str "mark") (.str "mark")=AA (.bl AC):=by ac_rfl
 rw[zm hT rfl rfl]
 simp! [zd,yO,ix0,ix1,q,zfd,d2,zaa]
 rfl
theorem zn8 (k:Nat)(h:MM st m l n M mk L)(x:Cel):okM (yc T (k+6) zk [.loc m,yO (.ask x)] st) st m l n M (bi (!(rd M x == 0))) (L+1):=by
 have hT:T zk=AA zd:=rfl
 obtain⟨d2,h2⟩:=h.sm (bi (!(rd M x == 0)))
 refine⟨_,h2.le (by omega),λq a b=>by rw[AO (BG a)],by simp,?_⟩
 have q:yE .eq (.str "ask") (.str "mark")=AA (.bl AD):=by ac_rfl
 have q2:yE .eq (.str "ask") (.str "ask")=AA (.bl AC):=by ac_rfl
 have e1:yc T (k+5) zq [.loc m,yu x] st=.ok (.int (rd M x)) st:=zb5 (k+4) h x
 have ih:=h.ins (AF "held_in")
 rw[zm hT rfl rfl,yO]
 generalize yu x=cx at *
 cases e:(rd M x == 0)with
 |true =>
  rw[e]at d2
  have d2:ya2 cM st (.loc m) smk (.int 0)=_:=d2
  simp! [zd,ix0,ix1,q,q2,ih,e1,e,zfd,d2,zaa,IC.ve37]
  rfl
 |false =>
  rw[e]at d2
  have d2:ya2 cM st (.loc m) smk (.int 1)=_:=d2
  simp! [zd,ix0,ix1,q,q2,ih,e1,e,zfd,d2,zaa,IC.ve37]
  rfl
theorem zob (k:Nat)(h:MM st m l n M mk L)(hL:L<999999)(t:Cel)(d:Int):okM (yc T (k+6) zk [.loc m,yO (.set t d)] st) st m l n (wr M t d) mk (L+1):=by
 have hT:T zk=AA zd:=rfl
 obtain⟨s1,d1,⟨o,ho⟩,h1⟩:=h.sd hL t d
 refine⟨_,h1,λq a b=>by rw[ho,AO (BG b)],by simp[ho],?_⟩
 have q:yE .eq (.str "set") (.str "mark")=AA (.bl AD):=by ac_rfl
 have q2:yE .eq (.str "set") (.str "ask")=AA (.bl AD):=by ac_rfl
 have q3:yE .eq (.str "set") (.str "set")=AA (.bl AC):=by ac_rfl
 rw[zm hT rfl rfl,yO]
 generalize yu t=ct at *
 simp! [zd,ix0,ix1,ix2,q,q2,q3,h.fd,zfB,d1,zaa,IC.ve32]
 rfl
theorem ych {s a b:PV}:∀st,idxV st (.tp AD [s,a,b]) (.int (-1))=AA b:=λst=>rfl
theorem yb6 {s a b c:PV}:∀st,idxV st (.tp AD [s,a,b,c]) (.int (-1))=AA c:=λst=>rfl
theorem zlO (a:Int):(if a<0 then(1:Int)else 0)=bi (decide (a<0)):=by
 by_cases h:a<0 <;> simp[h,bi]
theorem okM.le {R:R PV}{w:Int}{L':Nat}(h:okM R st m l w M mk L)(hL:L<=L'):okM R st m l w M mk L':=by
 obtain⟨s,a,b,c,d⟩:=h
 exact⟨s,a.le hL,b,c,d⟩
theorem zjf (k:Nat)(h:MM st m l n M mk L)(hL:L+1<999999)(hn:n<=100)(a b x y:Cel)(hx:(rd M x).natAbs<18446744073709551616):okM (yc T (k+6) zk [.loc m,yO (.times a b x y)] st) st m l n (wr (wr M a (rd M x*rd M y%2^n)) b (rd M x*rd M y / 2^n)) mk (L+2):=by
 have hT:T zk=AA zd:=rfl
 have hT2:T zau=AA zG:=rfl
 obtain⟨s1,d1,⟨o1,ho1⟩,h1⟩:=h.sd (by omega) a (rd M x*rd M y%2^n)
 obtain⟨s2,d2,⟨o2,ho2⟩,h2⟩:=h1.sd (by omega) b (rd M x*rd M y / 2^n)
 refine⟨s2,h2,λq _ c=>by rw[ho2,AO (BG c),ho1,AO (BG c)],by simp[ho1,ho2],?_⟩
 have q1:yE .eq (.str "times") (.str "mark")=AA (.bl AD):=by ac_rfl
 have q2:yE .eq (.str "times") (.str "ask")=AA (.bl AD):=by ac_rfl
 have q3:yE .eq (.str "times") (.str "set")=AA (.bl AD):=by ac_rfl
 have q4:yE .eq (.str "times") (.str "times")=AA (.bl AC):=by ac_rfl
 have ix:∀(st:Store) (a b c d e:PV),idxV st (.tp AD [a,b,c,d,e]) (.int 1)=AA b/\idxV st (.tp AD [a,b,c,d,e]) (.int 2)=AA c/\idxV st (.tp AD [a,b,c,d,e]) (.int 3)=AA d/\idxV st (.tp AD [a,b,c,d,e]) (.int 4)=AA e:=λ_ _ _ _ _ _=>⟨rfl,rfl,rfl,rfl⟩
 have ih:=h.ins (AF "go_times")
 have ih2:=h.ins (AF "held_in")
 have e1:=zb5 (k+3) h x
 have e2:=zb5 (k+3) h y
 have e3:=λs=>highest (k+3) n hn s
 have bm:=zaD (i:=rd M x) (j:=rd M y) hx
 have f1:=h.fw
 have f2:=h.fd
 have f3:=h1.fw
 have f4:=h1.fd
 have g:yc T (k+5) zau [.loc m,yO (.times a b x y)] st=.ok .non s2:=by
  rw[zm hT2 rfl rfl,yO]
  generalize rd M x*rd M y=p at *
  generalize yu a=ca at *
  generalize yu b=cb at *
  generalize yu x=cx at *
  generalize yu y=cy at *
  simp! [zG,ih2,e1,e2,e3,ix,bm,f1,f2,f3,f4,band,zeJ,zkJ,zfB,d1,d2,zaa,IC.ve32,IC.ve37]
  rfl
 rw[zm hT rfl rfl]
 simp only[yO]at g ⊢
 simp! [zd,ix0,q1,q2,q3,q4,ih,g,IC.ve37]
 rfl
theorem zmC (k:Nat)(h:MM st m l n M mk L)(hL:L+1<999999)(hn:n<=100)(hn1:1<=n)(r:Rw)(hh:∀t x,r=.half t x->0<=rd M x/\rd M x<2^n/\0<=mk/\mk<2)(ht:∀a b x y,r=.times a b x y->(rd M x).natAbs<18446744073709551616) :
  okM (yc T (k+6) zk [.loc m,yO r] st) st m l n (stepM (2^n) M mk r).1 (stepM (2^n) M mk r).2 (L+2):=by
 have hL':L<999999:=by omega
 have up:=λ{R:R PV} {M':Mem} {mk':Int} (h:okM R st m l n M' mk' (L+1))=>h.le (show L+1<=L+2 by omega)
 obtain⟨j1,j2,j3,j4,j5,j6,j7,j8,j9⟩:=zjC
 cases r with
 |mark d=>exact up (zlw k h d)
 |ask x=>exact up (zn8 k h x)
 |set t d=>exact up (zob k h hL' t d)
 |move t x=>exact up (zbO k h (by ac_rfl) (by ac_rfl) (by ac_rfl) (by ac_rfl) (zaF k h hL' j1 ych (zl5 hn (k+2) [])))
 |bare t x=>exact up (zbO k h (by ac_rfl) (by ac_rfl) (by ac_rfl) (by ac_rfl) (zaF k h hL' j2 ych (zkT hn (k+1) [])))
 |twice t x =>
  have e:=zgX (x:=rd M x) (y:=rd M x) (m:=mk) hn k []
  rw[show rd M x+rd M x+mk=2*rd M x+mk by omega]at e
  exact up (zbO k h (by ac_rfl) (by ac_rfl) (by ac_rfl) (by ac_rfl) (zaF k h hL' j8 ych e))
 |half t x =>
  obtain⟨a,b,c,d⟩:=hh t x rfl
  exact up (zbO k h (by ac_rfl) (by ac_rfl) (by ac_rfl) (by ac_rfl) (zaF k h hL' j9 ych (zjd hn hn1 (k+2) [] a b c d)))
 |sum t x y=>exact up (zbO k h (by ac_rfl) (by ac_rfl) (by ac_rfl) (by ac_rfl) (zaF k h hL' j3 yb6 (zf3 hn (k+1) [])))
 |less t x y =>
  have e:=zkS (x:=rd M x) (y:=rd M y) (m:=mk) hn (k+1) []
  rw[zlO]at e
  exact up (zbO k h (by ac_rfl) (by ac_rfl) (by ac_rfl) (by ac_rfl) (zaF k h hL' j4 yb6 e))
 |both t x y=>exact up (zbO k h (by ac_rfl) (by ac_rfl) (by ac_rfl) (by ac_rfl) (zaF k h hL' j5 yb6 (zof hn (k+2) [])))
 |any t x y=>exact up (zbO k h (by ac_rfl) (by ac_rfl) (by ac_rfl) (by ac_rfl) (zaF k h hL' j6 yb6 (zoN hn (k+2) [])))
 |odd t x y=>exact up (zbO k h (by ac_rfl) (by ac_rfl) (by ac_rfl) (by ac_rfl) (zaF k h hL' j7 yb6 (zo6 hn (k+2) [])))
 |times a b x y=>exact zjf k h hL hn a b x y (ht a b x y rfl)
end
noncomputable abbrev cZ:Cel:=(122,0)
noncomputable abbrev cS:Cel:=(115,0)
noncomputable abbrev cT:Cel:=(116,0)
noncomputable def yN (f:Int->Rw):Nat->List Rw
 |0=>[]
 |n+1=>yN f n++[f n]
def yI (n:Nat)(f:Cel->Cel->Cel->Rw):List Rw:=yN (λi=>f (99,i) (97,i) (98,i)) n
def yJ (n:Nat):List Rw:=[.set cS 0]++yN (λi=>Rw.any cS cS (99,i)) n++[.ask cS,.set (109,2) 1,.less (109,2) (109,2) cZ,.twice cT (99,(n:Int) - 1),.sum (109,3) cZ cZ]
def yau (a b c:Cel):List Rw:=[.odd cT a b,.odd cS a c,.both cT cT cS,.twice cT cT,.sum (109,1) cZ cZ]
def yan (n:Nat):List Rw:=[.mark 0]++yI n .sum++[.sum (109,0) cZ cZ]++yau (99,(n:Int) - 1) (97,(n:Int) - 1) (98,(n:Int) - 1)++yJ n
noncomputable def ye (W:Int):Nat->Int->List Int
 |0,_=>[]
 |n+1,x=>x%W::ye W n (x / W)
theorem zy (W:Int):∀n x,(ye W n x).length=n
 |0,_=>rfl
 |n+1,x=>by rw[ye,A0,zy]
def yaw (c:Nat):Nat->List Int->Mem->Mem
 |_,[],M=>M
 |i,v::vs,M=>yaw c (i+1) vs (upd M c i v)
noncomputable def M0:Mem:=λ_ _=>0
def yat (W:Int)(n:Nat)(x y:Int):Mem:=yaw 98 0 (ye W n y) (yaw 97 0 (ye W n x) M0)
noncomputable def yH (W:Int)(M:Mem)(c:Nat):Nat->Int
 |0=>0
 |n+1=>yH W M c n+M c n*W^n
structure Cx where
 l:Nat
 c:Int
 i:Int
 j:Int
 m:Int
deriving DecidableEq
inductive Op where
 | fig (d:Int)|cel (x:Cx)
deriving DecidableEq
structure Rs where
 nm:AR
 ops:List Op
deriving DecidableEq
inductive T2 where
 | row (r:Rs)|rounds (c m t:Int) (rs:List Rs)
deriving DecidableEq
inductive T1 where
 | row (r:Rs)|rounds (c m t:Int) (ps:List T2)
deriving DecidableEq
noncomputable def Cx.at (x:Cx)(I J n:Int):Int:=x.c+x.i*I+x.j*J+x.m*n
def Op.pv (I J n:Int):Op->PV
 | .fig d=>.int d
 | .cel x=>yW x.l (x.at I J n)
def Rs.pv (r:Rs)(I J n:Int):PV:=.tup (.str r.nm::r.ops.map (Op.pv I J n))
noncomputable def cnt (c m t w n:Int):Nat:=(c+m*n+t*w*n).toNat
noncomputable def upTo {α:Type}(f:Nat->List α):Nat->List α
 |0=>[]
 |n+1=>upTo f n++f n
def T2.rows (w n:Int)(I:Nat):T2->List PV
 | .row r=>[r.pv I 0 n]
 | .rounds c m t rs=>upTo (λJ=>rs.map λr=>r.pv I J n) (cnt c m t w n)
def T2.rnd (w n:Int):T2->Nat
 | .row _=>0
 | .rounds c m t _=>cnt c m t w n
def yah (w n:Int)(I:Nat)(ps:List T2):List PV:=ps.flatMap (T2.rows w n I)
def ybe (w n:Int)(ps:List T2):Nat:=(ps.map (T2.rnd w n)).sum
def T1.rows (w n:Int):T1->List PV
 | .row r=>[r.pv 0 0 n]
 | .rounds c m t ps=>upTo (λI=>yah w n I ps) (cnt c m t w n)
def T1.rnd (w n:Int):T1->Nat
 | .row _=>0
 | .rounds c m t ps=>cnt c m t w n*(1+ybe w n ps)
def yw (w n:Int)(ps:List T1):List PV:=ps.flatMap (T1.rows w n)
def yax (w n:Int)(ps:List T1):Nat:=(ps.map (T1.rnd w n)).sum
noncomputable def sm (i:Int):Bool:=decide (i.natAbs<=200)
def ydS:PV->Option Op
 | .int d=>AA (.fig d)
 | .tp _ [.str s,.tp _ [.int c,.int i,.int j,.int m]]=>if s=chS (s.cps.getD 0 0)/\(sm c && sm i && sm j && sm m)=AC then AA (.cel ⟨s.cps.getD 0 0,c,i,j,m⟩)else AE
 |_=>AE
def ybE:List PV->Option (List Op)
 | []=>AA []
 |v::vs=>match ydS v,ybE vs with
  |some a,AA b=>AA (a::b)
  |_,_=>AE
def rowOf:PV->Option Rs
 | .tp _ (.str nm::vs)=>match ybE vs with
  |some ops=>if vs.length<100 then AA ⟨nm,ops⟩else AE
  |none=>AE
 |_=>AE
noncomputable def yde (s:AR):Bool:=decide (s=AF "row")
def yce:PV->Option Rs
 | .tp _ [.str s,v]=>if yde s then rowOf v else AE
 |_=>AE
def deepOf:List PV->Option (List Rs)
 | []=>AA []
 |v::vs=>match yce v,deepOf vs with
  |some a,AA b=>AA (a::b)
  |_,_=>AE
noncomputable def ycj (s:AR):Bool:=decide (s=AF "rounds")
def part2 (v:PV):Option T2 :=
 match v with
 | .tp _ [.str s,.tp _ [.int c,.int m,.int t],_,.tp _ vs]=>if ycj s && (sm c && sm m && sm t)then(deepOf vs).map (.rounds c m t)else AE
 |v=>(yce v).map .row
def yaW:List PV->Option (List T2)
 | []=>AA []
 |v::vs=>match part2 v,yaW vs with
  |some a,AA b=>AA (a::b)
  |_,_=>AE
def part1 (v:PV):Option T1 :=
 match v with
 | .tp _ [.str s,.tp _ [.int c,.int m,.int t],_,.tp _ vs]=>if ycj s && (sm c && sm m && sm t)then(yaW vs).map (.rounds c m t)else AE
 |v=>(yce v).map .row
def yaF:List PV->Option (List T1)
 | []=>AA []
 |v::vs=>match part1 v,yaF vs with
  |some a,AA b=>AA (a::b)
  |_,_=>AE
theorem zlG {v:PV}{o:Op}(h:ydS v=AA o):(∃d,o=.fig d/\v=.int d) \/ ∃a b x,o=.cel x/\v=.tp a [.str (chS x.l),.tp b [.int x.c,.int x.i,.int x.j,.int x.m]]/\x.i.natAbs<=200/\x.j.natAbs<=200/\x.m.natAbs<=200:=by
 unfold ydS at h
 split at h
 .left;cases h;exact⟨_,rfl,rfl⟩
 .right
  rename_i a s b c i j m
  split at h
  .rename_i q
   cases h
   have q2:=q.2
   simp only[sm,AL,decide_eq_true_eq]at q2
   refine⟨a,b,_,rfl,?_,q2.1.1.2,q2.1.2,q2.2⟩
   simp only
   rw[<- q.1]
  .cases h
 .cases h
theorem zi9 {v:PV}{r:Rs}(h:rowOf v=AA r):∃a vs,v=.tp a (.str r.nm::vs)/\ybE vs=AA r.ops/\vs.length<100:=by
 unfold rowOf at h
 split at h
 .rename_i a nm vs
  split at h
  .rename_i ops q
   split at h
   .rename_i z
    cases h;exact⟨a,vs,rfl,q,z⟩
   .cases h
  .cases h
 .cases h
theorem zlH {v:PV}{r:Rs}(h:yce v=AA r):∃a v1,v=.tp a [.str "row",v1]/\rowOf v1=AA r:=by
 unfold yce at h
 split at h
 .rename_i a s v1
  split at h
  .rename_i q
   have q:s=AF "row":=by simpa [yde] using q
   exact⟨a,v1,by rw[q],h⟩
  .cases h
 .cases h
theorem ziV {v:PV}{p:T2}(h:part2 v=AA p):(∃r,p=.row r/\yce v=AA r) \/ ∃a b sn d vs c m t rs,p=.rounds c m t rs/\v=.tp a [.str "rounds",.tp b [.int c,.int m,.int t],sn,.tp d vs]/\deepOf vs=AA rs/\c.natAbs<=200/\m.natAbs<=200/\t.natAbs<=200:=by
 unfold part2 at h
 split at h
 .right
  rename_i a s b c m t sn d vs
  split at h
  .rename_i q
   simp only[ycj,sm,AL,decide_eq_true_eq]at q
   cases e:deepOf vs with
   |none=>rw[e]at h;cases h
   |some rs =>
    rw[e]at h
    cases h
    exact⟨a,b,sn,d,vs,c,m,t,rs,rfl,by rw[q.1],e,q.2.1.1,q.2.1.2,q.2.2⟩
  .cases h
 .left
  cases e:yce v with
  |none=>rw[e]at h;cases h
  |some r=>rw[e]at h;cases h;exact⟨r,rfl,rfl⟩
theorem zje {v:PV}{p:T1}(h:part1 v=AA p):(∃r,p=.row r/\yce v=AA r) \/ ∃a b sn d vs c m t ps,p=.rounds c m t ps/\v=.tp a [.str "rounds",.tp b [.int c,.int m,.int t],sn,.tp d vs]/\yaW vs=AA ps/\c.natAbs<=200/\m.natAbs<=200/\t.natAbs<=200:=by
 unfold part1 at h
 split at h
 .right
  rename_i a s b c m t sn d vs
  split at h
  .rename_i q
   simp only[ycj,sm,AL,decide_eq_true_eq]at q
   cases e:yaW vs with
   |none=>rw[e]at h;cases h
   |some rs =>
    rw[e]at h
    cases h
    exact⟨a,b,sn,d,vs,c,m,t,rs,rfl,by rw[q.1],e,q.2.1.1,q.2.1.2,q.2.2⟩
  .cases h
 .left
  cases e:yce v with
  |none=>rw[e]at h;cases h
  |some r=>rw[e]at h;cases h;exact⟨r,rfl,rfl⟩
noncomputable abbrev cU:Nat:=20
noncomputable abbrev sn:Str:=AF "n"
noncomputable abbrev sst:Str:=AF "steps"
noncomputable abbrev srw:Str:=AF "rows"
noncomputable abbrev srd:Str:=AF "rounds"
abbrev ufs (w n:Int)(l:Nat)(r q:Int):List (AR×PV):=[(sw,.int w),(sn,.int n),(sst,.loc l),(srw,.int r),(srd,.int q)]
def uob (w n:Int)(l:Nat)(r q:Int):Ob:=.ins cU (ufs w n l r q)
structure UM (st:Store)(u l:Nat)(w n r q:Int)(xs:List PV):Prop where
 o:st[u]?=AA (uob w n l r q)
 d:st[l]?=AA (.lst xs)
 ne:u≠l
section
variable {st:Store}{u l:Nat}{w n r q:Int}{xs:List PV}
theorem UM.fw (h:UM st u l w n r q xs):ya3 cU st (.loc u) sw=AA (.int w):=by simp only[ya3,h.o,uob,if_true];ac_rfl
theorem UM.fn (h:UM st u l w n r q xs):ya3 cU st (.loc u) sn=AA (.int n):=by simp only[ya3,h.o,uob,if_true];ac_rfl
theorem UM.fs (h:UM st u l w n r q xs):ya3 cU st (.loc u) sst=AA (.loc l):=by simp only[ya3,h.o,uob,if_true];ac_rfl
theorem UM.fr (h:UM st u l w n r q xs):ya3 cU st (.loc u) srw=AA (.int r):=by simp only[ya3,h.o,uob,if_true];ac_rfl
theorem UM.fq (h:UM st u l w n r q xs):ya3 cU st (.loc u) srd=AA (.int q):=by simp only[ya3,h.o,uob,if_true];ac_rfl
theorem UM.sr (h:UM st u l w n r q xs)(v:Int):ya2 cU st (.loc u) srw (.int v)=AA (st.set u (uob w n l v q))/\UM (st.set u (uob w n l v q)) u l w n v q xs:=by
 refine⟨?_,rdS h.o,by rw[AO h.ne];exact h.d,h.ne⟩
 simp only[ya2,h.o,uob]
 rw[if_pos ⟨trivial,by simp⟩,show ybV srw (.int v) (ufs w n l r q)=ufs w n l v q by ac_rfl]
theorem UM.sq (h:UM st u l w n r q xs)(v:Int):ya2 cU st (.loc u) srd (.int v)=AA (st.set u (uob w n l r v))/\UM (st.set u (uob w n l r v)) u l w n r v xs:=by
 refine⟨?_,rdS h.o,by rw[AO h.ne];exact h.d,h.ne⟩
 simp only[ya2,h.o,uob]
 rw[if_pos ⟨trivial,by simp⟩,show ybV srd (.int v) (ufs w n l r q)=ufs w n l r v by ac_rfl]
theorem UM.ap (h:UM st u l w n r q xs)(hx:xs.length<1000000)(v:PV):ycu .append st (.loc l) [v]=.ok .non (st.set l (.lst (xs++[v])))/\UM (st.set l (.lst (xs++[v]))) u l w n r q (xs++[v]):=by
 refine⟨?_,by rw[AO (BG h.ne)];exact h.o,rdS h.d,h.ne⟩
 unfold ycu;simp only[ydZ,h.d]
 rw[if_pos hx]
theorem UM.ok (h:UM st u l w n r q xs):yaO .append st (.loc l)=AA true:=by simp[yaO,yaa,h.d]
theorem UM.ins (h:UM st u l w n r q xs)(x:AR)(hx:((ufs 0 0 0 0 0).lookup x).isNone=true:=by decide +kernel):yb8 cU x st (.loc u)=AA true:=by
 have e:(ufs w n l r q).lookup x=none:=by
  simp only[ufs,Bs]at hx ⊢
  cases h1:x == sw <;> rw[h1]at hx <;> simp only at hx ⊢ <;> try cases hx
  cases h2:x == sn <;> rw[h2]at hx <;> simp only at hx ⊢ <;> try cases hx
  cases h3:x == sst <;> rw[h3]at hx <;> simp only at hx ⊢ <;> try cases hx
  cases h4:x == srw <;> rw[h4]at hx <;> simp only at hx ⊢ <;> try cases hx
  cases h5:x == srd <;> rw[h5]at hx <;> simp only at hx ⊢ <;> try cases hx
 simp only[yb8,h.o,uob]
 rw[if_pos ⟨trivial,e⟩]
theorem zh8 (k:Nat)(h:UM st u l w n r q xs)(hq:q+1<=4000):∃s,yc T (k+1) zJ [.loc u] st=.ok .non s/\UM s u l w n r (q+1) xs:=by
 have hT:T zJ=AA zw:=rfl
 obtain⟨d,h2⟩:=h.sq (q+1)
 have c:decide (q+1 > 4000)=false:=decide_eq_false (by omega)
 have vM:zbM=.int 4000:=rfl
 refine⟨_,?_,h2⟩
 rw[zm hT rfl rfl]
 have f1:=h.fq
 have f2:=h2.fq
 simp! [zw,f1,zfd,d,zaa,f2,vM,c,IC.ve32,zbj]
 rfl
theorem zex (k:Nat):∀(G:List Int),G.length<=2->∀s:Store,yc T (k+1) zaG [.tp AD (G.map .int)] s=.ok (.tp AD [.int (G.headD 0),.int (G.tail.headD 0)]) s
 | [],_,s=>by
  have hT:T zaG=AA zan:=rfl
  rw[zc hT rfl rfl rfl];rfl
 | [a],_,s=>by
  have hT:T zaG=AA zan:=rfl
  rw[zc hT rfl rfl rfl];rfl
 | [a,b],_,s=>by
  have hT:T zaG=AA zan:=rfl
  rw[zc hT rfl rfl rfl];rfl
theorem zhg (k:Nat)(h:UM st u l w n r q xs)(hx:xs.length<1000000)(sen:PV)(G:List Int)(hG:G.length<=2):∃s,yc T (k+2) zI [.loc u,sen,.tp AD (G.map .int)] st=.ok .non s/\UM s u l w n r q (xs++[.tp AD [.str "asked",sen,.int (G.headD 0),.int (G.tail.headD 0)]]):=by
 have hT:T zI=AA zu:=rfl
 have e1:=zex k G hG st
 obtain⟨a,h2⟩:=h.ap hx (.tp AD [.str "asked",sen,.int (G.headD 0),.int (G.tail.headD 0)])
 have bt:∀(i j:Nat) (a b:PV) (ρ:IC.Env),yM (.t [i,j]) (.tp AD [a,b]) ρ=AA ((ρ.set i (AA a)).set j (AA b)):=λ_ _ _ _ _=>rfl
 refine⟨_,?_,h2⟩
 rw[zm hT rfl rfl]
 have f1:=h.fs
 have o:=h.ok
 generalize PV.tp AD (G.map .int)=gv at *
 simp! [zu,e1,bt,f1,o,a,IC.ve32,zbj]
 rfl
theorem ziM (k:Nat)(h:UM st u l w n r q xs)(bb:Bool)(c m t:Int)(b1:yx .mul (.int m) (.int n)=AA (.int (m*n)))(b2:yx .mul (.int t) (.int w)=AA (.int (t*w)))(b3:yx .mul (.int (t*w)) (.int n)=AA (.int (t*w*n))) :
  yc T (k+1) zO [.loc u,.tp bb [.int c,.int m,.int t]] st=.ok (.int (c+m*n+t*w*n)) st:=by
 have hT:T zO=AA zx:=rfl
 have bt:∀(i j k:Nat) (a b c:PV) (ρ:IC.Env),yM (.t [i,j,k]) (.tp bb [a,b,c]) ρ=AA (((ρ.set i (AA a)).set j (AA b)).set k (AA c)):=λ_ _ _ _ _ _ _=>rfl
 rw[zm hT rfl rfl]
 have f1:=h.fw
 have f2:=h.fn
 simp! [zx,bt,f1,f2,b1,b2,b3,IC.ve32,zbj]
theorem ziA (k:Nat){b:Bool}{c i j m I J n:Int}(hi:i.natAbs<=200)(hj:j.natAbs<=200)(hm:m.natAbs<=200)(s:Store):yc T (k+1) zdo [.tp b [.int c,.int i,.int j,.int m],.int n,.int I,.int J] s=.ok (.int (c+i*I+j*J+m*n)) s:=by
 have hT:T zdo=AA zba:=rfl
 have h1:i.natAbs<18446744073709551616:=by omega
 have h2:j.natAbs<18446744073709551616:=by omega
 have h3:m.natAbs<18446744073709551616:=by omega
 have j2:∀st,idxV st (.tp b [.int c,.int i,.int j,.int m]) (.int 2)=AA (.int j):=λ_=>rfl
 have j3:∀st,idxV st (.tp b [.int c,.int i,.int j,.int m]) (.int 3)=AA (.int m):=λ_=>rfl
 rw[zc hT rfl rfl rfl]
 simp! [zba,ix0,ix1,j2,j3,zaD h1,zaD h2,zaD h3]
 rfl
theorem placed (k:Nat){v:PV}{o:Op}(h:ydS v=AA o)(I J n:Int)(s:Store):yc T (k+2) za8 [v,.int n,.int I,.int J] s=.ok (o.pv I J n) s:=by
 have hT:T za8=AA zaH:=rfl
 rcases zlG h with⟨d,rfl,rfl⟩|⟨f1,f2,x,rfl,rfl,q1,q2,q3⟩
 .rw[zc hT rfl rfl rfl]
  have hi:ya0 (.int d) [.tuple]=AA (.bl AD):=rfl
  simp! [zaH,hi]
  rfl
 .have hi:ya0 (.tp f1 [.str (chS x.l),.tp f2 [.int x.c,.int x.i,.int x.j,.int x.m]]) [.tuple]=AA (.bl AC):=rfl
  have e:=λs=>ziA k (b:=f2) (c:=x.c) (I:=I) (J:=J) (n:=n) q1 q2 q3 s
  rw[zc hT rfl rfl rfl]
  simp! [zaH,hi,ix0,ix1,e]
  rfl
theorem zgq (k:Nat)(x:AR)(I J n:Int)(s:Store):yc T (k+2) za8 [.str x,.int n,.int I,.int J] s=.ok (.str x) s:=by
 have hT:T za8=AA zaH:=rfl
 rw[zc hT rfl rfl rfl]
 have hi:ya0 (.str x) [.tuple]=AA (.bl AD):=rfl
 simp! [zaH,hi]
 rfl
def arC:Ce:=.call za8 (.cons (.var 0) (.cons (.fld cU (.var 3) sn) (.cons (.var 1) (.cons (.var 2) .nil))))
theorem zfT (k:Nat)(h:UM st u l w n r q xs)(I J:Int):∀(vs:List PV) (ops:List Op),ybE vs=AA ops->yai (yc T (k+2)) [AE,AA (.int I),AA (.int J),AA (.loc u)] (.n 0) (.cst (.bl AC)) arC vs st=.ok (ops.map (Op.pv I J n)) st
 | [],ops,e=>by cases e;exact za1
 |v::vs,ops,e=>by
  unfold ybE at e
  split at e
  .rename_i a b ha hb
   cases e
   have hp:=placed k ha I J n st
   have f1:=h.fn
   have ih:=zfT k h I J vs b hb
   have one:yaR (yc T (k+2)) [AE,AA (.int I),AA (.int J),AA (.loc u)] (.n 0) (.cst (.bl AC)) arC v st=.ok (AA (a.pv I J n)) st:=by
    simp! [yaR,arC,f1,hp,IC.ve32]
   rw[zK,one,bd_ok,ih,bd_ok]
   rfl
  .cases e
theorem zg8:∀{vs:List PV} {ops:List Op},ybE vs=AA ops->ops.length=vs.length
 | [],ops,e=>by cases e;rfl
 |v::vs,ops,e=>by
  unfold ybE at e
  split at e
  .rename_i a b ha hb
   cases e
   rw[A0,A0,zg8 hb]
  .cases e
theorem zkI (k:Nat)(h:UM st u l w n r q xs)(hx:xs.length<1000000)(hr:r+1<=4000){v:PV}{rs:Rs}(hv:rowOf v=AA rs)(G:List Int)(hG:G.length<=2)
  (hrow:∀s,yc T (k+2) za6 [rs.pv (G.headD 0) (G.tail.headD 0) n] s=.ok (.bl AC) s) :
  ∃s,yc T (k+3) zap [.loc u,v,.tp AD (G.map .int)] st=.ok .non s/\UM s u l w n (r+1) q (xs++[.tp AD [.str "row",rs.pv (G.headD 0) (G.tail.headD 0) n]]):=by
 have hT:T zap=AA zE:=rfl
 obtain⟨a,vs,rfl,ho,hl⟩:=zi9 hv
 have e1:=zex (k+1) G hG st
 generalize G.headD 0=I at *
 generalize G.tail.headD 0=J at *
 have hl2:=zg8 ho
 have e2:yai (yc T (k+2)) [AE,AA (.int I),AA (.int J),AA (.loc u)] (.n 0) (.cst (.bl AC)) arC (.str rs.nm::vs) st=.ok (.str rs.nm::rs.ops.map (Op.pv I J n)) st:=by
  have hp:=zgq k rs.nm I J n st
  have f1:=h.fn
  have one:yaR (yc T (k+2)) [AE,AA (.int I),AA (.int J),AA (.loc u)] (.n 0) (.cst (.bl AC)) arC (.str rs.nm) st=.ok (AA (.str rs.nm)) st:=by
   simp! [yaR,arC,f1,hp,IC.ve32]
  rw[zK,one,bd_ok,zfT k h I J vs rs.ops ho,bd_ok]
  rfl
 have e2:yai (yc T (k+2)) [AE,AA (.int I),AA (.int J),AA (.loc u)] (.n 0) (.cst (.bl AC)) (.call za8 (.cons (.var 0) (.cons (.fld cU (.var 3) sn) (.cons (.var 1) (.cons (.var 2) .nil))))) (.str rs.nm::vs) st=_:=e2
 obtain⟨d,h2⟩:=h.sr (r+1)
 have ht:∀st,yay .tuple st [.lst (.str rs.nm::rs.ops.map (Op.pv I J n))]=AA (rs.pv I J n):=λ_=>rfl
 obtain⟨b,h3⟩:=h2.ap hx (.tp AD [.str "row",rs.pv I J n])
 have bt:∀(i j:Nat) (a b:PV) (ρ:IC.Env),yM (.t [i,j]) (.tp AD [a,b]) ρ=AA ((ρ.set i (AA a)).set j (AA b)):=λ_ _ _ _ _=>rfl
 have c:decide (r+1 > 4000)=false:=decide_eq_false (by omega)
 have vM:zcR=.int 4000:=rfl
 have f1:=h.fr
 have f2:=h2.fr
 have f3:=h2.fs
 have o:=h2.ok
 have lr:=λst=>zcV (.str rs.nm::rs.ops.map (Op.pv I J n)) (by simp[hl2];omega) st
 refine⟨_,?_,h3⟩
 rw[zm hT rfl rfl]
 generalize PV.tp AD (G.map .int)=gv at *
 generalize PV.str rs.nm::rs.ops.map (Op.pv I J n)=row at *
 generalize rs.pv I J n=rowv at *
 simp! [zE,e1,bt,e2,lr,ht,f1,zfd,d,zaa,hrow,f2,vM,c,f3,o,b,IC.ve32,zbj]
 rfl
end
inductive StR:List PV->List PV->Prop
 | nil:StR [] []
 | row {xs rs v}:noLoc v=AC->StR xs rs->StR (xs++[.tp AD [.str "row",v]]) (rs++[v])
 | ask {xs rs a b c}:noLocs [a,b,c]=AC->StR xs rs->StR (xs++[.tp AD [.str "asked",a,b,c]]) rs
def US (st:Store)(u l:Nat)(w n:Int)(R:List PV)(q:Int)(a:Nat):Prop:=∃xs,UM st u l w n R.length q xs/\StR xs R/\xs.length<=R.length+a
section
variable {st:Store}{u l:Nat}{w n q:Int}{R:List PV}{a:Nat}
noncomputable def gpB:Css:=match yh.body with
 | .cons (.for _ _ b) _=>b
 |x=>x
theorem zdv:yE .eq (.str "row") (.str "row")=AA (.bl AC):=by ac_rfl
theorem zgc:yE .eq (.str "rounds") (.str "row")=AA (.bl AD):=by ac_rfl
theorem ziB (I J n:Int)(o:Op):noLoc (o.pv I J n)=true:=by cases o <;> rfl
theorem zeo (I J n:Int):∀ops:List Op,noLocs (ops.map (Op.pv I J n))=AC
 | []=>rfl
 |o::os=>by rw[AM,noLocs,ziB,zeo I J n os];rfl
theorem zbU (r:Rs)(I J n:Int):noLoc (r.pv I J n)=true:=by
 show noLocs (PV.str r.nm::r.ops.map (Op.pv I J n))=AC
 rw[noLocs,zeo];rfl
theorem zgD (k:Nat)(H:US st u l w n R q a)(hR:R.length+1<=4000)(ha:a<=500000){v:PV}{r:Rs}(hv:yce v=AA r)(G:List Int)(hG:G.length<=2)
  (hrow:∀s,yc T (k+2) za6 [r.pv (G.headD 0) (G.tail.headD 0) n] s=.ok (.bl AC) s) (p1:Option PV) :
  ∃s,exs (yc T (k+3)) [AA (.loc u),p1,AA (.tp AD (G.map .int)),AA v] st gpB=.nx [AA (.loc u),p1,AA (.tp AD (G.map .int)),AA v] s/\US s u l w n (R++[r.pv (G.headD 0) (G.tail.headD 0) n]) q a:=by
 obtain⟨xs,h,hs,hx⟩:=H
 obtain⟨b,v1,rfl,h1⟩:=zlH hv
 obtain⟨s,e,h2⟩:=zkI k h (by omega) (by omega) h1 G hG hrow
 have ih:=h.ins (AF "add_row")
 refine⟨s,?_,_,?_,.row (zbU _ _ _ _) hs,by simp;omega⟩
 .generalize PV.tp AD (G.map .int)=gv at *
  simp! [gpB,yh,ix0,ix1,zdv,ih,e,IC.ve37]
 .rw[A7,DU];exact h2
theorem zhP (k:Nat)(I J:Int)(p1:Option PV)(ha:a<=500000):∀(vs:List PV) (rs:List Rs) (st:Store) (R:List PV) (p3:Option PV),deepOf vs=AA rs->US st u l w n R q a->R.length+rs.length<=4000 ->
  (∀r∈rs,∀s,yc T (k+2) za6 [r.pv I J n] s=.ok (.bl AC) s) ->
  ∃s p3',ya8 (yc T (k+3)) (.n 3) gpB vs [AA (.loc u),p1,AA (.tp AD [.int I,.int J]),p3] st=.nx [AA (.loc u),p1,AA (.tp AD [.int I,.int J]),p3'] s/\US s u l w n (R++rs.map λr=>r.pv I J n) q a
 | [],rs,st,R,p3,hd,H,_,_=>by
  cases hd
  exact⟨st,p3,zH,by simpa using H⟩
 |v::vs,rs,st,R,p3,hd,H,hl,hrow=>by
  unfold deepOf at hd
  split at hd
  .rename_i x y hx hy
   cases hd
   simp only[A0]at hl
   obtain⟨s1,e1,H1⟩:=zgD k H (by omega) ha hx [I,J] (by simp) (hrow x (by simp)) p1
   have e1:exs (yc T (k+3)) [AA (.loc u),p1,AA (.tp AD [.int I,.int J]),AA v] st gpB=.nx [AA (.loc u),p1,AA (.tp AD [.int I,.int J]),AA v] s1:=e1
   obtain⟨s2,p3',e2,H2⟩:=zhP k I J p1 ha vs y s1 _ (AA v) hy H1 (by simp;omega) (λr hr=>hrow r (by simp[hr]))
   refine⟨s2,p3',?_,by simpa using H2⟩
   rw[zA (ρ1:=[AA (.loc u),p1,AA (.tp AD [.int I,.int J]),AA v]) rfl,e1]
   exact e2
  .cases hd
theorem zht {α:Type}(f:Nat->List α){i:Nat}:∀n,i<=n->(upTo f i).length<=(upTo f n).length
 |0,h=>by
  rw[show i=0 by omega];exact AT _
 |n+1,h=>by
  rcases Cq i (n+1)with h1|h1
  .have:=zht f (i:=i) n (by omega)
   rw[upTo,A7];omega
  .have:i=n+1:=by omega
   rw[this];exact AT _
theorem US.ask (H:US st u l w n R q a)(k:Nat)(ha:a+1<=500000)(hR:R.length<=4000)(sen:PV)(hsn:noLoc sen=AC)(G:List Int)(hG:G.length<=2):∃s,yc T (k+2) zI [.loc u,sen,.tp AD (G.map .int)] st=.ok .non s/\US s u l w n R q (a+1):=by
 obtain⟨xs,h,hs,hx⟩:=H
 obtain⟨s,e,h2⟩:=zhg k h (by omega) sen G hG
 exact⟨s,e,_,h2,.ask (by simp[noLocs,noLoc,hsn]) hs,by simp;omega⟩
theorem US.rnd (H:US st u l w n R q a)(k:Nat)(hq:q+1<=4000):∃s,yc T (k+1) zJ [.loc u] st=.ok .non s/\US s u l w n R (q+1) a:=by
 obtain⟨xs,h,hs,hx⟩:=H
 obtain⟨s,e,h2⟩:=zh8 k h hq
 exact⟨s,e,_,h2,hs,hx⟩
theorem US.ins (H:US st u l w n R q a)(x:AR)(hx:((ufs 0 0 0 0 0).lookup x).isNone=true:=by decide +kernel):yb8 cU x st (.loc u)=AA true:=by
 obtain⟨xs,h,_⟩:=H
 exact h.ins x hx
noncomputable def grB:Css:=match yj.body with
 | .cons _ (.cons (.for _ _ b) _)=>b
 |x=>x
theorem ye5:∀(G:List Int),G.length<=1->∀J:Int,yx .add (.tp AD (G.map .int)) (.tp AD [.int J])=AA (.tp AD ((G++[J]).map .int))
 | [],_,J=>rfl
 | [a],_,J=>rfl
def BodyOk (k u l:Nat)(w n:Int)(d:Bool)(vs:List PV)(G:List Int)(f:Nat->List PV)(qn an J:Nat):Prop :=
 ∀(st:Store) (R:List PV) (q:Int) (a:Nat),US st u l w n R q a->R.length+(f J).length<=4000->q+qn<=4000->a+an<=500000 ->
  ∃s,yc T k zQ [.loc u,.tp d vs,.tp AD ((G++[(J:Int)]).map .int)] st=.ok .non s/\US s u l w n (R++f J) (q+qn) (a+an)
theorem zhL (k:Nat){a1 d:Bool}{s0 cn sn:PV}(hsn:noLoc sn=AC){vs:List PV}{G:List Int}(hG:G.length<=1){f:Nat->List PV}{qn an N:Nat}(hb:∀J<N,BodyOk (k+2) u l w n d vs G f qn an J)
  (hR:R.length+(upTo f N).length<=4000) (hq:q+(N*(1+qn):Nat)<=4000) (ha:a+N*(1+an)<=500000):∀(M j:Nat) (st:Store) (p4:Option PV),j+M=N->US st u l w n (R++upTo f j) (q+(j*(1+qn):Nat)) (a+j*(1+an)) ->
  ∃s p4',ya8 (yc T (k+2)) (.n 4) grB (yo M (j:Int) 1) [AA (.loc u),AA (.tp a1 [s0,cn,sn,.tp d vs]),AA (.tp AD (G.map .int)),AA (.int N),p4] st=.nx [AA (.loc u),AA (.tp a1 [s0,cn,sn,.tp d vs]),AA (.tp AD (G.map .int)),AA (.int N),p4'] s/\US s u l w n (R++upTo f N) (q+(N*(1+qn):Nat)) (a+N*(1+an))
 |0,j,st,p4,hj,H=>by
  have:j=N:=by omega
  subst this
  exact⟨st,p4,by rw[yo];exact zH,H⟩
 |M+1,j,st,p4,hj,H=>by
  have l1:(upTo f (j+1)).length<=(upTo f N).length:=zht f N (by omega)
  rw[upTo,A7]at l1
  have m1:(j+1)*(1+qn)<=N*(1+qn):=FH _ (by omega)
  have m2:(j+1)*(1+an)<=N*(1+an):=FH _ (by omega)
  have n1:(j+1)*(1+qn)=j*(1+qn)+(1+qn):=Eo _ _
  have n2:(j+1)*(1+an)=j*(1+an)+(1+an):=Eo _ _
  obtain⟨s1,e1,H1⟩:=H.ask k (by omega) (by rw[A7];omega) sn hsn (G++[(j:Int)]) (by simp;omega)
  obtain⟨s2,e2,H2⟩:=H1.rnd (k+1) (by omega)
  obtain⟨s3,e3,H3⟩:=hb j (by omega) s2 _ _ _ H2 (by rw[A7];omega) (by omega) (by omega)
  have H3:US s3 u l w n (R++upTo f (j+1)) (q+((j+1)*(1+qn):Nat)) (a+(j+1)*(1+an)):=by
   rw[upTo,<- Ak,n1,n2]
   have x1:q+((j*(1+qn)+(1+qn):Nat):Int)=q+((j*(1+qn):Nat):Int)+1+(qn:Int):=by omega
   have x2:a+(j*(1+an)+(1+an))=a+j*(1+an)+1+an:=by omega
   rw[x1,x2];exact H3
  obtain⟨s4,p4',e4,H4⟩:=zhL k (a1:=a1) (s0:=s0) (cn:=cn) (sn:=sn) hsn hG hb hR hq ha M (j+1) s3 (AA (.int j)) (by omega) H3
  refine⟨s4,p4',?_,H4⟩
  have i1:=H.ins (AF "add_asked")
  have i2:=H1.ins (AF "add_round")
  have i3:=H2.ins (AF "go_parts")
  have c1:=ye5 G hG (j:Int)
  have one:exs (yc T (k+2)) [AA (.loc u),AA (.tp a1 [s0,cn,sn,.tp d vs]),AA (.tp AD (G.map .int)),AA (.int N),AA (.int (j:Int))] st grB=.nx [AA (.loc u),AA (.tp a1 [s0,cn,sn,.tp d vs]),AA (.tp AD (G.map .int)),AA (.int N),AA (.int (j:Int))] s3:=by
   generalize PV.tp AD (G.map .int)=gv at *
   generalize PV.tp AD ((G++[(j:Int)]).map .int)=gw at *
   generalize PV.tp d vs=pv at *
   simp! [grB,yj,ix0,ix1,ix2,ix3,c1,i1,i2,i3,e1,e2,e3,IC.ve37]
  rw[yo,zA (ρ1:=[AA (.loc u),AA (.tp a1 [s0,cn,sn,.tp d vs]),AA (.tp AD (G.map .int)),AA (.int N),AA (.int (j:Int))]) rfl,one]
  exact e4
theorem US.cnt (H:US st u l w n R q a)(k:Nat)(bb:Bool){c m t:Int}(hm:m.natAbs<=200)(ht:t.natAbs<=200)(n0:0<=n)(n1:n<=8):yc T (k+1) zO [.loc u,.tp bb [.int c,.int m,.int t]] st=.ok (.int (c+m*n+t*w*n)) st:=by
 obtain⟨xs,h,_⟩:=H
 have zct:∀{i j:Int},j.natAbs<18446744073709551616->yx .mul (.int i) (.int j)=AA (.int (i*j)):=λh=>ziN (.inr h)
 exact ziM k h bb c m t (zaD (by omega)) (zaD (by omega)) (zct (by omega))
theorem zkY (z:Int)(s:Store):yay .max s [.int 0,.int z]=AA (.int ((z.toNat:Nat):Int)):=by
 show AA (PV.int (if 0<z then z else 0))=_
 split
 .rw[Int.toNat_of_nonneg (by omega)]
 .rw[show z.toNat=0 by omega];rfl
theorem zez (k:Nat){a1 b d:Bool}{s0 sn:PV}(hsn:noLoc sn=AC){vs:List PV}{c m t:Int}{G:List Int}(hG:G.length<=1){f:Nat->List PV}{qn an N:Nat}(hN:N=cnt c m t w n)(hm:m.natAbs<=200)(ht:t.natAbs<=200)(n0:0<=n)(n1:n<=8)(hN2:N<1000000)
  (hb:∀J<N,BodyOk (k+2) u l w n d vs G f qn an J) (hR:R.length+(upTo f N).length<=4000) (hq:q+(N*(1+qn):Nat)<=4000) (ha:a+N*(1+an)+1<=500000) (H:US st u l w n R q a) :
  ∃s,yc T (k+3) zo [.loc u,.tp a1 [s0,.tp b [.int c,.int m,.int t],sn,.tp d vs],.tp AD (G.map .int)] st=.ok .non s/\US s u l w n (R++upTo f N) (q+(N*(1+qn):Nat)) (a+N*(1+an)+1):=by
 have hT:T zo=AA ⟨3,5,AD,yj.body⟩:=rfl
 have e1:=H.cnt (k+1) b (c:=c) hm ht n0 n1
 have i1:=H.ins (AF "count_of")
 obtain⟨s1,p4,e2,H2⟩:=zhL k (a1:=a1) (s0:=s0) (cn:=.tp b [.int c,.int m,.int t]) (sn:=sn) (a:=a) (q:=q) (R:=R) hsn hG hb hR hq (by omega) N 0 st AE (by omega) (by simpa [upTo] using H)
 obtain⟨s2,e3,H3⟩:=H2.ask k (by omega) (by rw[A7];omega) sn hsn (G++[(N:Int)]) (by simp;omega)
 have i2:=H2.ins (AF "add_asked")
 have c1:=ye5 G hG (N:Int)
 have hx:=zkY (c+m*n+t*w*n) st
 have hz:((c+m*n+t*w*n).toNat:Int)=(N:Int):=by rw[hN];rfl
 rw[hz]at hx
 have hr:yb2 (.int (N:Int))=AA (yo N 0 1):=by
  simp only[yb2];rw[if_pos (by omega)];rfl
 have hbd:yj.body=(match yj.body with
  | .cons x (.cons (.for t i _) r)=>.cons x (.cons (.for t i grB) r)
  |x=>x):=rfl
 refine⟨s2,?_,H3⟩
 rw[zm hT rfl rfl]
 dsimp only
 rw[hbd]
 have e2:ya8 (yc T (k+2)) (.n 4) grB (yo N 0 1) _ st=_:=e2
 generalize PV.tp AD (G.map .int)=gv at *
 generalize PV.tp AD ((G++[(N:Int)]).map .int)=gw at *
 generalize PV.tp d vs=pv at *
 generalize PV.tp b [.int c,.int m,.int t]=cv at *
 generalize c+m*n+t*w*n=z at *
 simp! [yj,ix0,ix1,ix2,ix3,i1,e1,hx,hr,e2,c1,i2,e3,IC.ve37,zbj]
 rfl
theorem zfj (k:Nat){b:Bool}{vs:List PV}{gv:PV}{s:Store}{p3:Option PV}(e:ya8 (yc T k) (.n 3) gpB vs [AA (.loc u),AA (.tp b vs),AA gv,AE] st=.nx [AA (.loc u),AA (.tp b vs),AA gv,p3] s) :
  yc T (k+1) zQ [.loc u,.tp b vs,gv] st=.ok .non s:=by
 have hT:T zQ=AA ⟨3,4,AD,yh.body⟩:=rfl
 have hbd:yh.body=(match yh.body with
  | .cons (.for t i _) r=>.cons (.for t i gpB) r
  |x=>x):=rfl
 rw[zm hT rfl rfl]
 dsimp only
 rw[hbd]
 simp! [yh,e,zbj]
 rfl
theorem zid (k:Nat){d:Bool}{vs:List PV}{rs:List Rs}(hd:deepOf vs=AA rs)(I:Int)(J:Nat)(hrow:∀r∈rs,∀s,yc T (k+2) za6 [r.pv I J n] s=.ok (.bl AC) s):BodyOk (k+4) u l w n d vs [I] (λJ=>rs.map λr=>r.pv I J n) 0 0 J:=by
 intro st R q a H h1 h2 h3
 obtain⟨s,p3,e,H2⟩:=zhP k (a:=a) (q:=q) I J (AA (.tp d vs)) (by omega) vs rs st R AE hd H (by simpa using h1) hrow
 exact⟨s,zfj (k+3) e,by simpa using H2⟩
theorem zj0 (k:Nat)(H:US st u l w n R q a){a1:Bool}{r:List PV}{gv:PV}{p1:Option PV}{s:Store}(e:yc T k zo [.loc u,.tp a1 (.str "rounds" :: r),gv] st=.ok .non s) :
  exs (yc T k) [AA (.loc u),p1,AA gv,AA (.tp a1 (.str "rounds" :: r))] st gpB=.nx [AA (.loc u),p1,AA gv,AA (.tp a1 (.str "rounds" :: r))] s:=by
 have ih:=H.ins (AF "go_rounds")
 simp! [gpB,yh,ix0,zgc,ih,e,IC.ve37]
def ybx (v:PV):Prop:=∀(k:Nat) (s:Store),yc T (10+k) za6 [v] s=.ok (.bl AC) s
def T2.ak (w n:Int):T2->Nat
 | .row _=>0
 | .rounds c m t _=>cnt c m t w n+1
def ak2 (w n:Int)(ps:List T2):Nat:=(ps.map (T2.ak w n)).sum
theorem zeA {c m t w n:Int}(hc:c.natAbs<=200)(hm:m.natAbs<=200)(ht:t.natAbs<=200)(w0:0<=w)(w1:w<=16)(n0:0<=n)(n1:n<=8):(c+m*n+t*w*n).natAbs<1000000:=by
 have h1:(m*n).natAbs<=200*8:=by rw[FI];exact Ax hm (by omega)
 have h2:(t*w*n).natAbs<=200*16*8:=by rw[FI,FI];exact Ax (Ax ht (by omega)) (by omega)
 generalize m*n=A at *
 generalize t*w*n=B at *
 omega
theorem zhb {α:Type}{f:Nat->List α}{x:α}:∀{N J:Nat},J<N->x∈f J->x∈upTo f N
 |0,_,h,_=>absurd h (by omega)
 |N+1,J,h,hx=>by
  rw[upTo,Ag]
  rcases Cq J N with h1|h1
  .exact .inl (zhb h1 hx)
  .have:J=N:=by omega
   exact .inr (this ▸ hx)
theorem zm3 {a b d:Bool}{x c m t sn:PV}{vs:List PV}(h:noLoc (.tp a [x,.tp b [c,m,t],sn,.tp d vs])=AC):noLoc sn=true:=by
 simp only[noLoc,noLocs,AL]at h
 exact h.2.2.1
theorem zoH {a b d:Bool}{x c m t sn:PV}{vs:List PV}(h:noLoc (.tp a [x,.tp b [c,m,t],sn,.tp d vs])=AC):noLocs vs=true:=by
 simp only[noLoc,noLocs,AL]at h
 exact h.2.2.2.1
theorem zbm {v:PV}{vs:List PV}(h:noLocs (v::vs)=AC):noLoc v=AC/\noLocs vs=true:=by
 simpa only[noLocs,AL] using h
theorem zk5 (k:Nat)(w0:0<=w)(w1:w<=16)(n0:0<=n)(n1:n<=8)(I:Nat)(p1:Option PV){v:PV}{p:T2}(hv:noLoc v=AC)(hp:part2 v=AA p)(H:US st u l w n R q a)(hR:R.length+(p.rows w n I).length<=4000)(hq:q+(p.rnd w n:Nat)<=4000)(ha:a+p.ak w n<=500000)(hrow:∀x∈p.rows w n I,ybx x) :
  ∃s,exs (yc T (k+13)) [AA (.loc u),p1,AA (.tp AD [.int I]),AA v] st gpB=.nx [AA (.loc u),p1,AA (.tp AD [.int I]),AA v] s/\US s u l w n (R++p.rows w n I) (q+(p.rnd w n:Nat)) (a+p.ak w n):=by
 rcases ziV hp with⟨r,rfl,h1⟩|⟨a1,b,sn,d,vs,c,m,t,rs,rfl,rfl,hd,hc,hm,ht⟩
 .obtain⟨s,e,H2⟩:=zgD (k+10) H (by simpa [T2.rows] using hR) (by omega) h1 [(I:Int)] (by simp) (λs=>by
   have:=hrow (r.pv I 0 n) (by simp[T2.rows]) (k+2) s
   rw[show 10+(k+2)=k+10+2 by omega]at this
   exact this) p1
  exact⟨s,e,by simpa [T2.rows,T2.rnd,T2.ak] using H2⟩
 .have hN:cnt c m t w n<1000000:=by
   have:=zeA hc hm ht w0 w1 n0 n1
   simp only[cnt];omega
  simp only[T2.rows,T2.rnd,T2.ak]at hR hq ha hrow ⊢
  obtain⟨s,e,H2⟩:=zez (k+10) (a1:=a1) (b:=b) (d:=d) (s0:=.str "rounds") (sn:=sn) (zm3 hv) (vs:=vs) (G:=[(I:Int)]) (by simp) (f:=λJ=>rs.map λr=>r.pv I J n) (qn:=0) (an:=0) rfl hm ht n0 n1 hN
   (λJ hJ=>zid (k+8) hd I J (λr hr s=>by
    have:=hrow (r.pv I J n) (zhb hJ (Dr.2 ⟨r,hr,rfl⟩)) k s
    rw[show 10+k=k+8+2 by omega]at this
    exact this)) hR (by simpa using hq) (by omega) H
  have e:yc T (k+13) zo [.loc u,.tp a1 [.str "rounds",.tp b [.int c,.int m,.int t],sn,.tp d vs],.tp AD [.int I]] st=.ok .non s:=e
  exact⟨s,zj0 (k+13) H e,by simpa [D3] using H2⟩
theorem zkh (k:Nat)(w0:0<=w)(w1:w<=16)(n0:0<=n)(n1:n<=8)(I:Nat)(p1:Option PV):∀(vs:List PV) (ps:List T2) (st:Store) (R:List PV) (q:Int) (a:Nat) (p3:Option PV),noLocs vs=AC->yaW vs=AA ps->US st u l w n R q a->R.length+(yah w n I ps).length<=4000->q+(ybe w n ps:Nat)<=4000->a+ak2 w n ps<=500000->(∀x∈yah w n I ps,ybx x) ->
  ∃s p3',ya8 (yc T (k+13)) (.n 3) gpB vs [AA (.loc u),p1,AA (.tp AD [.int I]),p3] st=.nx [AA (.loc u),p1,AA (.tp AD [.int I]),p3'] s/\US s u l w n (R++yah w n I ps) (q+(ybe w n ps:Nat)) (a+ak2 w n ps)
 | [],ps,st,R,q,a,p3,_,hp,H,_,_,_,_=>by
  cases hp
  exact⟨st,p3,zH,by simpa [yah,ybe,ak2] using H⟩
 |v::vs,ps,st,R,q,a,p3,hv,hp,H,hR,hq,ha,hrow=>by
  unfold yaW at hp
  split at hp
  .rename_i x y hx hy
   cases hp
   have r1:yah w n I (x::y)=x.rows w n I++yah w n I y:=by simp[yah]
   have r2:ybe w n (x::y)=x.rnd w n+ybe w n y:=by simp[ybe]
   have r3:ak2 w n (x::y)=x.ak w n+ak2 w n y:=by simp[ak2]
   rw[r1,A7]at hR
   rw[r2]at hq
   rw[r3]at ha
   rw[r1]at hrow
   rw[r1,r2,r3]
   obtain⟨s1,e1,H1⟩:=zk5 k w0 w1 n0 n1 I p1 (zbm hv).1 hx H (by omega) (by omega) (by omega) (λz hz=>hrow z (by simp[hz]))
   obtain⟨s2,p3',e2,H2⟩:=zkh k w0 w1 n0 n1 I p1 vs y s1 _ _ _ (AA v) (zbm hv).2 hy H1 (by rw[A7];omega) (by omega) (by omega) (λz hz=>hrow z (by simp[hz]))
   refine⟨s2,p3',?_,?_⟩
   .rw[zA (ρ1:=[AA (.loc u),p1,AA (.tp AD [.int I]),AA v]) rfl,e1]
    exact e2
   .rw[<- Ak,<- D3,show q+((x.rnd w n+ybe w n y:Nat):Int)=q+(x.rnd w n:Nat)+(ybe w n y:Nat)by omega]
    exact H2
  .cases hp
theorem ziH (k:Nat)(w0:0<=w)(w1:w<=16)(n0:0<=n)(n1:n<=8){d:Bool}{vs:List PV}{ps:List T2}(hv:noLocs vs=AC)(hp:yaW vs=AA ps)(I:Nat)(hrow:∀x∈yah w n I ps,ybx x):BodyOk (k+14) u l w n d vs [] (λI=>yah w n I ps) (ybe w n ps) (ak2 w n ps) I:=by
 intro st R q a H h1 h2 h3
 obtain⟨s,p3,e,H2⟩:=zkh k w0 w1 n0 n1 I (AA (.tp d vs)) vs ps st R q a AE hv hp H h1 h2 h3 hrow
 exact⟨s,zfj (k+13) e,H2⟩
def T1.ak (w n:Int):T1->Nat
 | .row _=>0
 | .rounds c m t ps=>cnt c m t w n*(1+ak2 w n ps)+1
def ak1 (w n:Int)(ps:List T1):Nat:=(ps.map (T1.ak w n)).sum
theorem zkO (k:Nat)(w0:0<=w)(w1:w<=16)(n0:0<=n)(n1:n<=8)(p1:Option PV){v:PV}{p:T1}(hv:noLoc v=AC)(hp:part1 v=AA p)(H:US st u l w n R q a)(hR:R.length+(p.rows w n).length<=4000)(hq:q+(p.rnd w n:Nat)<=4000)(ha:a+p.ak w n<=500000)(hrow:∀x∈p.rows w n,ybx x) :
  ∃s,exs (yc T (k+15)) [AA (.loc u),p1,AA (.tp AD []),AA v] st gpB=.nx [AA (.loc u),p1,AA (.tp AD []),AA v] s/\US s u l w n (R++p.rows w n) (q+(p.rnd w n:Nat)) (a+p.ak w n):=by
 rcases zje hp with⟨r,rfl,h1⟩|⟨a1,b,sn,d,vs,c,m,t,ps,rfl,rfl,hd,hc,hm,ht⟩
 .obtain⟨s,e,H2⟩:=zgD (k+12) H (by simpa [T1.rows] using hR) (by omega) h1 [] (by simp) (λs=>by
   have:=hrow (r.pv 0 0 n) (by simp[T1.rows]) (k+4) s
   rw[show 10+(k+4)=k+12+2 by omega]at this
   exact this) p1
  exact⟨s,e,by simpa [T1.rows,T1.rnd,T1.ak] using H2⟩
 .have hN:cnt c m t w n<1000000:=by
   have:=zeA hc hm ht w0 w1 n0 n1
   simp only[cnt];omega
  simp only[T1.rows,T1.rnd,T1.ak]at hR hq ha hrow ⊢
  obtain⟨s,e,H2⟩:=zez (k+12) (a1:=a1) (b:=b) (d:=d) (s0:=.str "rounds") (sn:=sn) (zm3 hv) (vs:=vs) (G:=[]) (by simp) (f:=λI=>yah w n I ps) (qn:=ybe w n ps) (an:=ak2 w n ps) rfl hm ht n0 n1 hN
   (λJ hJ=>ziH k w0 w1 n0 n1 (zoH hv) hd J (λz hz=>hrow z (zhb hJ hz))) hR hq (by omega) H
  have e:yc T (k+15) zo [.loc u,.tp a1 [.str "rounds",.tp b [.int c,.int m,.int t],sn,.tp d vs],.tp AD []] st=.ok .non s:=e
  exact⟨s,zj0 (k+15) H e,by rw[<- D3];exact H2⟩
theorem zjN (k:Nat)(w0:0<=w)(w1:w<=16)(n0:0<=n)(n1:n<=8)(p1:Option PV):∀(vs:List PV) (ps:List T1) (st:Store) (R:List PV) (q:Int) (a:Nat) (p3:Option PV),noLocs vs=AC->yaF vs=AA ps->US st u l w n R q a->R.length+(yw w n ps).length<=4000->q+(yax w n ps:Nat)<=4000->a+ak1 w n ps<=500000->(∀x∈yw w n ps,ybx x) ->
  ∃s p3',ya8 (yc T (k+15)) (.n 3) gpB vs [AA (.loc u),p1,AA (.tp AD []),p3] st=.nx [AA (.loc u),p1,AA (.tp AD []),p3'] s/\US s u l w n (R++yw w n ps) (q+(yax w n ps:Nat)) (a+ak1 w n ps)
 | [],ps,st,R,q,a,p3,_,hp,H,_,_,_,_=>by
  cases hp
  exact⟨st,p3,zH,by simpa [yw,yax,ak1] using H⟩
 |v::vs,ps,st,R,q,a,p3,hv,hp,H,hR,hq,ha,hrow=>by
  unfold yaF at hp
  split at hp
  .rename_i x y hx hy
   cases hp
   have r1:yw w n (x::y)=x.rows w n++yw w n y:=by simp[yw]
   have r2:yax w n (x::y)=x.rnd w n+yax w n y:=by simp[yax]
   have r3:ak1 w n (x::y)=x.ak w n+ak1 w n y:=by simp[ak1]
   rw[r1,A7]at hR
   rw[r2]at hq
   rw[r3]at ha
   rw[r1]at hrow
   rw[r1,r2,r3]
   obtain⟨s1,e1,H1⟩:=zkO k w0 w1 n0 n1 p1 (zbm hv).1 hx H (by omega) (by omega) (by omega) (λz hz=>hrow z (by simp[hz]))
   obtain⟨s2,p3',e2,H2⟩:=zjN k w0 w1 n0 n1 p1 vs y s1 _ _ _ (AA v) (zbm hv).2 hy H1 (by rw[A7];omega) (by omega) (by omega) (λz hz=>hrow z (by simp[hz]))
   refine⟨s2,p3',?_,?_⟩
   .rw[zA (ρ1:=[AA (.loc u),p1,AA (.tp AD []),AA v]) rfl,e1]
    exact e2
   .rw[<- Ak,<- D3,show q+((x.rnd w n+yax w n y:Nat):Int)=q+(x.rnd w n:Nat)+(yax w n y:Nat)by omega]
    exact H2
  .cases hp
end
theorem yed (k:Nat)(w n:Int):yc T (k+1) zah [.loc 0,.int w,.int n] [.ins cU []]=.ok .non [uob w n 1 0 0,.lst []]:=by
 have hT:T zah=AA zP:=rfl
 rw[zm hT rfl rfl]
 ac_rfl
theorem zjS (w n:Int):US [uob w n 1 0 0,.lst []] 0 1 w n [] 0 0:=⟨[],⟨rfl,rfl,by decide⟩,.nil,by simp⟩
theorem StR.nl {xs rs:List PV}(h:StR xs rs):noLocs xs=true:=by
 have ap:∀(a b:List PV),noLocs a=AC->noLocs b=AC->noLocs (a++b)=true:=by
  intro a
  induction a with
  |nil=>intro b _ h;exact h
  |cons x a ih =>
   intro b h1 h2
   obtain⟨p,q⟩:=zbm h1
   rw[Ay,noLocs,p,ih b q h2];rfl
 induction h with
 |nil=>rfl
 |row hv _ ih=>exact ap _ _ ih (by simp[noLocs,noLoc,hv])
 |ask hv _ ih=>exact ap _ _ ih (by simp only[noLocs,noLoc,Bool.and_true,D1]at hv ⊢;simpa using hv)
theorem zgi:yE .eq (.str "asked") (.str "row")=AA (.bl AD):=by ac_rfl
theorem ziI (k:Nat){b:Bool}{vs:List PV}{ps:List T1}{w n:Int}(hv:noLocs vs=AC)(hp:yaF vs=AA ps)(w0:0<=w)(w1:w<=16)(n0:0<=n)(n1:n<=8)(hR:(yw w n ps).length<=4000)(hq:yax w n ps<=4000)(ha:ak1 w n ps<=500000)(hrow:∀x∈yw w n ps,ybx x)
  (hit:∀s,yc T (k+16) zB [.tp b vs] s=.ok (.bl AC) s) (st:Store):∃xs,yc T (k+17) zdx [.tp b vs,.int w,.int n] st=.ok (.lst xs) st/\StR xs (yw w n ps):=by
 have hT:T zdx=AA za5:=rfl
 have hnl:noLocs [.tp b vs,.int w,.int n]=true:=by simp[noLocs,noLoc,hv]
 obtain⟨s,p3,e,xs,h,hs,_⟩:=zjN k w0 w1 n0 n1 (AA (.tp b vs)) vs ps [uob w n 1 0 0,.lst []] [] 0 0 AE hv hp (zjS w n) (by simpa using hR) (by omega) (by omega) hrow
 have e:=zfj (k+15) e
 have i0:=yed (k+15) w n
 have ih:=(zjS w n).ins (AF "go_parts")
 have f1:=h.fs
 have fz:ydP (.loc 1) s=.ok (.lst xs) (s.set 1 .dead):=by simp[ydP,h.d]
 refine⟨xs,?_,by simpa using hs⟩
 have nl:=hs.nl
 rw[zc hT rfl rfl hnl]
 generalize PV.tp b vs=tv at *
 simp! [za5,hit,i0,ih,e,f1,fz,IC.ve32,IC.ve33,IC.ve37,ybD,newV]
 simp[ybz,noLoc,nl]
noncomputable def unT:Ce:=.cmp .eq (.idx (.var 0) (.cst (.int 0))) (.cst (.str "row"))
noncomputable def unE:Ce:=.idx (.var 0) (.cst (.int 1))
theorem zjz (k:Nat){st:Store}{xs rs:List PV}(h:StR xs rs):∀(ys b:List PV),yai (yc T k) [AE] (.n 0) unT unE ys st=.ok b st->yai (yc T k) [AE] (.n 0) unT unE (xs++ys) st=.ok (rs++b) st:=by
 induction h with
 |nil=>intro ys b e;exact e
 | @row xs rs v hv _ ih =>
  intro ys b e
  have one:yaR (yc T k) [AE] (.n 0) unT unE (.tp AD [.str "row",v]) st=.ok (AA v) st:=by
   simp! [yaR,unT,unE,ix0,ix1,zdv]
  have:=ih (.tp AD [.str "row",v]::ys) (v::b) (by rw[zK,one,bd_ok,e,bd_ok];rfl)
  rw[Ak,Ak]
  exact this
 | @ask xs rs x y z hv _ ih =>
  intro ys b e
  have one:yaR (yc T k) [AE] (.n 0) unT unE (.tp AD [.str "asked",x,y,z]) st=.ok AE st:=by
   simp! [yaR,unT,unE,ix0,ix1,zgi]
  have:=ih (.tp AD [.str "asked",x,y,z]::ys) b (by rw[zK,one,bd_ok,e,bd_ok];rfl)
  rw[Ak]
  exact this
theorem StR.nl2 {xs rs:List PV}(h:StR xs rs):noLocs rs=true:=by
 have ap:∀(a b:List PV),noLocs a=AC->noLocs b=AC->noLocs (a++b)=true:=by
  intro a
  induction a with
  |nil=>intro b _ h;exact h
  |cons x a ih =>
   intro b h1 h2
   obtain⟨p,q⟩:=zbm h1
   rw[Ay,noLocs,p,ih b q h2];rfl
 induction h with
 |nil=>rfl
 |row hv _ ih=>exact ap _ _ ih (by simp[noLocs,hv])
 |ask _ _ ih=>exact ih
theorem unrolled (k:Nat){b:Bool}{vs:List PV}{ps:List T1}{w n:Int}(hv:noLocs vs=AC)(hp:yaF vs=AA ps)(w0:0<=w)(w1:w<=16)(n0:0<=n)(n1:n<=8)(hR:(yw w n ps).length<=4000)(hq:yax w n ps<=4000)(ha:ak1 w n ps<=500000)(hrow:∀x∈yw w n ps,ybx x)
  (hit:∀s,yc T (k+16) zB [.tp b vs] s=.ok (.bl AC) s) (st:Store):yc T (k+18) zdg [.tp b vs,.int w,.int n] st=.ok (.tp AD (yw w n ps)) st:=by
 have hT:T zdg=AA za4:=rfl
 have hnl:noLocs [.tp b vs,.int w,.int n]=true:=by simp[noLocs,noLoc,hv]
 obtain⟨xs,e,hs⟩:=ziI k hv hp w0 w1 n0 n1 hR hq ha hrow hit []
 have ec:=zjz (k+17) (st:=[]) hs [] [] za1
 rw[Ah,Ah]at ec
 have ec:yai (yc T (k+17)) [AE] (.n 0) (.cmp .eq (.idx (.var 0) (.cst (.int 0))) (.cst (.str "row"))) (.idx (.var 0) (.cst (.int 1))) xs []=_:=ec
 have nl:=hs.nl2
 have lr:=λst=>zcV (yw w n ps) (by omega) st
 have ht:∀st,yay .tuple st [.lst (yw w n ps)]=AA (.tp AD (yw w n ps)):=λ_=>rfl
 rw[zc hT rfl rfl hnl]
 generalize PV.tp b vs=tv at *
 generalize yw w n ps=rows at *
 simp! [za4,e,ec,lr,ht]
 simp[ybz,noLoc,nl]
theorem zgj (w n:Int):∀ps:List T1,noLocs (yw w n ps)=true:=by
 have ap:∀(a b:List PV),noLocs a=AC->noLocs b=AC->noLocs (a++b)=true:=by
  intro a
  induction a with
  |nil=>intro b _ h;exact h
  |cons x a ih =>
   intro b h1 h2
   obtain⟨p,q⟩:=zbm h1
   rw[Ay,noLocs,p,ih b q h2];rfl
 have up:∀(f:Nat->List PV) (N:Nat),(∀i,noLocs (f i)=AC)->noLocs (upTo f N)=true:=by
  intro f N h
  induction N with
  |zero=>rfl
  |succ N ih=>exact ap _ _ ih (h N)
 have mp:∀(rs:List Rs) (I J:Int),noLocs (rs.map λr=>r.pv I J n)=true:=by
  intro rs I J
  induction rs with
  |nil=>rfl
  |cons r rs ih=>rw[AM,noLocs,zbU,ih];rfl
 have two:∀(I:Nat) (ps:List T2),noLocs (yah w n I ps)=true:=by
  intro I ps
  induction ps with
  |nil=>rfl
  |cons p ps ih =>
   rw[yah,BP]
   refine ap _ _ ?_ ih
   cases p with
   |row r=>simp[T2.rows,noLocs,zbU]
   |rounds c m t rs=>exact up _ _ λJ=>mp rs _ _
 intro ps
 induction ps with
 |nil=>rfl
 |cons p ps ih =>
  rw[yw,BP]
  refine ap _ _ ?_ ih
  cases p with
  |row r=>simp[T1.rows,noLocs,zbU]
  |rounds c m t ps=>exact up _ _ λI=>two I ps
theorem zhm (k:Nat){deed:PV}(hd:noLoc deed=AC){b:Bool}{vs:List PV}{ps:List T1}{w n:Int}(ht:∀s,yc T (k+18) zay [deed] s=.ok (.tp b vs) s)(hv:noLocs vs=AC)(hp:yaF vs=AA ps)(w0:0<=w)(w1:w<=16)(n0:0<=n)(n1:n<=8)(hR:(yw w n ps).length<=4000)(hq:yax w n ps<=4000)(ha:ak1 w n ps<=500000)(hrow:∀x∈yw w n ps,ybx x)
  (hit:∀s,yc T (k+16) zB [.tp b vs] s=.ok (.bl AC) s) (st:Store):yc T (k+19) zaI [deed,.int w,.int n] st=.ok (.tp AD (yw w n ps)) st:=by
 have hT:T zaI=AA zat:=rfl
 have hnl:noLocs [deed,.int w,.int n]=true:=by simp[noLocs,noLoc,hd]
 have e:=unrolled k hv hp w0 w1 n0 n1 hR hq ha hrow hit []
 have nl:=zgj w n ps
 rw[zc hT rfl rfl hnl]
 generalize PV.tp b vs=tv at *
 generalize yw w n ps=rows at *
 simp! [zat,ht,e]
 simp[ybz,noLoc,nl]
def Dg (W:Int)(M:Mem)(c n:Nat):Prop:=∀i:Nat,i<n->0<=M c i/\M c i<W
theorem Dg.mono {W:Int}{M:Mem}{c n:Nat}(h:Dg W M c (n+1)):Dg W M c n:=λi hi=>h i (by omega)
theorem zn {W:Int}{M M':Mem}{c c':Nat}:∀n,(∀i:Nat,i<n->M c i=M' c' i)->yH W M c n=yH W M' c' n
 |0,_=>rfl
 |n+1,h=>by rw[yH,yH,zn n λi hi=>h i (by omega),h n (by omega)]
theorem zbu {W:Int}(hW:0<W){M:Mem}{c:Nat}:∀n,Dg W M c n->0<=yH W M c n/\yH W M c n<W^n
 |0,_=>by simp[yH]
 |n+1,h=>by
  obtain⟨a,b⟩:=zbu hW n h.mono
  obtain⟨c0,c1⟩:=h n (by omega)
  have hp:0<W^n:=Ad hW
  have h1:0<=M c n*W^n:=CQ c0 (by omega)
  have h2:M c n*W^n<=(W - 1)*W^n:=BT (by omega) (by omega)
  rw[Cm,Cj]at h2
  rw[yH,Am,A8 (W^n) W]
  omega
theorem zeE {W:Int}(hW:0<W){M:Mem}{c:Nat}:∀n,Dg W M c n->(yH W M c n=0 ↔ ∀i:Nat,i<n->M c i=0)
 |0,_=>by simp[yH]
 |n+1,h=>by
  have ih:=zeE hW n h.mono
  obtain⟨a,b⟩:=zbu hW n h.mono
  obtain⟨c0,c1⟩:=h n (by omega)
  have hp:0<W^n:=Ad hW
  have h1:0<=M c n*W^n:=CQ c0 (by omega)
  rw[yH]
  constructor
  .intro h2 i hi
   have h3:M c n*W^n=0:=by omega
   rcases Cq i n with z|z
   .exact ih.1 (by omega) i z
   .rw[show i=n by omega]
    rcases Int.mul_eq_zero.1 h3 with e|e
    .exact e
    .omega
  .intro h2
   rw[h2 n (by omega),ih.2 λi hi=>h2 i (by omega)]
   simp
theorem zku {w:Nat}(hw:0<w){M:Mem}{c n:Nat}(h:Dg (2^w) M c (n+1)):tb w (M c n)=if (2^w:Int)^(n+1)<=2*yH (2^w) M c (n+1)then 1 else 0:=by
 obtain⟨c0,c1⟩:=h n (by omega)
 obtain⟨a,b⟩:=zbu (Ad (by omega)) n h.mono
 rw[znF hw c0 c1,yH]
 obtain⟨v,rfl⟩:∃v,w=v+1:=⟨w - 1,by omega⟩
 have hp:0<((2:Int)^(v+1))^n:=Ad (Ad (by omega))
 rw[Am ((2:Int)^(v+1)) n]
 generalize ((2:Int)^(v+1))^n=P at *
 generalize hV:yH (2^(v+1)) M c n=V at *
 rw[Am]at *
 generalize (2:Int)^v=H at *
 generalize M c (n:Int)=d at *
 by_cases hd:H<=d
 .have h1:=BT hd (show 0<=P by omega)
  have h2:P*(H*2)=2*(H*P):=by rw[A8 P,BD,A8 2 P,<- BD,A8 2]
  rw[if_pos (by omega),if_pos (by rw[h2];omega)]
 .have h1:=BT (show d<=H - 1 by omega) (show 0<=P by omega)
  rw[Cm,Cj]at h1
  have h2:P*(H*2)=2*(H*P):=by rw[A8 P,BD,A8 2 P,<- BD,A8 2]
  rw[if_neg (by omega),if_neg (by rw[h2];omega)]
theorem zfz {W:Int}(hW:0<W)(hW2:2<=W)(M:Mem)(k:Int)(k0:0<=k)(k1:k<=1):∀n,Dg W M 97 n->Dg W M 98 n ->
  (∀d j,(d≠99 \/ (n:Int)<=j)->(yQ W (yI n .sum) M k).1 d j=M d j)/\Dg W (yQ W (yI n .sum) M k).1 99 n/\0<=(yQ W (yI n .sum) M k).2/\(yQ W (yI n .sum) M k).2<=1/\yH W (yQ W (yI n .sum) M k).1 99 n+(yQ W (yI n .sum) M k).2*W^n=yH W M 97 n+yH W M 98 n+k
 |0,_,_=>⟨λ_ _ _=>rfl,λi hi=>by omega,k0,k1,by simp[yH,yI,yN,yQ]⟩
 |n+1,ha,hb=>by
  obtain⟨h1,h2,h3,h4,h5⟩:=zfz hW hW2 M k k0 k1 n ha.mono hb.mono
  have e:yI (n+1) .sum=yI n .sum++[.sum (99,n) (97,n) (98,n)]:=rfl
  rw[e,zU]
  generalize yQ W (yI n .sum) M k=R at *
  obtain⟨M1,k'⟩:=R
  simp only at *
  obtain⟨a0,a1⟩:=ha n (by omega)
  obtain⟨b0,b1⟩:=hb n (by omega)
  simp only[yQ,stepM,rd,wr,h1 97 n (.inl (by decide)),h1 98 n (.inl (by decide))]
  generalize hA:M 97 (n:Int)=A at *
  generalize hB:M 98 (n:Int)=B at *
  have d1:=BA (A+B+k') (show W≠0 by omega)
  have d2:=Aj (A+B+k') hW
  have d3:=BJ (A+B+k') W
  have d4:0<=(A+B+k') / W:=Bo (by omega) (by omega)
  have d5:(A+B+k') / W<2:=BY hW (by omega)
  refine⟨λd j hd=>?_,λi hi=>?_,d4,by omega,?_⟩
  .unfold upd
   rw[if_neg (by omega),h1 d j (by omega)]
  .unfold upd
   by_cases hin:i=n
   .subst hin;rw[if_pos ⟨rfl,rfl⟩];exact⟨d1,d2⟩
   .rw[if_neg (by omega)];exact h2 i (by omega)
  .have hv:yH W (upd M1 99 (n:Int) ((A+B+k')%W)) 99 (n+1)=yH W M1 99 n+(A+B+k')%W*W^n:=by
    rw[yH,zn (M':=M1) (c':=99) n λi hi=>by unfold upd;rw[if_neg (by omega)]]
    unfold upd
    rw[if_pos ⟨rfl,rfl⟩]
   rw[hv,yH,yH,hA,hB,Am]
   generalize W^n=P at *
   generalize (A+B+k')%W=r at *
   generalize (A+B+k') / W=q at *
   have e2:r=A+B+k' - W*q:=by omega
   subst e2
   have e3:(A+B+k' - W*q)*P+q*(P*W)=A*P+B*P+k' * P:=by
    rw[Cm,Bu,Bu,A8 W q,BD q W P,A8 W P]
    omega
   generalize (A+B+k' - W*q)*P=X1 at *
   generalize q*(P*W)=X2 at *
   omega
theorem zcZ {W:Int}{r:Rw}{rs:List Rw}{M:Mem}{k:Int}:yQ W (r::rs) M k=yQ W rs (stepM W M k r).1 (stepM W M k r).2:=rfl
theorem zkd (b:Bool):0<=bi b/\bi b<=1:=by cases b <;> decide
theorem zbJ {c d:Nat}(h:d≠c)(j:Int):∀(vs:List Int) (i:Nat) (M:Mem),yaw c i vs M d j=M d j
 | [],_,_=>rfl
 |v::vs,i,M=>by
  rw[yaw,zbJ h j vs,upd,if_neg (by omega)]
theorem zcH {c:Nat}(j:Int):∀(vs:List Int) (i:Nat) (M:Mem),j<i->yaw c i vs M c j=M c j
 | [],_,_,_=>rfl
 |v::vs,i,M,h=>by
  rw[yaw,zcH j vs (i+1) _ (by omega),upd,if_neg (by omega)]
theorem zdH {c:Nat}:∀(vs:List Int) (i:Nat) (M:Mem) (k:Nat),k<vs.length->yaw c i vs M c ((i+k:Nat):Int)=vs.getD k 0
 | [],_,_,_,h=>by simp at h
 |v::vs,i,M,0,h=>by
  rw[yaw,zcH _ vs (i+1) _ (by omega),upd,if_pos ⟨rfl,by simp⟩]
  rfl
 |v::vs,i,M,k+1,h=>by
  rw[yaw,show i+(k+1)=i+1+k by omega,zdH vs (i+1) _ k (by simpa using h)]
  rfl
theorem zcA {W:Int}(hW:0<W):∀(n:Nat) (x:Int) (k:Nat),k<n->(ye W n x).getD k 0=x / W^k%W
 |0,_,_,h=>by omega
 |n+1,x,0,h=>by simp[ye]
 |n+1,x,k+1,h=>by
  rw[ye]
  show (ye W n (x / W)).getD k 0=_
  rw[zcA hW n (x / W) k (by omega),Am,A8 (W^k),B3 (by omega)]
theorem zef {W x:Int}(hW:0<W)(n:Nat):x%W^(n+1)=x%W^n+x / W^n%W*W^n:=by
 have hp:0<W^n:=Ad hW
 rw[Am]
 generalize W^n=P at *
 have e1:=BJ x P
 have e2:=BJ (x / P) W
 have a0:=BA x (show P≠0 by omega)
 have a1:=Aj x hp
 have b0:=BA (x / P) (show W≠0 by omega)
 have b1:=Aj (x / P) hW
 generalize x%P=r at *
 generalize x / P=q at *
 generalize q%W=s at *
 generalize q / W=t at *
 subst e2
 have e3:x=r+s*P+P*W*t:=by
  rw[<- e1,Cn,A8 P s,BD P W t];omega
 have c1:s*P<=(W - 1)*P:=BT (by omega) (by omega)
 have c0:0<=s*P:=CQ b0 (by omega)
 rw[Cm,Cj]at c1
 rw[e3,Int.add_mul_emod_self_left,B0 (by omega) (by rw[A8 P W];omega)]
theorem zdQ {W:Int}(hW:0<W){M:Mem}{c:Nat}{x:Int}:∀n,(∀i:Nat,i<n->M c i=x / W^i%W)->yH W M c n=x%W^n
 |0,_=>by simp[yH,Int.emod_one]
 |n+1,h=>by rw[yH,zdQ hW n λi hi=>h i (by omega),h n (by omega),zef hW]
section
variable {W:Int}(n:Nat)(x y:Int)
theorem zmG {d:Nat}(h1:d≠97)(h2:d≠98)(j:Int):yat W n x y d j=0:=by
 rw[yat,zbJ h2,zbJ h1];rfl
variable (hW:0<W)
include hW
theorem zmH {i:Nat}(h:i<n):yat W n x y 97 i=x / W^i%W:=by
 rw[yat,zbJ (by decide)]
 have:=zdH (c:=97) (ye W n x) 0 M0 i (by rw[zy];exact h)
 rw[Br]at this
 rw[this,zcA hW n x i h]
theorem znS {i:Nat}(h:i<n):yat W n x y 98 i=y / W^i%W:=by
 rw[yat]
 have:=zdH (c:=98) (ye W n y) 0 (yaw 97 0 (ye W n x) M0) i (by rw[zy];exact h)
 rw[Br]at this
 rw[this,zcA hW n y i h]
theorem zj7:Dg W (yat W n x y) 97 n:=λi hi=>by
 rw[zmH n x y hW hi]
 exact⟨BA _ (by omega),Aj _ hW⟩
theorem znT:Dg W (yat W n x y) 98 n:=λi hi=>by
 rw[znS n x y hW hi]
 exact⟨BA _ (by omega),Aj _ hW⟩
theorem zio (h0:0<=x)(h1:x<W^n):yH W (yat W n x y) 97 n=x:=by
 rw[zdQ hW n λi hi=>zmH n x y hW hi,B0 h0 h1]
theorem zj9 (h0:0<=y)(h1:y<W^n):yH W (yat W n x y) 98 n=y:=by
 rw[zdQ hW n λi hi=>znS n x y hW hi,B0 h0 h1]
end
theorem zlQ {X:Fl}{v:PV}{st:Store}(h:ybz [] X=.ok v []):ybz st X=.ok v st:=by
 cases X with
 |rt u s =>
  simp only[ybz]at h ⊢
  by_cases c:noLoc u=AC
  .rw[if_pos c]at h ⊢;cases h;rfl
  .rw[if_neg c]at h;cases h
 |nx ρ s=>simp only[ybz]at h ⊢;cases h;rfl
 |_=>cases h
theorem zb4 {k f:Nat}{fn:IC.Fn}{args:List PV}{v:PV}(hT:T f=AA fn)(hp:fn.pure=AC)(hl:args.length=fn.np)(hn:noLocs args=AC)(h:yc T (k+1) f args []=.ok v [])(st:Store):yc T (k+1) f args st=.ok v st:=by
 rw[zc hT hp hl hn]at h ⊢
 exact zlQ h
def ybn (W:Int):List Rw->Mem->Int->Prop
 | [],_,_=>True
 |r::rs,M,k=>((∀t x,r=.half t x->0<=rd M x/\rd M x<W/\0<=k/\k<2)/\∀a b x y,r=.times a b x y->(rd M x).natAbs<18446744073709551616)/\ybn W rs (stepM W M k r).1 (stepM W M k r).2
noncomputable def rnA:Css:=match yC.body with
 | .cons (.for _ _ b) _=>b
 |x=>x
noncomputable def rnB:Css:=match yC.body with
 | .cons _ (.cons (.for _ _ b) _)=>b
 |x=>x
theorem rnS:yC.body=.cons (.for (.n 2) (.seq (.var 1)) rnA) (.cons (.for (.n 2) (.seq (.var 1)) rnB) .nil):=rfl
theorem zix (r:Rw):noLocs [yO r]=true:=by cases r <;> rfl
section
variable {m l n:Nat}
theorem zdd (k:Nat){v:Option PV}(st:Store):∀(rs:List Rw),(∀r∈rs,yc T (k+1) zW [yO r] []=.ok .non [])->∀p2,∃q2,ya8 (yc T (k+1)) (.n 2) rnA (rs.map yO) [AA (.loc m),v,p2] st=.nx [AA (.loc m),v,q2] st
 | [],h,p2=>⟨p2,by rw[A6,zH]⟩
 |r::rs,h,p2=>by
  obtain⟨q2,e⟩:=zdd k (v:=v) st rs (λq hq=>h q (AS _ hq)) (AA (yO r))
  have e1:=zb4 (f:=zW) (fn:=zae) rfl rfl rfl (zix r) (h r (by simp)) st
  refine⟨q2,?_⟩
  rw[AM,zA (ρ1:=[AA (.loc m),v,AA (yO r)]) rfl]
  generalize yO r=row at *
  have hb:exs (yc T (k+1)) [AA (.loc m),v,AA row] st rnA=.nx [AA (.loc m),v,AA row] st:=by
   simp! [rnA,yC,e1]
  rw[hb]
  exact e
theorem zhE (k:Nat)(hn:n<=100)(hn1:1<=n){v:Option PV}:∀(rs:List Rw) (M:Mem) (mk:Int) (st:Store) (L:Nat) (p2:Option PV),MM st m l n M mk L->L+2*rs.length<999999->ybn (2^n) rs M mk ->
  ∃st' q2,MM st' m l n (yQ (2^n) rs M mk).1 (yQ (2^n) rs M mk).2 (L+2*rs.length)/\(∀q,q≠m->q≠l->st'[q]?=st[q]?)/\st'.length=st.length/\ya8 (yc T (k+6)) (.n 2) rnB (rs.map yO) [AA (.loc m),v,p2] st=.nx [AA (.loc m),v,q2] st'
 | [],M,mk,st,L,p2,h,hL,hh=>⟨st,p2,h,λ_ _ _=>rfl,rfl,by rw[A6,zH]⟩
 |r::rs,M,mk,st,L,p2,h,hL,hh=>by
  simp only[A0]at hL
  obtain⟨s1,h1,o1,l1,e1⟩:=zmC k h (by omega) hn hn1 r hh.1.1 hh.1.2
  obtain⟨s2,q2,h2,o2,l2,e2⟩:=zhE k hn hn1 (v:=v) rs _ _ s1 (L+2) (AA (yO r)) h1 (by omega) hh.2
  refine⟨s2,q2,?_,λq a b=>(o2 q a b).trans (o1 q a b),l2.trans l1,?_⟩
  .rw[yQ,A0,show L+2*(rs.length+1)=L+2+2*rs.length by omega];exact h2
  .have ih:=h.ins (AF "go_row")
   rw[AM,zA (ρ1:=[AA (.loc m),v,AA (yO r)]) rfl]
   generalize yO r=row at *
   have hb:exs (yc T (k+6)) [AA (.loc m),v,AA row] st rnB=.nx [AA (.loc m),v,AA row] s1:=by
    simp! [rnB,yC,ih,e1,IC.ve37]
   rw[hb]
   exact e2
theorem zjK (k:Nat)(hn:n<=100)(hn1:1<=n){rs:List Rw}{M:Mem}{mk:Int}{st:Store}{L:Nat}(h:MM st m l n M mk L)(hL:L+2*rs.length<999999)(hh:ybn (2^n) rs M mk)(hA:∀r∈rs,yc T (k+6) zW [yO r] []=.ok .non []) :
  okM (yc T (k+7) zaE [.loc m,.tp AD (rs.map yO)] st) st m l n (yQ (2^n) rs M mk).1 (yQ (2^n) rs M mk).2 (L+2*rs.length):=by
 have hT:T zaE=AA ⟨2,3,AD,yC.body⟩:=rfl
 obtain⟨q2,e1⟩:=zdd (m:=m) (k+5) (v:=AA (.tp AD (rs.map yO))) st rs hA AE
 obtain⟨s2,q3,h2,o2,l2,e2⟩:=zhE k hn hn1 (v:=AA (.tp AD (rs.map yO))) rs M mk st L q2 h hL hh
 refine⟨s2,h2,o2,l2,?_⟩
 rw[zm hT rfl rfl]
 show outI (exs (yc T (k+6)) [AA (.loc m),AA (.tp AD (rs.map yO)),AE] st yC.body)=_
 rw[rnS,xs_cons,x_for]
 generalize rs.map yO=rows at *
 simp! [e1,e2]
 rfl
theorem zg3:([97,98,99,100,109].all λc=>(C2 9).all λi=>isOk (yc T 8 za0 [.str ⟨#[c]⟩,.int (i:Nat)] []) (yW c (i:Nat)))=true:=by decide +kernel
theorem known (k:Nat){c i:Nat}(hc:c∈[97,98,99,100,109])(hi:i<9)(st:Store):yc T (8+k) za0 [.str ⟨#[c]⟩,.int (i:Int)] st=.ok (yW c i) st:=by
 have h:=BX.1 zg3 c hc
 have h:=BX.1 h i (by simpa using hi)
 have h:=zak (zcM h) k
 rw[show 8+k=7+k+1 by omega]at h ⊢
 exact zb4 (f:=za0) (fn:=zaO) rfl rfl rfl rfl h st
theorem yek (k:Nat){st:Store}{L:Nat}{w mk:Int}{M:Mem}(h:MM st m l w M mk L){c i:Nat}(hc:c∈[97,98,99,100,109])(hi:i<9):yc T (9+k) zR [.loc m,.str ⟨#[c]⟩,.int (i:Int)] st=.ok (.int (M c i)) st:=by
 have hT:T zR=AA zac:=rfl
 have e1:=known k hc hi st
 have e2:yc T (8+k) zq [.loc m,yW c i] st=.ok (.int (M c i)) st:=by
  rw[show 8+k=7+k+1 by omega];exact zb5 (7+k) h (c,(i:Int))
 have ih:=h.ins (AF "held_in")
 rw[show 9+k=8+k+1 by omega,zm hT rfl rfl]
 generalize yW c i=q at *
 simp! [zac,ih,e1,e2,zbj,IC.ve37]
theorem zeh (k:Nat)(v lo hi:Int)(h1:lo<=v)(h2:v<=hi)(st:Store):yc T (k+1) zaC [.int v,.int lo,.int hi] st=.ok (.bl AC) st:=by
 have hT:T zaC=AA zam:=rfl
 rw[zc hT rfl rfl rfl]
 have e1:ya0 (.int v) [.int]=AA (.bl AC):=rfl
 have e2:ya0 (.int v) [.bool]=AA (.bl AD):=rfl
 simp! [zam,e1,e2,decide_eq_true h1,decide_eq_true h2]
 rfl
theorem yfW (k:Nat)(hn:n<=100){st:Store}{L:Nat}{mk:Int}{M:Mem}(h:MM st m l n M mk L)(hL:L<999999){c i:Nat}(hc:c∈[97,98,99,100,109])(hi:i<9){v:Int}(v0:0<=v)(v1:v<2^n) :
  okM (yc T (9+k) zbS [.loc m,.str ⟨#[c]⟩,.int (i:Int),.int v] st) st m l n (upd M c i v) mk (L+1):=by
 have hT:T zbS=AA zaj:=rfl
 have e1:=known k hc hi st
 have e2:yc T (8+k) zdb [.int n] st=.ok (.int (2^n - 1)) st:=by rw[show 8+k=7+k+1 by omega];exact highest (7+k) n hn st
 have e3:yc T (8+k) zaC [.int v,.int 0,.int (2^n - 1)] st=.ok (.bl AC) st:=by rw[show 8+k=7+k+1 by omega];exact zeh (7+k) v 0 (2^n - 1) v0 (by omega) st
 obtain⟨s1,d1,⟨o,ho⟩,h1⟩:=h.sd hL (c,(i:Int)) v
 refine⟨s1,h1,λq a b=>by rw[ho,AO (BG b)],by simp[ho],?_⟩
 have d1:ybh st (.loc l) (yW c i) (.int v)=AA s1:=d1
 rw[show 9+k=8+k+1 by omega,zm hT rfl rfl]
 generalize yW c i=q at *
 simp! [zaj,e1,h.fw,e2,e3,h.fd,zfB,d1,zaa,IC.ve32]
 rfl
end
theorem yeK {v:PV}:ybV sw v []=[(sw,v)]:=rfl
theorem yeA {a v:PV}:ybV sws v [(sw,a)]=[(sw,a),(sws,v)]:=by ac_rfl
theorem yev {a b v:PV}:ybV smk v [(sw,a),(sws,b)]=[(sw,a),(sws,b),(smk,v)]:=by ac_rfl
theorem yeF (k:Nat)(w:Int)(st:Store):yc T (k+1) z5 [.loc st.length,.int w] (st++[.ins cM []])=.ok .non (st++[mob w (st.length+1) 0]++[.dct AC []]):=by
 have hT:T z5=AA zF:=rfl
 have g0:(st++[Ob.ins cM []])[st.length]?=AA (.ins cM []):=by simp
 have s1:ya2 cM (st++[Ob.ins cM []]) (.loc st.length) sw (.int w)=AA (st++[.ins cM [(sw,.int w)]]):=by
  simp only[ya2,g0]
  rw[if_pos ⟨trivial,by simp⟩,yeK]
  simp
 have g1:(st++[Ob.ins cM [(sw,.int w)]]++[Ob.dct AC []])[st.length]?=AA (.ins cM [(sw,.int w)]):=by simp
 have s2:ya2 cM (st++[Ob.ins cM [(sw,.int w)]]++[Ob.dct AC []]) (.loc st.length) sws (.loc (st.length+1))=AA (st++[.ins cM [(sw,.int w),(sws,.loc (st.length+1))]]++[.dct AC []]):=by
  simp only[ya2,g1]
  rw[if_pos ⟨trivial,by simp⟩,yeA]
  simp
 have g2:(st++[Ob.ins cM [(sw,.int w),(sws,.loc (st.length+1))]]++[Ob.dct AC []])[st.length]?=AA (.ins cM [(sw,.int w),(sws,.loc (st.length+1))]):=by simp
 have s3:ya2 cM (st++[Ob.ins cM [(sw,.int w),(sws,.loc (st.length+1))]]++[Ob.dct AC []]) (.loc st.length) smk (.int 0)=AA (st++[mob w (st.length+1) 0]++[.dct AC []]):=by
  simp only[ya2,g2]
  rw[if_pos ⟨trivial,by simp⟩,yev]
  simp[mob]
 have hd:∀(ρ:IC.Env),ev (yc T k) ρ (st++[Ob.ins cM [(sw,.int w)]]) (.dict0 AC)=.ok (.loc (st.length+1)) (st++[Ob.ins cM [(sw,.int w)]]++[.dct AC []]):=λρ=>by
  simp only[ev,A7,DU]
 rw[zm hT rfl rfl]
 simp only[zF,xs_cons,zfd,hd]
 have hlen:(st++[Ob.ins cM [(sw,.int w)]]).length=st.length+1:=by simp
 simp! [s1,zaa,hlen,s2,s3]
 rfl
theorem zev (W:Int)(hW:0<W)(x:Int):∀(n a:Nat),(yo n (a:Int) 1).map (λp=>match p with | .int j=>PV.int (x / W^j.toNat%W)|q=>q)=(ye W n (x / W^a)).map .int
 |0,a=>rfl
 |n+1,a=>by
  have h:=zev W hW x n (a+1)
  rw[yo,AM,ye,AM]
  congr 1
  .rw[show ((a:Int)+1)=((a+1:Nat):Int)by omega,h,Am,B3 (Ep (Ad hW))]
theorem znc (n:Nat)(hn:n<=1000):yx .shl (.int 1) (.int (n:Int))=AA (.int (2^n)):=by
 simp only[yx,binI]
 rw[if_pos ⟨by omega,by omega,by decide⟩]
 simp
theorem zkk (a b:Nat)(ha:a<=1000):yx .mul (.int (a:Int)) (.int (b:Int))=AA (.int ((a*b:Nat):Int)):=by
 have h:yaA (a:Int) (b:Int)=true:=by
  simp only[yaA,DA,decide_eq_true_eq]
  exact .inl (by simp;omega)
 simp only[yx,binI,h,if_true]
 simp
theorem lowest (k:Nat)(x:Int)(w n:Nat)(hw:w<=16)(hn:n<=8)(st:Store):yc T (k+1) zT [.int x,.int w,.int n] st=.ok (.tp AD ((ye (2^w) n x).map .int)) st:=by
 have hT:T zT=AA zab:=rfl
 have e1:=znc w (by omega)
 have hr:=za2 n (by omega)
 have hc:yai (yc T k) [AE,AA (.int (2^w - 1)),AA (.int x),AA (.int w)] (.n 0) (.cst (.bl AC)) (.bin .band (.bin .shr (.var 2) (.bin .mul (.var 3) (.var 0))) (.var 1)) (yo n 0 1) []=.ok ((ye (2^w) n x).map .int) []:=by
  have h:=zev (2^w) (Ad (by decide)) x n 0
  rw[C6,Dn]at h
  rw[<- h]
  refine zaP _ λp hp=>?_
  obtain⟨j,hj,rfl⟩:∃j:Nat,j<n/\p=.int (j:Int):=by
   have:∀(n a:Nat) (p:PV),p∈yo n (a:Int) 1->∃j:Nat,a<=j/\j<a+n/\p=.int (j:Int):=by
    intro n
    induction n with
    |zero=>intro a p h;cases h
    |succ n ih =>
     intro a p h
     rw[yo]at h
     rcases AU.1 h with rfl|h
     .exact⟨a,AT _,by omega,rfl⟩
     .obtain⟨j,h1,h2,h3⟩:=ih (a+1) p (by rw[show ((a+1:Nat):Int)=(a:Int)+1 by omega];exact h)
      exact⟨j,by omega,by omega,h3⟩
   obtain⟨j,_,h2,h3⟩:=this n 0 p hp
   exact⟨j,by omega,h3⟩
  have m1:=zkk w j (by omega)
  have s1:yx .shr (.int x) (.int ((w*j:Nat):Int))=AA (.int (x / 2^(w*j))):=by
   simp only[yx,binI]
   rw[if_pos (by omega),Bw]
  have b1:=band (x / 2^(w*j)) (2^w - 1)
  rw[zeJ (n:=w) (x / 2^(w*j))]at b1
  simp! [yaR,m1,s1,b1]
  rw[Bw,<- C1]
 rw[zc hT rfl rfl rfl]
 simp! [zab,e1,hr,hc]
 rw[zcV _ (by simp[zy];omega)]
 have ht:yay .tuple [] [.lst ((ye (2^w) n x).map .int)]=AA (.tp AD ((ye (2^w) n x).map .int)):=rfl
 simp! [ht]
 simp[ybz,noLoc,noLocs_ints]
theorem zbc {W:Int}(hW:0<W):∀(n:Nat) (x:Int),∀v∈ye W n x,0<=v/\v<W
 |0,x,v,h=>by cases h
 |n+1,x,v,h=>by
  rw[ye]at h
  rcases AU.1 h with rfl|h
  .exact⟨BA _ (by omega),Aj _ hW⟩
  .exact zbc hW n _ v h
noncomputable def mwB:Css:=match yp.body with
 | .cons _ (.cons (.for _ _ b) _)=>b
 |x=>x
noncomputable def mwC:Css:=match mwB with
 | .cons (.for _ _ b) _=>b
 |x=>x
section
variable {m l n:Nat}
theorem ze8 (k:Nat)(hn:n<=100){c:Nat}(hc:c∈[97,98,99,100,109]){p0 p1 p2 p3 p6:Option PV}:∀(ws:List Int) (i:Nat) (M:Mem) (st:Store) (L:Nat) (p7 p8:Option PV),(∀v∈ws,0<=v/\v<2^n)->i+ws.length<=9->MM st m l n M 0 L->L+ws.length<999999 ->
  ∃st' q7 q8,MM st' m l n (yaw c i ws M) 0 (L+ws.length)/\(∀q,q≠m->q≠l->st'[q]?=st[q]?)/\st'.length=st.length /\
   ya8 (yc T (9+k)) (.t [7,8]) mwC (yD i (ws.map .int)) [p0,p1,p2,p3,AA (.loc m),AA (.str ⟨#[c]⟩),p6,p7,p8] st=.nx [p0,p1,p2,p3,AA (.loc m),AA (.str ⟨#[c]⟩),p6,q7,q8] st'
 | [],i,M,st,L,p7,p8,hv,hi,h,hL=>⟨st,p7,p8,h,λ_ _ _=>rfl,rfl,by rw[A6,yD,zH]⟩
 |v::ws,i,M,st,L,p7,p8,hv,hi,h,hL=>by
  simp only[A0]at hi hL
  obtain⟨v0,v1⟩:=hv v (by simp)
  obtain⟨s1,h1,o1,l1,e1⟩:=yfW k hn h (by omega) hc (i:=i) (by omega) v0 v1
  obtain⟨s2,q7,q8,h2,o2,l2,e2⟩:=ze8 k hn hc (p0:=p0) (p1:=p1) (p2:=p2) (p3:=p3) (p6:=p6) ws (i+1) (upd M c i v) s1 (L+1) (AA (.int i)) (AA (.int v)) (λu hu=>hv u (AS _ hu)) (by omega) h1 (by omega)
  refine⟨s2,q7,q8,?_,λq a b=>(o2 q a b).trans (o1 q a b),l2.trans l1,?_⟩
  .rw[yaw,A0,show L+(ws.length+1)=L+1+ws.length by omega];exact h2
  .have ih:=h.ins (AF "put")
   have bt:yM (.t [7,8]) (.tup [.int (i:Int),.int v]) [p0,p1,p2,p3,AA (.loc m),AA (.str ⟨#[c]⟩),p6,p7,p8]=AA [p0,p1,p2,p3,AA (.loc m),AA (.str ⟨#[c]⟩),p6,AA (.int i),AA (.int v)]:=rfl
   rw[AM,yD,zA bt]
   have hb:exs (yc T (9+k)) [p0,p1,p2,p3,AA (.loc m),AA (.str ⟨#[c]⟩),p6,AA (.int i),AA (.int v)] st mwC=.nx [p0,p1,p2,p3,AA (.loc m),AA (.str ⟨#[c]⟩),p6,AA (.int i),AA (.int v)] s1:=by
    simp! [mwC,mwB,yp,ih,e1,IC.ve37]
   rw[hb]
   exact e2
end
theorem zeY (k:Nat)(w n:Nat)(hw:w<=16)(hn:n<=8)(x y:Int)(st:Store) :
  ∃st' m l,st.length<=m/\st.length<=l/\MM st' m l w (yat (2^w) n x y) 0 (2*n)/\(∀q,q<st.length->st'[q]?=st[q]?)/\yc T (10+k) zax [.int w,.int n,.int x,.int y] st=.ok (.loc m) st':=by
 have hT:T zax=AA ⟨4,9,AD,yp.body⟩:=rfl
 have e1:yc T (9+k) z5 [.loc st.length,.int w] (st++[.ins cM []])=.ok .non (st++[mob w (st.length+1) 0]++[.dct AC []]):=by rw[show 9+k=8+k+1 by omega];exact yeF (8+k) w st
 obtain⟨s1,hs1⟩:∃s1,s1=st++[mob w (st.length+1) 0]++[.dct AC []]:=⟨_,rfl⟩
 rw[<- hs1]at e1
 have h1:MM s1 st.length (st.length+1) w M0 0 0:=by
  rw[hs1]
  exact⟨by simp,⟨[],by simp,λp hp=>(by cases hp),λc i=>rfl,by simp⟩,by omega⟩
 have eA:∀s,yc T (9+k) zT [.int x,.int w,.int n] s=.ok (.tp AD ((ye (2^w) n x).map .int)) s:=λs=>by rw[show 9+k=8+k+1 by omega];exact lowest (8+k) x w n hw hn s
 have eB:∀s,yc T (9+k) zT [.int y,.int w,.int n] s=.ok (.tp AD ((ye (2^w) n y).map .int)) s:=λs=>by rw[show 9+k=8+k+1 by omega];exact lowest (8+k) y w n hw hn s
 have lA:=zy (2^w) n x
 have lB:=zy (2^w) n y
 obtain⟨s2,q7,q8,h2,o2,l2,f2⟩:=ze8 k (by omega) (c:=97) (by simp) (p0:=AA (.int w)) (p1:=AA (.int n)) (p2:=AA (.int x)) (p3:=AA (.int y)) (p6:=AA (.int x)) (ye (2^w) n x) 0 M0 s1 0 AE AE (zbc (Ad (by decide)) n x) (by omega) h1 (by omega)
 obtain⟨s3,r7,r8,h3,o3,l3,f3⟩:=ze8 k (by omega) (c:=98) (by simp) (p0:=AA (.int w)) (p1:=AA (.int n)) (p2:=AA (.int x)) (p3:=AA (.int y)) (p6:=AA (.int y)) (ye (2^w) n y) 0 _ s2 _ q7 q8 (zbc (Ad (by decide)) n y) (by omega) h2 (by omega)
 refine⟨s3,st.length,st.length+1,AT _,by omega,?_,λq hq=>?_,?_⟩
 .rw[show 2*n=0+(ye (2^w) n x).length+(ye (2^w) n y).length by omega];exact h3
 .rw[o3 q (by omega) (by omega),o2 q (by omega) (by omega),hs1,Ak,Ac hq]
 .have hb:yp.body=(match yp.body with
   | .cons a (.cons (.for t i _) r)=>.cons a (.cons (.for t i mwB) r)
   |x=>x):=rfl
  have hc:mwB=(match mwB with
   | .cons (.for t i _) r=>.cons (.for t i mwC) r
   |x=>x):=rfl
  have bt:∀(a b:PV) (p4 p5 p6 p7 p8:Option PV),yM (.t [5,6]) (.tp AD [a,b]) [AA (.int w),AA (.int n),AA (.int x),AA (.int y),p4,p5,p6,p7,p8]=AA [AA (.int w),AA (.int n),AA (.int x),AA (.int y),p4,AA a,AA b,p7,p8]:=λ_ _ _ _ _ _ _=>rfl
  have cA:(AF "a")=⟨#[97]⟩:=by ac_rfl
  have cB:(AF "b")=⟨#[98]⟩:=by ac_rfl
  have g1:exs (yc T (9+k)) [AA (.int w),AA (.int n),AA (.int x),AA (.int y),AA (.loc st.length),AA (.str ⟨#[97]⟩),AA (.int x),AE,AE] s1 mwB=.nx [AA (.int w),AA (.int n),AA (.int x),AA (.int y),AA (.loc st.length),AA (.str ⟨#[97]⟩),AA (.int x),q7,q8] s2:=by
   rw[hc]
   simp! [mwB,yp,eA,f2]
  have g2:exs (yc T (9+k)) [AA (.int w),AA (.int n),AA (.int x),AA (.int y),AA (.loc st.length),AA (.str ⟨#[98]⟩),AA (.int y),q7,q8] s2 mwB=.nx [AA (.int w),AA (.int n),AA (.int x),AA (.int y),AA (.loc st.length),AA (.str ⟨#[98]⟩),AA (.int y),r7,r8] s3:=by
   rw[hc]
   simp! [mwB,yp,eB,f3]
  have ag:∀(ρ:IC.Env) (s:Store) (k:IC.Env->Store->Fl),yaz (.nx ρ s) k=k ρ s:=λ_ _ _=>rfl
  rw[show 10+k=9+k+1 by omega,zm hT rfl rfl]
  dsimp only
  rw[hb]
  simp! [yp,e1,ybD,newV,hs1.symm,cA,cB,zA (bt _ _ _ _ _ _ _),zH,g1,g2,ag,zbj,IC.ve33]
noncomputable def getM (M:Mem)(c:Nat):Nat->Nat->List Int
 |_,0=>[]
 |a,n+1=>M c a::getM M c (a+1) n
theorem zcw (k:Nat){m l L:Nat}{w mk:Int}{M:Mem}{st:Store}(h:MM st m l w M mk L){c:Nat}(hc:c∈[97,98,99,100,109])(n:Nat)(hn:n<=8) :
  yc T (10+k) zas [.loc m,.str ⟨#[c]⟩,.int n] st=.ok (.tp AD ((getM M c 0 n).map .int)) st:=by
 have hT:T zas=AA ⟨3,3,AD,yam.body⟩:=rfl
 have hr:=za2 n (by omega)
 have ih:=h.ins (AF "word")
 have hl:∀(n a:Nat),(getM M c a n).length=n:=by
  intro n
  induction n with
  |zero=>intro a;rfl
  |succ n ihn=>intro a;simp[getM,ihn]
 have hcm:∀(n a:Nat),a+n<=9->yai (yc T (9+k)) [AE,AA (.str ⟨#[c]⟩),AA (.loc m)] (.n 0) (.cst (.bl AC)) (.mcl cM zR (AF "word") (.var 2) (.cons (.var 1) (.cons (.var 0) .nil))) (yo n (a:Int) 1) st=.ok ((getM M c a n).map .int) st:=by
  intro n
  induction n with
  |zero=>intro a _;rw[yo,za1];rfl
  |succ n ihn =>
   intro a ha
   have e:=yek k h hc (i:=a) (by omega)
   have one:yaR (yc T (9+k)) [AE,AA (.str ⟨#[c]⟩),AA (.loc m)] (.n 0) (.cst (.bl AC)) (.mcl cM zR (AF "word") (.var 2) (.cons (.var 1) (.cons (.var 0) .nil))) (.int (a:Int)) st=.ok (AA (.int (M c a))) st:=by
    simp! [yaR,ih,e,IC.ve37]
   have q:=ihn (a+1) (by omega)
   rw[yo,zK,one,bd_ok,show ((a:Int)+1)=((a+1:Nat):Int)by omega,q,bd_ok]
   rfl
 have hcm:=hcm n 0 (by omega)
 have ht:yay .tuple st [.lst ((getM M c 0 n).map .int)]=AA (.tp AD ((getM M c 0 n).map .int)):=rfl
 rw[show 10+k=9+k+1 by omega,zm hT rfl rfl]
 have hcm:yai (yc T (9+k)) [AE,AA (.str ⟨#[c]⟩),AA (.loc m)] (.n 0) (.cst (.bl AC)) (.mcl cM zR (AF "word") (.var 2) (.cons (.var 1) (.cons (.var 0) .nil))) (yo n 0 1) st=_:=hcm
 simp! [yam,hr,hcm]
 rw[zcV _ (by simp[hl];omega)]
 simp! [ht,zbj]
theorem zfK (k:Nat)(x:Int)(w n:Nat)(hw:w<=16)(hn:n<=8)(x0:0<=x)(x1:x<2^(w*n))(st:Store):yc T (k+2) zbb [.int x,.int w,.int n] st=.ok (.tp AD ((ye (2^w) n x).map .int)) st:=by
 have hT:T zbb=AA za3:=rfl
 have hwn:w*n<=1000:=by
  have:w*n<=16*8:=Ax hw hn
  omega
 have m1:=zkk w n (by omega)
 have s1:=znc (w*n) hwn
 have e1:∀s,yc T (k+1) zT [.int x,.int w,.int n] s=_:=λs=>lowest k x w n hw hn s
 have c1:decide (x<0)=false:=decide_eq_false (by omega)
 have c2:decide ((2:Int)^(w*n)<=x)=false:=decide_eq_false (by omega)
 rw[zc hT rfl rfl rfl]
 generalize hL:ye (2^w) n x=ws at *
 simp! [za3,c1,m1,s1,c2,e1]
 simp[ybz,noLoc,noLocs_ints]
structure ycD (pr:Prop)(deed:PV)(w n na:Nat)(rs:List Rw):Prop where
 nl:noLoc deed=AC
 isd:yc T 20 zbY [deed] []=.ok (.bl AC) []
 isp:pr->yc T 20 zbs [deed] []=.ok (.bl AC) []
 quo:∀st,(idxV st deed (.int 0)).bind (λv=>yE .isin v z8)=AA (.bl AD)
 rows:yc T 20 zaI [deed,.int w,.int n] []=.ok (.tp AD (rs.map yO)) []
 ref:∀r∈rs,yc T 20 zW [yO r] []=.ok .non []
 ans:yc T 20 zaw [deed,.int n] []=.ok (.int na) []
 rest:yc T 20 zaQ [deed,.int n] []=.ok (.int 0) []
theorem zff (k:Nat){pr:Prop}{deed:PV}{w n na:Nat}{rs:List Rw}(D:ycD pr deed w n na rs)(hw:w<=16)(hn:n<=8){x y:Int}(x0:0<=x)(x1:x<2^(w*n))(y0:0<=y)(y1:y<2^(w*n))(hp:y≠0->pr)(st:Store) :
  yc T (21+k) zbL [deed,.int w,.int n,.int x,.int y] st=.ok .non st:=by
 have hT:T zbL=AA zZ:=rfl
 have hnl:noLocs [deed,.int w,.int n,.int x,.int y]=true:=by simp[noLocs,D.nl,noLoc]
 have e1:=zak D.isd k
 have e3:∀s,yc T (20+k) zbb [.int x,.int w,.int n] s=.ok (.tp AD ((ye (2^w) n x).map .int)) s:=λs=>by rw[show 20+k=18+k+2 by omega];exact zfK (18+k) x w n hw hn x0 x1 s
 have e4:∀s,yc T (20+k) zbb [.int y,.int w,.int n] s=.ok (.tp AD ((ye (2^w) n y).map .int)) s:=λs=>by rw[show 20+k=18+k+2 by omega];exact zfK (18+k) y w n hw hn y0 y1 s
 rw[show 21+k=20+k+1 by omega,zc hT rfl rfl hnl]
 have q:=D.quo []
 cases hi:idxV [] deed (.int 0)with
 |none=>rw[hi]at q;cases q
 |some v =>
  rw[hi,BW]at q
  generalize ye (2^w) n x=xs at *
  generalize ye (2^w) n y=ys at *
  cases hy:(y == 0)with
  |true=>simp! [zZ,e1,e3,e4,hy,hi,q];rfl
  |false =>
   have e2:=zak (D.isp (hp (by intro h;rw[h]at hy;exact absurd hy (by decide)))) k
   simp! [zZ,e1,e2,e3,e4,hy];rfl
theorem ran (k:Nat){pr:Prop}{deed:PV}{w n na:Nat}{rs:List Rw}(D:ycD pr deed w n na rs)(hw:w<=16)(hw1:1<=w)(hn:n<=4)(hna:na<=8)(hrs:rs.length<5000){x y:Int}(x0:0<=x)(x1:x<2^(w*n))(y0:0<=y)(y1:y<2^(w*n))(hp:y≠0->pr)(hh:ybn (2^w) rs (yat (2^w) n x y) 0)(st:Store) :
  yc T (22+k) zol [deed,.int w,.int n,.int x,.int y] st=.ok (.tp AD [.tp AD ((getM (yQ (2^w) rs (yat (2^w) n x y) 0).1 99 0 na).map .int),.tp AD [],.tp AD ((getM (yQ (2^w) rs (yat (2^w) n x y) 0).1 109 0 4).map .int)]) st:=by
 have hT:T zol=AA ⟨5,7,AC,ycw.body⟩:=rfl
 have hnl:noLocs [deed,.int w,.int n,.int x,.int y]=true:=by simp[noLocs,D.nl,noLoc]
 have e1:=zff k D hw (by omega) x0 x1 y0 y1 hp []
 obtain⟨s2,m,l,_,_,h2,_,e2⟩:=zeY (11+k) w n hw (by omega) x y []
 have e2:yc T (21+k) zax [.int w,.int n,.int x,.int y] []=.ok (.loc m) s2:=by rw[show 21+k=10+(11+k)by omega];exact e2
 have nl3:noLocs [deed,.int w,.int n]=true:=by simp[noLocs,D.nl,noLoc]
 have nl2:noLocs [deed,.int n]=true:=by simp[noLocs,D.nl,noLoc]
 have up:∀{f:Nat} {fn:IC.Fn} {args:List PV} {v:PV},T f=AA fn->fn.pure=AC->args.length=fn.np->noLocs args=AC->yc T 20 f args []=.ok v []->∀s,yc T (21+k) f args s=.ok v s:=λ{f fn args v} a b c d e s=>by
  have:=zak e (1+k)
  rw[show 20+(1+k)=20+k+1 by omega]at this
  rw[show 21+k=20+k+1 by omega]
  exact zb4 a b c d this s
 have e3:=up (f:=zaI) (fn:=zat) rfl rfl rfl nl3 D.rows s2
 obtain⟨s4,h4,_,_,e4⟩:=zjK (14+k) (n:=w) (by omega) hw1 h2 (rs:=rs) (by omega) hh (λr hr=>by
  have:=zak (D.ref r hr) k
  rw[show 20+k=14+k+6 by omega]at this
  exact this)
 have e4:yc T (21+k) zaE [.loc m,.tp AD (rs.map yO)] s2=.ok .non s4:=by rw[show 21+k=14+k+7 by omega];exact e4
 have e5:=up (f:=zaw) (fn:=zS) rfl rfl rfl nl2 D.ans s4
 have e6:=up (f:=zaQ) (fn:=zaf) rfl rfl rfl nl2 D.rest s4
 have n1:yc T (21+k) zas [.loc m,.str ⟨#[99]⟩,.int na] s4=.ok (.tp AD ((getM (yQ (2^w) rs (yat (2^w) n x y) 0).1 99 0 na).map .int)) s4:=by
  have:=zcw (11+k) h4 (c:=99) (by simp) na hna
  rw[show 10+(11+k)=21+k by omega]at this
  exact this
 have n2:yc T (21+k) zas [.loc m,.str ⟨#[100]⟩,.int 0] s4=.ok (.tp AD []) s4:=by
  have:=zcw (11+k) h4 (c:=100) (by simp) 0 (by omega)
  rw[show 10+(11+k)=21+k by omega]at this
  exact this
 have n3:yc T (21+k) zas [.loc m,.str ⟨#[109]⟩,.int 4] s4=.ok (.tp AD ((getM (yQ (2^w) rs (yat (2^w) n x y) 0).1 109 0 4).map .int)) s4:=by
  have:=zcw (11+k) h4 (c:=109) (by simp) 4 (by omega)
  rw[show 10+(11+k)=21+k by omega]at this
  exact this
 have ih:=h2.ins (AF "run")
 have cC:(AF "c")=⟨#[99]⟩:=by ac_rfl
 have cD:(AF "d")=⟨#[100]⟩:=by ac_rfl
 have cE:(AF "m")=⟨#[109]⟩:=by ac_rfl
 have vM:zca=.int 4:=rfl
 rw[show 22+k=21+k+1 by omega,zc hT rfl rfl hnl]
 dsimp only
 generalize rs.map yO=rows at *
 generalize getM (yQ (2^w) rs (yat (2^w) n x y) 0).1 99 0 na=A at *
 generalize getM (yQ (2^w) rs (yat (2^w) n x y) 0).1 109 0 4=B at *
 simp! [ycw,e1,e2,ih,e3,e4,e5,e6,cC,cD,cE,vM,n1,n2,n3,IC.ve37]
 simp[ybz,noLoc,noLocs,noLocs_ints]
theorem letters:((C2 26).all λj=>isOk (yc T 2 zbq [.str (chS (97+j))] []) (.bl AC))=true:=by decide +kernel
theorem zgu (k:Nat){c:Nat}(h1:97<=c)(h2:c<=122)(s:Store):yc T (k+2) zbq [.str (chS c)] s=.ok (.bl AC) s:=by
 have h:=BX.1 letters (c - 97) (by simp;omega)
 rw[show 97+(c - 97)=c by omega]at h
 have h:=zak (zcM h) k
 rw[show 2+k=k+1+1 by omega]at h
 exact zb4 (f:=zbq) (fn:=zbo) rfl rfl rfl rfl h s
theorem zeZ (k:Nat){i a b:Int}(h1:a<=i)(h2:i<=b)(s:Store):yc T (k+1) zaC [.int i,.int a,.int b] s=.ok (.bl AC) s:=by
 have hT:T zaC=AA zam:=rfl
 have e1:ya0 (.int i) [.int]=AA (.bl AC):=rfl
 have e2:ya0 (.int i) [.bool]=AA (.bl AD):=rfl
 have c1:decide (a<=i)=true:=decide_eq_true h1
 have c2:decide (i<=b)=true:=decide_eq_true h2
 rw[zc hT rfl rfl rfl]
 simp! [zam,e1,e2,c1,c2,IC.ve9]
 rfl
theorem zja (k:Nat){x:Cel}(h1:97<=x.1)(h2:x.1<=122)(h3:0<=x.2)(h4:x.2<=99)(s:Store):yc T (k+4) zeH [yu x] s=.ok (.bl AC) s:=by
 have hT:T zeH=AA zbT:=rfl
 have hT2:T zbG=AA zal:=rfl
 have el:∀s,yc T (k+3) zbG [yu x] s=.ok (.bl AC) s:=λs=>by
  have e:=λs=>zgu k h1 h2 s
  rw[zc hT2 rfl rfl rfl]
  have e1:ya0 (yu x) [.tuple]=AA (.bl AC):=rfl
  have e2:∀st,yay .len st [yu x]=AA (.int 2):=λ_=>rfl
  have e3:∀st,idxV st (yu x) (.int 0)=AA (.str (chS x.1)):=λ_=>rfl
  generalize yu x=v at *
  simp! [zal,e1,e2,e3,e]
  rfl
 have ew:=λs=>zeZ (k+2) h3 h4 s
 have e3:∀st,idxV st (yu x) (.int 1)=AA (.int x.2):=λ_=>rfl
 rw[zc hT rfl rfl rfl]
 generalize yu x=v at *
 simp! [zbT,el,e3,ew]
 rfl
noncomputable abbrev kC:PV:=.str "cell"
noncomputable abbrev kF:PV:=.str "figure"
theorem zkv (k:Nat){x:Cel}(h1:97<=x.1)(h2:x.1<=122)(h3:0<=x.2)(h4:x.2<=99)(s:Store):yc T (k+5) zt [kC,yu x,.bl AD] s=.ok (.bl AC) s:=by
 have hT:T zt=AA zY:=rfl
 have e:=λs=>zja k h1 h2 h3 h4 s
 have c:yE .eq kC kF=AA (.bl AD):=by ac_rfl
 have hnl:noLocs [kC,yu x,.bl AD]=true:=rfl
 rw[zc hT rfl rfl hnl]
 generalize yu x=v at *
 simp! [zY,c,e]
 rfl
theorem zjZ (k:Nat){d:Int}(h1:0<=d)(h2:d<=1)(s:Store):yc T (k+5) zt [kF,.int d,.bl AD] s=.ok (.bl AC) s:=by
 have hT:T zt=AA zY:=rfl
 have e:=λs=>zeZ (k+3) h1 h2 s
 have c:yE .eq kF kF=AA (.bl AC):=by ac_rfl
 rw[zc hT rfl rfl rfl]
 simp! [zY,c,e]
 rfl
noncomputable def hfB:Css:=match yL.body with
 | .cons _ (.cons (.for _ _ b) _)=>b
 |x=>x
theorem zgT (k:Nat){p0 p1:PV}(hp1:p1=.bl AD){st:Store}:∀(l:List (PV×PV)) (p2 p3:Option PV),(∀x∈l,∀s,yc T k zt [x.1,x.2,.bl AD] s=.ok (.bl AC) s) ->
  ∃q2 q3,ya8 (yc T k) (.t [2,3]) hfB (l.map λx=>.tp AD [x.1,x.2]) [AA p0,AA p1,p2,p3] st=.nx [AA p0,AA p1,q2,q3] st
 | [],p2,p3,_=>⟨p2,p3,zH⟩
 | (a,b)::l,p2,p3,h=>by
  subst hp1
  obtain⟨q2,q3,e⟩:=zgT k (p0:=p0) rfl (st:=st) l (AA a) (AA b) (λx hx=>h x (by simp[hx]))
  refine⟨q2,q3,?_⟩
  have e1:=h (a,b) (by simp) st
  have one:exs (yc T k) [AA p0,AA (.bl AD),AA a,AA b] st hfB=.nx [AA p0,AA (.bl AD),AA a,AA b] st:=by
   simp only at e1
   simp! [hfB,yL,e1]
  rw[AM,zA (ρ1:=[AA p0,AA (.bl AD),AA a,AA b]) rfl,one]
  exact e
theorem zgP (k:Nat){nm:AR}{ops:List PV}(ho:noLocs ops=AC)(hl:0<(.str nm::ops:List PV).length)(hd:ycs z6 (.str nm)=AA (.bl AC))(s:Store):yc T (k+1) zb6 [.tp AD (.str nm::ops)] s=.ok (.bl AC) s:=by
 have hT:T zb6=AA zbd:=rfl
 have hnl:noLocs [.tp AD (.str nm::ops)]=true:=by simp[noLocs,noLoc,ho]
 have e1:ya0 (.tp AD (.str nm::ops)) [.tuple]=AA (.bl AC):=rfl
 have e2:∀st,yay .len st [.tp AD (.str nm::ops)]=AA (.int ((.str nm::ops:List PV).length:Nat)):=λ_=>rfl
 have e3:∀st,idxV st (.tp AD (.str nm::ops)) (.int 0)=AA (.str nm):=λ_=>ix0
 have e4:ya0 (.str nm) [.str]=AA (.bl AC):=rfl
 have c:decide (((.str nm::ops:List PV).length:Int) > 0)=true:=decide_eq_true (by omega)
 rw[zc hT rfl rfl hnl]
 generalize (PV.str nm::ops).length=L at *
 generalize PV.tp AD (.str nm::ops)=v at *
 simp! [zbd,e1,e2,e3,e4,c,hd,IC.ve29]
 rfl
theorem zf5:∀l:List (PV×PV),yaY (l.map (·.1)) (l.map (·.2))=l.map λx=>.tp AD [x.1,x.2]
 | []=>rfl
 | (a,b)::l=>by simp only[AM,yaY,zf5 l,PV.tup]
noncomputable def hfE:Ce:=match yL.body with
 | .cons _ (.cons _ (.cons (.ret e) _))=>e
 |_=>.nope
theorem zgL (k:Nat){nm:AR}(l:List (PV×PV))(hd:ycs z6 (.str nm)=AA (.bl AC))(hr:ycx z6 (.str nm)=AA (.tp AC (l.map (·.1))))(ho:∀x∈l,∀s,yc T (k+1) zt [x.1,x.2,.bl AD] s=.ok (.bl AC) s)(hnl:noLocs (l.map (·.2))=AC)
  (ht:∀q2 q3 st,ev (yc T (k+1)) [AA (.tp AD (.str nm::l.map (·.2))),AA (.bl AD),q2,q3] st hfE=.ok (.bl AC) st) (s:Store):yc T (k+2) zb1 [.tp AD (.str nm::l.map (·.2)),.bl AD] s=.ok (.bl AC) s:=by
 have hT:T zb1=AA yL:=rfl
 have hn2:noLocs [.tp AD (.str nm::l.map (·.2)),.bl AD]=true:=by simp[noLocs,noLoc,hnl]
 have e0:∀st,yc T (k+1) zb6 [.tp AD (.str nm::l.map (·.2))] st=.ok (.bl AC) st:=λst=>zgP k hnl (by simp) hd st
 have e1:∀st,yay .len st [.tp AD (.str nm::l.map (·.2))]=AA (.int ((l.length+1:Nat):Int)):=λst=>by
  show AA (PV.int (((PV.str nm::l.map (·.2)).length:Nat):Int))=_
  simp
 have e2:∀st,idxV st (.tp AD (.str nm::l.map (·.2))) (.int 0)=AA (.str nm):=λ_=>ix0
 have e3:∀st,yay .len st [.tp AC (l.map (·.1))]=AA (.int (l.length:Nat)):=λst=>by
  show AA (PV.int (((l.map (·.1)).length:Nat):Int))=_
  simp
 have c1:((((l.length+1:Nat):Int) == (l.length:Int)+1):Bool)=true:=by simp
 have o1:yb1 (.int 1)=AA (AA 1):=rfl
 have e5:ycm (.tp AD (.str nm::l.map (·.2))) (AA 1) .non=AA (.tp AD (l.map (·.2))):=by
  have hc:ybo (l.length+1) 1=1:=by simp[ybo]
  simp only[ycm,yb1,ycA,cut,ycS,yc6,A0,Ap,hc,List.drop_succ_cons,G9]
  first
  | (rw[DM (by simp)];done)
  | (simp;done)
  | (simp[DM])
 have e6:ydU (.tp AC (l.map (·.1))) (.tp AD (l.map (·.2)))=AA (l.map λx=>.tp AD [x.1,x.2]):=by
  simp[ydU,zf5]
 obtain⟨q2,q3,e7⟩:=zgT (k+1) (p0:=.tp AD (.str nm::l.map (·.2))) (p1:=.bl AD) rfl (st:=[]) l AE AE ho
 have hb:yL.body=(match yL.body with
  | .cons a (.cons (.for t i _) (.cons _ r))=>.cons a (.cons (.for t i hfB) (.cons (.ret hfE) r))
  |x=>x):=rfl
 rw[zc hT rfl rfl hn2]
 rw[hb]
 generalize hfE=E at *
 generalize hv:PV.tp AD (.str nm::l.map (·.2))=v at *
 generalize hz:(l.map λx=>PV.tp AD [x.1,x.2])=zs at *
 generalize PV.tp AC (l.map (·.1))=ks at *
 simp! [yL,e0,e1,e2,hr,e3,c1,e5,e6,e7,ht,o1,onP]
 rfl
def yS (x:Cel):Prop:=97<=x.1/\x.1<=122/\0<=x.2/\x.2<=99
def yaN:Rw->Prop
 | .mark d=>0<=d/\d<=1
 | .ask x=>yS x
 | .set t d=>yS t/\0<=d/\d<=1
 | .move t x | .bare t x | .twice t x | .half t x=>yS t/\yS x
 | .sum t x y | .less t x y | .both t x y | .any t x y | .odd t x y=>yS t/\yS x/\yS y
 | .times a b x y=>yS a/\yS b/\yS x/\yS y/\yE .ne (yu a) (yu b)=AA (.bl AC)
theorem zei {r:PV}{nm:AR}(l:List (PV×PV))(hr:r=.tp AD (.str nm::l.map (·.2)))(hd:ycs z6 (.str nm)=AA (.bl AC))(hx:ycx z6 (.str nm)=AA (.tp AC (l.map (·.1))))(ho:∀x∈l,∀k s,yc T (k+5) zt [x.1,x.2,.bl AD] s=.ok (.bl AC) s)(hnl:noLocs (l.map (·.2))=AC)
  (ht:∀k q2 q3 st,ev (yc T k) [AA r,AA (.bl AD),q2,q3] st hfE=.ok (.bl AC) st):ybx r:=λk s=>by
 have hT:T za6=AA zcf:=rfl
 have e:∀s,yc T (9+k) zb1 [r,.bl AD] s=.ok (.bl AC) s:=λs=>by
  subst hr
  rw[show 9+k=7+k+2 by omega]
  exact zgL (7+k) l hd hx (λx hx s=>by rw[show 7+k+1=3+k+5 by omega];exact ho x hx (3+k) s) hnl (ht _) s
 have hn2:noLocs [r]=true:=by subst hr;simp[noLocs,noLoc,hnl]
 rw[show 10+k=9+k+1 by omega,zc hT rfl rfl hn2]
 simp! [zcf,e]
 rfl
theorem zbH {r:PV}{nm:AR}(l:List (PV×PV))(hr:r=.tp AD (.str nm::l.map (·.2)))(hd:ycs z6 (.str nm)=AA (.bl AC))(hx:ycx z6 (.str nm)=AA (.tp AC (l.map (·.1))))(ho:∀x∈l,∀k s,yc T (k+5) zt [x.1,x.2,.bl AD] s=.ok (.bl AC) s)(hnl:noLocs (l.map (·.2))=AC)
  (ht:yE .ne (.str nm) (.str "times")=AA (.bl AC)):ybx r:=zei l hr hd hx ho hnl λk q2 q3 st=>by
 subst hr
 have e2:∀st,idxV st (.tp AD (.str nm::l.map (·.2))) (.int 0)=AA (.str nm):=λ_=>ix0
 simp! [hfE,yL,e2,ht]
theorem oC {x:Cel}(h:yS x)(k:Nat)(s:Store):yc T (k+5) zt [kC,yu x,.bl AD] s=.ok (.bl AC) s:=zkv k h.1 h.2.1 h.2.2.1 h.2.2.2 s
theorem ygx {nm:AR}{x:Cel}(h:yS x)(hd:ycs z6 (.str nm)=AA (.bl AC))(hx:ycx z6 (.str nm)=AA (.tp AC [kC]))(ht:yE .ne (.str nm) (.str "times")=AA (.bl AC)):ybx (.tp AD [.str nm,yu x]) :=
 zbH [(kC,yu x)] rfl hd hx (λa ha=>by simp only[AU,Aa,or_false]at ha;subst ha;exact oC h) rfl ht
theorem row2 {nm:AR}{t x:Cel}(h0:yS t)(h:yS x)(hd:ycs z6 (.str nm)=AA (.bl AC))(hx:ycx z6 (.str nm)=AA (.tp AC [kC,kC]))(ht:yE .ne (.str nm) (.str "times")=AA (.bl AC)):ybx (.tp AD [.str nm,yu t,yu x]) :=
 zbH [(kC,yu t),(kC,yu x)] rfl hd hx (λa ha=>by simp only[AU,Aa,or_false]at ha;rcases ha with rfl|rfl;exact oC h0;exact oC h) rfl ht
theorem ydk {nm:AR}{t x y:Cel}(h0:yS t)(h:yS x)(h2:yS y)(hd:ycs z6 (.str nm)=AA (.bl AC))(hx:ycx z6 (.str nm)=AA (.tp AC [kC,kC,kC]))(ht:yE .ne (.str nm) (.str "times")=AA (.bl AC)):ybx (.tp AD [.str nm,yu t,yu x,yu y]) :=
 zbH [(kC,yu t),(kC,yu x),(kC,yu y)] rfl hd hx (λa ha=>by simp only[AU,Aa,or_false]at ha;rcases ha with rfl|rfl|rfl;exact oC h0;exact oC h;exact oC h2) rfl ht
theorem zfV:∀r,yaN r->ybx (yO r)
 | .mark d,h=>zbH [(kF,.int d)] rfl (by ac_rfl) (by ac_rfl) (λa ha=>by simp only[AU,Aa,or_false]at ha;subst ha;exact λk s=>zjZ k h.1 h.2 s) rfl (by ac_rfl)
 | .ask x,h=>ygx h (by ac_rfl) (by ac_rfl) (by ac_rfl)
 | .set t d,h=>zbH [(kC,yu t),(kF,.int d)] rfl (by ac_rfl) (by ac_rfl) (λa ha=>by simp only[AU,Aa,or_false]at ha;rcases ha with rfl|rfl;exact oC h.1;exact λk s=>zjZ k h.2.1 h.2.2 s) rfl (by ac_rfl)
 | .move t x,h=>row2 h.1 h.2 (by ac_rfl) (by ac_rfl) (by ac_rfl)
 | .bare t x,h=>row2 h.1 h.2 (by ac_rfl) (by ac_rfl) (by ac_rfl)
 | .twice t x,h=>row2 h.1 h.2 (by ac_rfl) (by ac_rfl) (by ac_rfl)
 | .half t x,h=>row2 h.1 h.2 (by ac_rfl) (by ac_rfl) (by ac_rfl)
 | .sum t x y,h=>ydk h.1 h.2.1 h.2.2 (by ac_rfl) (by ac_rfl) (by ac_rfl)
 | .less t x y,h=>ydk h.1 h.2.1 h.2.2 (by ac_rfl) (by ac_rfl) (by ac_rfl)
 | .both t x y,h=>ydk h.1 h.2.1 h.2.2 (by ac_rfl) (by ac_rfl) (by ac_rfl)
 | .any t x y,h=>ydk h.1 h.2.1 h.2.2 (by ac_rfl) (by ac_rfl) (by ac_rfl)
 | .odd t x y,h=>ydk h.1 h.2.1 h.2.2 (by ac_rfl) (by ac_rfl) (by ac_rfl)
 | .times a b x y,h=>zei [(kC,yu a),(kC,yu b),(kC,yu x),(kC,yu y)] rfl (by ac_rfl) (by ac_rfl) (λz hz=>by simp only[AU,Aa,or_false]at hz;rcases hz with rfl|rfl|rfl|rfl;exact oC h.1;exact oC h.2.1;exact oC h.2.2.1;exact oC h.2.2.2.1) rfl λk q2 q3 st=>by
  have q:yE .ne (.str "times") (.str "times")=AA (.bl AD):=by ac_rfl
  have h:=h.2.2.2.2
  simp only[yO]
  generalize yu a=ca at *
  generalize yu b=cb at *
  simp! [hfE,yL,ix0,ix1,ix2,q,h]
theorem zkZ {v:PV}(hn:noLoc v=AC)(h:ybx v)(k:Nat)(s:Store):yc T (11+k) zW [v] s=.ok .non s:=by
 have hT:T zW=AA zae:=rfl
 have e:=λs=>h k s
 rw[show 11+k=10+k+1 by omega,zc hT rfl rfl (by simp[noLocs,hn])]
 simp! [zae,e]
 rfl
def Good (w:Nat)(M:Mem)(k:Int):Prop:=(∀c i,0<=M c i/\M c i<2^w)/\0<=k/\k<=1
noncomputable def okD:Rw->Prop
 | .mark d=>0<=d/\d<=1
 | .set _ d=>0<=d/\d<=1
 |_=>True
theorem z4 {w:Nat}{M:Mem}(h:∀c i,0<=M c i/\M c i<2^w)(t:Cel){v:Int}(v0:0<=v)(v1:v<2^w):∀c i,0<=wr M t v c i/\wr M t v c i<2^w:=by
 intro c i
 unfold wr upd
 split
 .exact⟨v0,v1⟩
 .exact h c i
theorem zet {w:Nat}(hw:1<=w){M:Mem}{k:Int}(h:Good w M k){r:Rw}(hd:okD r):Good w (stepM (2^w) M k r).1 (stepM (2^w) M k r).2:=by
 obtain⟨g,k0,k1⟩:=h
 have hW2:(2:Int)<=2^w:=by
  have h:(2:Nat)^1<=2^w:=Aq (by omega) hw
  have h2:=pw w
  omega
 have hW0:(2:Int)^w≠0:=by omega
 have hWp:(0:Int)<2^w:=by omega
 have md:∀z:Int,0<=z%2^w/\z%2^w<2^w:=λz=>⟨BA _ hW0,Aj _ hWp⟩
 have dv:∀z:Int,0<=z->z<2*2^w->0<=z / 2^w/\z / 2^w<=1:=λz z0 z1=>⟨Bo z0 (by omega),by
  have:=BY hWp (a:=z) (b:=2) (by omega)
  omega⟩
 cases r with
 |mark d=>exact⟨g,hd⟩
 |ask x=>exact⟨g,zkd _⟩
 |set t d=>exact⟨z4 g t hd.1 (by have:=hd.2;omega),k0,k1⟩
 |move t x=>exact⟨z4 g t (g _ _).1 (g _ _).2,k0,k1⟩
 |bare t x =>
  have:=g x.1 x.2
  exact⟨z4 g t (by simp only[rd];omega) (by simp only[rd];omega),k0,k1⟩
 |twice t x =>
  have:=g x.1 x.2
  exact⟨z4 g t (md _).1 (md _).2,dv _ (by simp only[rd];omega) (by simp only[rd];omega)⟩
 |half t x =>
  have:=g x.1 x.2
  have hH:(2:Int)^w=2*(2^w / 2):=by
   obtain⟨v,rfl⟩:∃v,w=v+1:=⟨w - 1,by omega⟩
   rw[Am];omega
  have hk:k*(2^w / 2)=0 \/ k*((2:Int)^w / 2)=2^w / 2:=by
   rcases (by omega:k=0 \/ k=1)with rfl|rfl
   .left;omega
   .right;omega
  refine⟨z4 g t ?_ ?_,?_,?_⟩
  .simp only[rd];omega
  .simp only[rd];omega
  .simp only[stepM,rd];omega
  .simp only[stepM,rd];omega
 |sum t x y =>
  have:=g x.1 x.2
  have:=g y.1 y.2
  exact⟨z4 g t (md _).1 (md _).2,dv _ (by simp only[rd];omega) (by simp only[rd];omega)⟩
 |less t x y=>exact⟨z4 g t (md _).1 (md _).2,zkd _⟩
 |both t x y =>
  have h:=zn6 (w:=w) (g x.1 x.2).1 (g y.1 y.2).1 (g y.1 y.2).2
  exact⟨z4 g t h.1 h.2,k0,k1⟩
 |any t x y =>
  have h:=zmb (w:=w) (g x.1 x.2).1 (g x.1 x.2).2 (g y.1 y.2).1 (g y.1 y.2).2
  exact⟨z4 g t h.1 h.2,k0,k1⟩
 |odd t x y =>
  have h:=zmk (w:=w) (g x.1 x.2).1 (g x.1 x.2).2 (g y.1 y.2).1 (g y.1 y.2).2
  exact⟨z4 g t h.1 h.2,k0,k1⟩
 |times l t x y =>
  have a:=g x.1 x.2
  have b:=g y.1 y.2
  have p0:0<=M x.1 x.2*M y.1 y.2:=CQ a.1 b.1
  have p1:M x.1 x.2*M y.1 y.2<2^w*2^w:=by
   rcases (by omega:M x.1 x.2=0 \/ 0<M x.1 x.2)with z|z
   .rw[z,DR];exact Int.mul_pos hWp hWp
   .exact Int.lt_of_lt_of_le (Int.mul_lt_mul_of_pos_left b.2 z) (BT (by omega) (by omega))
  refine⟨z4 (z4 g l (md _).1 (md _).2) t ?_ ?_,k0,k1⟩
  .exact Bo p0 (by omega)
  .exact BY hWp p1
theorem zea {w:Nat}(hw:1<=w):∀(rs:List Rw) {M:Mem} {k:Int},Good w M k->(∀r∈rs,okD r)->Good w (yQ (2^w) rs M k).1 (yQ (2^w) rs M k).2
 | [],_,_,h,_=>h
 |r::rs,_,_,h,hd=>zea hw rs (zet hw h (hd r Ai)) λq hq=>hd q (AS _ hq)
theorem zcI {w:Nat}{c:Nat}:∀(vs:List Int) (i:Nat) (M:Mem),(∀c i,0<=M c i/\M c i<2^w)->(∀v∈vs,0<=v/\v<2^w)->∀d j,0<=yaw c i vs M d j/\yaw c i vs M d j<2^w
 | [],_,_,h,_=>h
 |v::vs,i,M,h,hv=>by
  rw[yaw]
  refine zcI vs (i+1) _ (λc' j=>?_) λu hu=>hv u (AS _ hu)
  unfold upd
  split
  .exact hv v Ai
  .exact h c' j
theorem zb2 {w:Nat}:∀(n:Nat) (x:Int),∀v∈ye (2^w) n x,0<=v/\v<2^w
 |0,_,v,h=>by cases h
 |n+1,x,v,h=>by
  have hWp:(0:Int)<2^w:=Ad (by omega)
  rw[ye,AU]at h
  rcases h with rfl|h
  .exact⟨BA _ (by omega),Aj _ hWp⟩
  .exact zb2 n _ v h
theorem zdO {w:Nat}(hw:1<=w)(n:Nat)(x y:Int):Good w (yat (2^w) n x y) 0:=by
 have hWp:(0:Int)<2^w:=Ad (by omega)
 exact⟨zcI _ _ _ (zcI _ _ _ (λc i=>⟨HD _,hWp⟩) (zb2 n x)) (zb2 n y),by omega,by omega⟩
def yez (W:Int)(M:Mem):Prop:=∀c i,0<=M c i/\M c i<W
theorem zfq {w:Nat}(hw:1<=w)(hw2:w<=16):∀(rs:List Rw) (M:Mem) (k:Int),(∀r∈rs,okD r)->Good w M k->ybn (2^w) rs M k
 | [],M,k,_,_=>trivial
 |r::rs,M,k,hr,g=>by
  obtain⟨h,k0,k1⟩:=g
  exact⟨⟨λt x _=>⟨(h x.1 x.2).1,(h x.1 x.2).2,k0,by omega⟩,λ_ _ x _ _=>by
   have:=h x.1 x.2
   have p:(2:Nat)^w<=2^16:=Aq (by omega) hw2
   have q:=pw w
   show (M x.1 x.2).natAbs<_
   have:(2:Nat)^16=65536:=rfl
   omega⟩,zfq hw hw2 rs _ _ (λx hx=>hr x (by simp[hx])) (zet hw ⟨h,k0,k1⟩ (hr r (by simp)))⟩
theorem zfN {W:Int}(M:Mem)(k:Int)(f:Int->Rw)(g:Int->Int)(hf:∀(M1:Mem) (i:Int),(∀d j,d≠99->M1 d j=M d j)->stepM W M1 k (f i)=(wr M1 (99,i) (g i),k)):∀n:Nat,
  (yQ W (yN f n) M k).2=k/\(∀d j,d≠99->(yQ W (yN f n) M k).1 d j=M d j)/\∀i:Nat,i<n->(yQ W (yN f n) M k).1 99 i=g i
 |0=>⟨rfl,λ_ _ _=>rfl,λi hi=>by omega⟩
 |n+1=>by
  obtain⟨h1,h2,h3⟩:=zfN M k f g hf n
  rw[yN,zU]
  generalize yQ W (yN f n) M k=R at *
  obtain⟨M1,k'⟩:=R
  simp only at *
  subst h1
  simp only[yQ,hf M1 n h2]
  refine⟨trivial,λd j hd=>?_,λi hi=>?_⟩
  .simp only[wr,upd];rw[if_neg (by omega),h2 d j hd]
  .simp only[wr,upd]
   by_cases hin:i=n
   .subst hin;rw[if_pos ⟨trivial,rfl⟩]
   .rw[if_neg (by omega)];exact h3 i (by omega)
def yU (n:Nat):List Rw:=yN (λi=>.move (99,i) (97,i)) n
noncomputable def yq (body:List Rw):Nat->List Rw
 |0=>[]
 |s+1=>yq body s++body
def twiceRows (n:Nat):List Rw:=yN (λj=>.twice (99,j) (99,j)) n
def yF (n:Nat):List Rw:=yN (λj=>.half (99,(n:Int) - 1 - j) (99,(n:Int) - 1 - j)) n
def yaM (n:Nat):Rw:=.twice cT (99,(n:Int) - 1)
def ybP (s n:Nat):List Rw:=yU n++yq (.mark 0::twiceRows n) s++[.sum (109,0) cZ cZ]++yJ n
def ybs (s n:Nat):List Rw:=yU n++yq (.mark 0::yF n) s++[.sum (109,0) cZ cZ]++yJ n
def ybI (s n:Nat):List Rw:=yU n++yq (yaM n::yF n) s++[.sum (109,0) cZ cZ]++yJ n
def ybg (s n:Nat):List Rw:=yU n++yq (yaM n::twiceRows n) s++yJ n
theorem zdi {W:Int}(hW:2<=W)(M:Mem)(k:Int)(k0:0<=k)(k1:k<=1):∀n,Dg W M 99 n ->
  (∀d j,(d≠99 \/ (n:Int)<=j)->(yQ W (twiceRows n) M k).1 d j=M d j)/\Dg W (yQ W (twiceRows n) M k).1 99 n/\0<=(yQ W (twiceRows n) M k).2/\(yQ W (twiceRows n) M k).2<=1/\yH W (yQ W (twiceRows n) M k).1 99 n+(yQ W (twiceRows n) M k).2*W^n=2*yH W M 99 n+k
 |0,_=>⟨λ_ _ _=>rfl,λi hi=>by omega,k0,k1,by simp[yH,twiceRows,yN,yQ]⟩
 |n+1,ha=>by
  obtain⟨h1,h2,h3,h4,h5⟩:=zdi hW M k k0 k1 n ha.mono
  have e:twiceRows (n+1)=twiceRows n++[.twice (99,n) (99,n)]:=rfl
  rw[e,zU]
  generalize yQ W (twiceRows n) M k=R at *
  obtain⟨M1,k'⟩:=R
  simp only at *
  obtain⟨a0,a1⟩:=ha n (by omega)
  simp only[yQ,stepM,rd,wr,h1 99 n (.inr (by omega))]
  generalize hA:M 99 (n:Int)=A at *
  have hW0:0<W:=by omega
  have d1:=BA (2*A+k') (show W≠0 by omega)
  have d2:=Aj (2*A+k') hW0
  have d3:=BJ (2*A+k') W
  have d4:0<=(2*A+k') / W:=Bo (by omega) (by omega)
  have d5:(2*A+k') / W<2:=BY hW0 (by omega)
  refine⟨λd j hd=>?_,λi hi=>?_,d4,by omega,?_⟩
  .unfold upd
   rw[if_neg (by omega),h1 d j (by omega)]
  .unfold upd
   by_cases hin:i=n
   .subst hin;rw[if_pos ⟨rfl,rfl⟩];exact⟨d1,d2⟩
   .rw[if_neg (by omega)];exact h2 i (by omega)
  .have hv:yH W (upd M1 99 (n:Int) ((2*A+k')%W)) 99 (n+1)=yH W M1 99 n+(2*A+k')%W*W^n:=by
    rw[yH,zn (M':=M1) (c':=99) n λi hi=>by unfold upd;rw[if_neg (by omega)]]
    unfold upd
    rw[if_pos ⟨rfl,rfl⟩]
   rw[hv,yH,hA,Am]
   generalize W^n=P at *
   generalize (2*A+k')%W=r at *
   generalize (2*A+k') / W=q at *
   have e2:r=2*A+k' - W*q:=by omega
   subst e2
   have e3:(2*A+k' - W*q)*P+q*(P*W)=2*(A*P)+k' * P:=by
    rw[Cm,Bu,A8 W q,BD q W P,A8 W P,BD 2 A P]
    omega
   generalize (2*A+k' - W*q)*P=X1 at *
   generalize q*(P*W)=X2 at *
   omega
theorem zb9 (f:Int->Rw):∀n:Nat,yN f (n+1)=f 0::yN (λj=>f (j+1)) n
 |0=>rfl
 |n+1=>by
  rw[yN,zb9 f n,yN,Ay]
  rfl
theorem zew {H:Int}(hH:1<=H):∀(n:Nat) (M:Mem) (k:Int),0<=k->k<=1->Dg (2*H) M 99 n ->
  (∀d j,(d≠99 \/ (n:Int)<=j)->(yQ (2*H) (yF n) M k).1 d j=M d j)/\Dg (2*H) (yQ (2*H) (yF n) M k).1 99 n/\0<=(yQ (2*H) (yF n) M k).2/\(yQ (2*H) (yF n) M k).2<=1/\2*yH (2*H) (yQ (2*H) (yF n) M k).1 99 n+(yQ (2*H) (yF n) M k).2=yH (2*H) M 99 n+k*(2*H)^n
 |0,M,k,k0,k1,_=>⟨λ_ _ _=>rfl,λi hi=>by omega,k0,k1,by simp[yH,yF,yN,yQ]⟩
 |n+1,M,k,k0,k1,ha=>by
  have e:yF (n+1)=.half (99,n) (99,n)::yF n:=by
   unfold yF
   rw[zb9]
   congr 1
   .rw[show ((n+1:Nat):Int) - 1 - 0=n by omega]
   .congr 1
    funext j
    rw[show ((n+1:Nat):Int) - 1 - (j+1)=(n:Int) - 1 - j by omega]
  obtain⟨a0,a1⟩:=ha n (by omega)
  rw[e,zcZ]
  simp only[stepM,rd,wr]
  rw[show 2*H / 2=H by omega]
  generalize hA:M 99 (n:Int)=A at *
  have q0:0<=A / 2:=by omega
  have hkH:k*H=0 \/ k*H=H:=by
   rcases (by omega:k=0 \/ k=1)with rfl|rfl
   .left;omega
   .right;omega
  have hM:∀i:Nat,i<n->upd M 99 (n:Int) (A / 2+k*H) 99 i=M 99 i:=λi hi=>by unfold upd;rw[if_neg (by omega)]
  obtain⟨h1,h2,h3,h4,h5⟩:=zew hH n (upd M 99 (n:Int) (A / 2+k*H)) (A%2) (by omega) (by omega) (λi hi=>by rw[hM i hi];exact ha i (by omega))
  generalize yQ (2*H) (yF n) (upd M 99 (n:Int) (A / 2+k*H)) (A%2)=R at *
  obtain⟨M1,k'⟩:=R
  simp only at *
  have hn1:M1 99 n=A / 2+k*H:=by
   rw[h1 99 n (.inr (by omega))];unfold upd;rw[if_pos ⟨rfl,rfl⟩]
  refine⟨λd j hd=>?_,λi hi=>?_,h3,h4,?_⟩
  .rw[h1 d j (by omega)];unfold upd;rw[if_neg (by omega)]
  .by_cases hin:i=n
   .subst hin;rw[hn1];omega
   .exact h2 i (by omega)
  .rw[zn (M':=M) (c':=99) n hM]at h5
   rw[yH,yH,hn1,hA,Am]
   generalize (2*H)^n=P at *
   have e1:A*P=A%2*P+2*(A / 2*P):=by
    have:A=A%2+2*(A / 2):=by omega
    conv=>lhs;rw[this]
    rw[Bu,BD]
   have e2:(A / 2+k*H)*P=A / 2*P+k*(H*P):=by rw[Bu,BD]
   have e3:k*(P*(2*H))=2*(k*(H*P)):=by
    rw[A8 P,BD 2 H P,<- BD k 2,A8 k 2,BD]
   rw[e1,e2,e3]
   generalize A%2*P=X1 at *
   generalize A / 2*P=X2 at *
   generalize k*(H*P)=X3 at *
   omega
structure Shf (W:Int)(n:Nat)(M0 M:Mem)(v:Int):Prop where
 dg:Dg W M 99 n
 val:yH W M 99 n=v
 keep:∀d j,d≠99->d≠116->M d j=M0 d j
theorem zjg {W:Int}(hW:0<W){n:Nat}{x y:Int}(x0:0<=x)(x1:x<W^n):(yQ W (yU n) (yat W n x y) 0).2=0/\Shf W n (yat W n x y) (yQ W (yU n) (yat W n x y) 0).1 x:=by
 have da:=zj7 n x y hW
 obtain⟨h1,h2,h3⟩:=zfN (W:=W) (yat W n x y) 0 (λi=>.move (99,i) (97,i)) (λi=>yat W n x y 97 i) (λM1 i h=>by simp only[stepM,rd,h 97 i (by decide)]) n
 refine⟨h1,⟨λi hi=>?_,?_,λd j hd _=>h2 d j hd⟩⟩
 .have:=h3 i hi
  unfold yU
  rw[this];exact da i hi
 .exact(zn (M':=yat W n x y) (c':=97) n λi hi=>h3 i hi).trans (zio n x y hW x0 x1)
noncomputable def cx (l:Nat)(c i j m:Int):Op:=.cel ⟨l,c,i,j,m⟩
noncomputable def rS (nm:String)(ops:List Op):Rs:=⟨AF nm,ops⟩
def oZ:Op:=cx 122 0 0 0 0
def oS:Op:=cx 115 0 0 0 0
def oT:Op:=cx 116 0 0 0 0
def oM (i:Int):Op:=cx 109 i 0 0 0
def ya1 (c m:Int):List T1:=[.row (rS "set" [oS,.fig 0]),.rounds c m 0 [.row (rS "any" [oS,oS,cx 99 0 1 0 0])],.row (rS "ask" [oS]),.row (rS "set" [oM 2,.fig 1]),.row (rS "less" [oM 2,oM 2,oZ]),.row (rS "twice" [oT,cx 99 (c - 1) 0 0 m]),.row (rS "sum" [oM 3,oZ,oZ])]
def ya4:T1:=.rounds 0 1 0 [.row (rS "move" [cx 99 0 1 0 0,cx 97 0 1 0 0])]
def twiceT:T2:=.rounds 0 1 0 [rS "twice" [cx 99 0 0 1 0,cx 99 0 0 1 0]]
def ybt:T2:=.rounds 0 1 0 [rS "half" [cx 99 (-1) 0 (-1) 1,cx 99 (-1) 0 (-1) 1]]
def yaL:T2:=.row (rS "mark" [.fig 0])
def ycz:T2:=.row (rS "twice" [oT,cx 99 (-1) 0 0 1])
def yaX:T1:=.row (rS "sum" [oM 0,oZ,oZ])
def yci (s:Int):List T1:=[ya4,.rounds s 0 0 [yaL,twiceT],yaX]++ya1 0 1
def ybR (s:Int):List T1:=[ya4,.rounds s 0 0 [yaL,ybt],yaX]++ya1 0 1
def ycp (s:Int):List T1:=[ya4,.rounds s 0 0 [ycz,ybt],yaX]++ya1 0 1
def ybS (s:Int):List T1:=[ya4,.rounds s 0 0 [ycz,twiceT]]++ya1 0 1
theorem zav {g:Nat->List PV}{f:Int->Rw}(h:∀I:Nat,g I=[yO (f I)]):∀n,upTo g n=(yN f n).map yO
 |0=>rfl
 |n+1=>by rw[upTo,yN,zav h n,h n,BL];rfl
theorem zfZ {g:Nat->List PV}{b:List Rw}(h:∀I:Nat,g I=b.map yO):∀s,upTo g s=(yq b s).map yO
 |0=>rfl
 |s+1=>by rw[upTo,yq,zfZ h s,h s,BL]
theorem zaL (w:Int)(n:Nat):cnt 0 1 0 w n=n:=by simp[cnt]
theorem zlp (w:Int)(n s:Nat):cnt s 0 0 w n=s:=by simp[cnt]
theorem zj2 (I:Nat)(n:Int):(rS "any" [oS,oS,cx 99 0 1 0 0]).pv I 0 n=yO (.any cS cS (99,I)):=by simp[Rs.pv,rS,Op.pv,oS,cx,Cx.at,yO,yu]
theorem zeS (w:Int)(n:Nat):yw w n (ya1 0 1)=(yJ n).map yO:=by
 have h:=zav (g:=λI=>yah w n I [.row (rS "any" [oS,oS,cx 99 0 1 0 0])]) (f:=λi=>.any cS cS (99,i)) (λI=>by simp[yah,T2.rows,zj2]) n
 simp only[yw,ya1,BP,B8,T1.rows,zaL,h,yJ,BL,AM,A6,Ah]
 simp[Rs.pv,rS,Op.pv,oS,oT,oZ,oM,cx,Cx.at,yO,yu,Int.sub_eq_add_neg,Dq]
theorem zdM (w:Int)(n:Nat):T1.rows w n ya4=(yU n).map yO:=by
 unfold ya4 yU
 rw[T1.rows,zaL]
 exact zav (λI=>by simp[yah,T2.rows,Rs.pv,rS,Op.pv,cx,Cx.at,yO,yu]) n
theorem zfR (w:Int)(n I:Nat):T2.rows w n I twiceT=(twiceRows n).map yO:=by
 unfold twiceT twiceRows
 rw[T2.rows,zaL]
 exact zav (λJ=>by simp[Rs.pv,rS,Op.pv,cx,Cx.at,yO,yu]) n
theorem zhJ (w:Int)(n I:Nat):T2.rows w n I ybt=(yF n).map yO:=by
 unfold ybt yF
 rw[T2.rows,zaL]
 refine zav (λJ=>?_) n
 have:(-1:Int)+0*(I:Int)+-1*(J:Int)+1*(n:Int)=(n:Int) - 1 - J:=by omega
 simp only[AM,A6,Rs.pv,rS,Op.pv,cx,Cx.at,yO,yu,this]
theorem zhC (w:Int)(n I:Nat):T2.rows w n I yaL=[yO (.mark 0)]:=by simp[yaL,T2.rows,Rs.pv,rS,Op.pv,yO]
theorem zkm (w:Int)(n I:Nat):T2.rows w n I ycz=[yO (yaM n)]:=by
 have:(-1:Int)+0*(I:Int)+0*0+1*(n:Int)=(n:Int) - 1:=by omega
 simp only[ycz,yaM,T2.rows,Rs.pv,rS,Op.pv,oT,cx,Cx.at,yO,yu,AM,A6,this]
 simp
theorem zdW (w:Int)(n:Nat):T1.rows w n yaX=[yO (.sum (109,0) cZ cZ)]:=by simp[yaX,T1.rows,Rs.pv,rS,Op.pv,oM,oZ,cx,Cx.at,yO,yu]
theorem zaA (w n:Int)(a b:List T1):yw w n (a++b)=yw w n a++yw w n b:=by simp[yw]
theorem zd9 (w n:Int)(a b:List T1):yax w n (a++b)=yax w n a+yax w n b:=by simp[yax]
theorem zig (w:Int)(n:Nat):yax w n (ya1 0 1)=n:=by simp[yax,ya1,T1.rnd,zaL,ybe,T2.rnd]
theorem zi1 {w:Int}{n s:Nat}{p q:T2}{r1:Rw}{r2:List Rw}(h1:∀I:Nat,T2.rows w n I p=[yO r1])(h2:∀I:Nat,T2.rows w n I q=r2.map yO):T1.rows w n (.rounds s 0 0 [p,q])=(yq (r1::r2) s).map yO:=by
 rw[T1.rows,zlp]
 exact zfZ (λI=>by simp[yah,h1,h2]) s
theorem zlu (w:Int)(n s:Nat):yw w n (yci s)=(ybP s n).map yO:=by
 rw[yci,zaA,zeS]
 simp only[yw,BP,B8,Ah,zdM,zdW,zi1 (zhC w n) (zfR w n),ybP,BL,AM,A6,Ak]
theorem ziK (w:Int)(n s:Nat):yw w n (ybR s)=(ybs s n).map yO:=by
 rw[ybR,zaA,zeS]
 simp only[yw,BP,B8,Ah,zdM,zdW,zi1 (zhC w n) (zhJ w n),ybs,BL,AM,A6,Ak]
theorem zlj (w:Int)(n s:Nat):yw w n (ycp s)=(ybI s n).map yO:=by
 rw[ycp,zaA,zeS]
 simp only[yw,BP,B8,Ah,zdM,zdW,zi1 (zkm w n) (zhJ w n),ybI,BL,AM,A6,Ak]
theorem zkx (w:Int)(n s:Nat):yw w n (ybS s)=(ybg s n).map yO:=by
 rw[ybS,zaA,zeS]
 simp only[yw,BP,B8,Ah,zdM,zi1 (zkm w n) (zfR w n),ybg,BL,AM,A6,Ak]
theorem zj4 (w:Int)(n s:Nat)(p q:T2)(hp:p=yaL \/ p=ycz)(hq:q=twiceT \/ q=ybt):T1.rnd w n (.rounds s 0 0 [p,q])=s*(1+n):=by
 rcases hp with rfl|rfl <;> rcases hq with rfl|rfl <;> simp[T1.rnd,zlp,ybe,T2.rnd,yaL,ycz,twiceT,ybt,zaL]
theorem zfc (w:Int)(n s:Nat)(p q:T2)(hp:p=yaL \/ p=ycz)(hq:q=twiceT \/ q=ybt):yax w n ([ya4,.rounds s 0 0 [p,q],yaX]++ya1 0 1)=n+s*(1+n)+n:=by
 rw[zd9,zig]
 simp only[yax,AM,A6,F1,Gv,zj4 w n s p q hp hq]
 simp[ya4,yaX,T1.rnd,zaL,ybe,T2.rnd]
theorem zh9 (w:Int)(n s:Nat):yax w n (ybS s)=n+s*(1+n)+n:=by
 rw[ybS,zd9,zig]
 simp only[yax,AM,A6,F1,Gv,zj4 w n s _ _ (.inr rfl) (.inl rfl)]
 simp[ya4,T1.rnd,zaL,ybe,T2.rnd]
theorem zar (f:Int->Rw)(m:Nat):(yN f m).length=m:=by
 induction m with
 |zero=>rfl
 |succ m ih=>simp[yN,ih]
theorem zbK (b:List Rw):∀s,(yq b s).length=s*b.length
 |0=>by simp[yq]
 |s+1=>by rw[yq,A7,zbK b s,Eo]
theorem zmL {n s:Nat}(hn:n<=4)(hs:s<=100)(r1:Rw)(r2:List Rw)(h2:r2.length=n):(yU n++yq (r1::r2) s++[Rw.sum (109,0) cZ cZ]++yJ n).length<=4000/\(yU n++yq (r1::r2) s++yJ n).length<=4000:=by
 have:s*(n+1)<=100*5:=Ax hs (by omega)
 simp[yU,yJ,zar,zbK,h2]
 omega
theorem zfM {w:Nat}(hw:0<w):(2:Int)^w=2*2^(w - 1):=by
 obtain⟨v,rfl⟩:∃v,w=v+1:=⟨w - 1,by omega⟩
 rw[show v+1 - 1=v by omega,Am,A8]
def bS (top:Bool)(P v:Int):Int:=if top=AC/\P<=2*v then 1 else 0
def fS (up top:Bool)(P v:Int):Int:=if up=AC then(2*v+bS top P v)%P else(v+bS top P v*P) / 2
def gS (up top:Bool)(P v:Int):Int:=if up=AC then(2*v+bS top P v) / P else(v+bS top P v*P)%2
def yaE (top:Bool)(n:Nat):Rw:=if top=AC then yaM n else .mark 0
def ybl (up:Bool)(n:Nat):List Rw:=if up=AC then twiceRows n else yF n
noncomputable def it (f:Int->Int):Nat->Int->Int
 |0,x=>x
 |s+1,x=>f (it f s x)
theorem zoy (top:Bool)(P v:Int):0<=bS top P v/\bS top P v<=1:=by unfold bS;split <;> omega
theorem ahead {w:Nat}(hw:1<w){n:Nat}{M0 M:Mem}{k v:Int}(top:Bool)(k0:0<=k)(k1:k<=1)(h:Shf (2^w) (n+1) M0 M v) :
  ∃M1,stepM (2^w) M k (yaE top (n+1))=(M1,bS top ((2^w:Int)^(n+1)) v)/\Shf (2^w) (n+1) M0 M1 v:=by
 cases top with
 |false=>exact⟨M,by simp[yaE,stepM,bS],h⟩
 |true =>
  have hH:=zfM (w:=w) (by omega)
  have hH0:(0:Int)<2^(w - 1):=Ad (by omega)
  have ht:=zku (by omega:0<w) h.dg
  rw[h.val]at ht
  have hm:(2*M 99 n+k) / 2^w=tb w (M 99 n):=by
   unfold tb
   rw[hH,<- B3 (by omega),<- B3 (by omega),show (2*M 99 n+k) / 2=M 99 n by omega,show 2*M 99 n / 2=M 99 n by omega]
  have hst:stepM (2^w) M k (yaM (n+1))=(wr M cT ((2*M 99 n+k)%2^w),if (2^w:Int)^(n+1)<=2*v then 1 else 0):=by
   simp only[yaM,stepM,rd]
   rw[show ((n+1:Nat):Int) - 1=n by omega,hm,ht]
  have g:∀d j,d≠116->wr M cT ((2*M 99 n+k)%2^w) d j=M d j:=λd j hd=>by
   simp only[wr,upd];rw[if_neg (by omega)]
  refine⟨_,by simpa [yaE,bS] using hst,λi hi=>by rw[g 99 i (by decide)];exact h.dg i hi,?_,λd j hd ht=>by rw[g d j ht,h.keep d j hd ht]⟩
  rw[<- h.val];exact zn _ λi hi=>g 99 i (by decide)
theorem zn9 {w:Nat}(hw:1<w){n:Nat}{M0 M:Mem}{k v:Int}(up top:Bool)(k0:0<=k)(k1:k<=1)(h:Shf (2^w) (n+1) M0 M v) :
  ∃M',yQ (2^w) (yaE top (n+1)::ybl up (n+1)) M k=(M',gS up top ((2^w:Int)^(n+1)) v)/\Shf (2^w) (n+1) M0 M' (fS up top ((2^w:Int)^(n+1)) v)/\0<=gS up top ((2^w:Int)^(n+1)) v/\gS up top ((2^w:Int)^(n+1)) v<=1:=by
 have hH:=zfM (w:=w) (by omega)
 have hH0:(0:Int)<2^(w - 1):=Ad (by omega)
 obtain⟨M1,e1,h1⟩:=ahead hw top k0 k1 h
 obtain⟨b0,b1⟩:=zoy top ((2^w:Int)^(n+1)) v
 rw[zcZ,e1]
 simp only
 generalize hb:bS top ((2^w:Int)^(n+1)) v=b at *
 cases up with
 |true =>
  obtain⟨c1,c2,c3,c4,c5⟩:=zdi (W:=2^w) (by omega) M1 b b0 b1 (n+1) h1.dg
  rw[h1.val]at c5
  obtain⟨r0,r1⟩:=zbu (by omega) (n+1) c2
  have hP:(0:Int)<(2^w:Int)^(n+1):=Ad (by omega)
  simp only[ybl,gS,fS,hb,if_true]
  generalize yQ (2^w) (twiceRows (n+1)) M1 b=z at *
  obtain⟨M',k'⟩:=z
  simp only at *
  generalize (2^w:Int)^(n+1)=P at *
  have q1:(2*v+b) / P=k':=by
   rw[<- c5,DS _ _ (by omega),CF r0 r1,Gw]
  have q2:(2*v+b)%P=yH (2^w) M' 99 (n+1):=by
   rw[<- c5,Cc,B0 r0 r1]
  rw[q1,q2]
  exact⟨M',rfl,⟨c2,rfl,λd j hd ht=>by rw[c1 d j (.inl hd),h1.keep d j hd ht]⟩,c3,c4⟩
 |false =>
  have hl:=zew (H:=2^(w - 1)) (by omega) (n+1) M1 b b0 b1
  rw[<- hH]at hl
  obtain⟨c1,c2,c3,c4,c5⟩:=hl h1.dg
  rw[h1.val]at c5
  simp only[ybl,gS,fS,hb,BR,if_false]
  generalize yQ (2^w) (yF (n+1)) M1 b=z at *
  obtain⟨M',k'⟩:=z
  simp only at *
  generalize b*(2^w:Int)^(n+1)=P at *
  rw[show (v+P)%2=k' by omega,show (v+P) / 2=yH (2^w) M' 99 (n+1)by omega]
  exact⟨M',rfl,⟨c2,rfl,λd j hd ht=>by rw[c1 d j (.inl hd),h1.keep d j hd ht]⟩,c3,c4⟩
theorem zfI {w:Nat}(hw:1<w){n:Nat}{M0 M:Mem}{x:Int}(up top:Bool)(h:Shf (2^w) (n+1) M0 M x):∀s:Nat,∃M' k',yQ (2^w) (yq (yaE top (n+1)::ybl up (n+1)) s) M 0=(M',k')/\0<=k'/\k'<=1 /\
  Shf (2^w) (n+1) M0 M' (it (fS up top ((2^w:Int)^(n+1))) s x)/\k'=if s=0 then 0 else gS up top ((2^w:Int)^(n+1)) (it (fS up top ((2^w:Int)^(n+1))) (s - 1) x)
 |0=>⟨M,0,rfl,by omega,by omega,h,rfl⟩
 |s+1=>by
  obtain⟨M1,k1,e1,a0,a1,h1,_⟩:=zfI hw up top h s
  obtain⟨M2,e2,h2,b0,b1⟩:=zn9 hw up top a0 a1 h1
  refine⟨M2,_,?_,b0,b1,h2,by rw[if_neg (by omega)];rfl⟩
  rw[yq,zU,e1];exact e2
def shR (up top:Bool)(s n:Nat):List Rw:=yU n++yq (yaE top n::ybl up n) s++(if (up && top)=AC then []else [.sum (109,0) cZ cZ])++yJ n
noncomputable abbrev cL:Cel:=(108,0)
noncomputable abbrev cHi:Cel:=(104,0)
noncomputable abbrev cO:Cel:=(111,0)
def inR (I J:Nat):List Rw:=[.times cL cHi (97,J) (98,I),.sum cL cL cO,.sum cHi cHi cZ,.sum (99,(I:Int)+J) (99,(I:Int)+J) cL,.sum cO cHi cZ]
def yaB (n I:Nat):List Rw:=.mark 0 :: .set cO 0::(upTo (inR I) n++[.move (99,(I:Int)+n) cO])
def yaG (n:Nat):List Rw:=upTo (yaB n) n
def yal (n:Nat):List Rw:=.set cS 0::(yN (λi=>.any cS cS (99,(n:Int)+i)) n++[.ask cS,.sum (109,1) cZ cZ])
def yP (n:Nat):List Rw:=yaG n++(yal n++yJ (2*n))
theorem znb {w:Nat}(hw:1<=w):(2:Int)<=2^w:=by
 have h:(2:Nat)^1<=2^w:=Aq (by omega) hw
 have h2:=pw w
 omega
theorem ziL {W A B o c:Int}(hW:2<=W)(a0:0<=A)(a1:A<W)(b0:0<=B)(b1:B<W)(o0:0<=o)(o1:o<W)(c0:0<=c)(c1:c<W) :
  (A*B / W+0+(A*B%W+o+0) / W) / W=0/\((A*B / W+0+(A*B%W+o+0) / W)%W+0+(c+(A*B%W+o+0)%W+0) / W) / W=0 /\
  (c+(A*B%W+o+0)%W+0)%W+W*(((A*B / W+0+(A*B%W+o+0) / W)%W+0+(c+(A*B%W+o+0)%W+0) / W)%W)=A*B+o+c:=by
 have hW0:W≠0:=by omega
 have hWp:0<W:=by omega
 have hP:A*B<=(W - 1)*(W - 1):=FJ (by omega) (by omega) b0 (by omega)
 have hP0:0<=A*B:=CQ a0 b0
 have hE:(W - 1)*(W - 1)=W*W - 2*W+1:=by rw[Cm,Int.mul_sub];omega
 have hE2:(W - 1)*W=W*W - W:=by rw[Cm];omega
 generalize A*B=P at *
 have h1:P / W<W - 1:=BY hWp (by omega)
 have h0:0<=P / W:=Bo hP0 (by omega)
 have e1:=BJ P W
 have l0:=BA P hW0
 have l1:=Aj P hWp
 generalize P / W=h at *
 generalize P%W=l at *
 simp only[C7]
 have e2:=BJ (l+o) W
 have k0:0<=(l+o) / W:=Bo (by omega) (by omega)
 have k1:(l+o) / W<2:=BY hWp (by omega)
 have m0:=BA (l+o) hW0
 have m1:=Aj (l+o) hWp
 generalize (l+o) / W=k at *
 generalize (l+o)%W=l2 at *
 have q1:(h+k) / W=0:=CF (by omega) (by omega)
 have q2:(h+k)%W=h+k:=B0 (by omega) (by omega)
 rw[q2]
 have e3:=BJ (c+l2) W
 have j0:0<=(c+l2) / W:=Bo (by omega) (by omega)
 have n0:=BA (c+l2) hW0
 have n1:=Aj (c+l2) hWp
 generalize (c+l2) / W=k3 at *
 generalize (c+l2)%W=c2 at *
 have hT:c2+W*(h+k+k3)=P+o+c:=by
  rw[Cn,Cn];omega
 have hlt:W*(h+k+k3)<W*W:=by omega
 have hlt2:h+k+k3<W:=Int.lt_of_mul_lt_mul_left hlt (by omega)
 refine⟨q1,CF (by omega) hlt2,?_⟩
 rw[B0 (by omega) hlt2]
 exact hT
theorem znH {I J:Nat}:∀r∈inR I J,okD r:=by
 intro r hr
 simp only[inR,AU,Aa,or_false]at hr
 rcases hr with rfl|rfl|rfl|rfl|rfl <;> trivial
theorem zl9 {w:Nat}(hw:1<=w){M:Mem}{I J:Nat}(hg:Good w M 0)(hz:M 122 0=0) :
  ∃M',yQ (2^w) (inR I J) M 0=(M',0)/\Good w M' 0/\M' 99 ((I+J:Nat):Int)+2^w*M' 111 0=M 97 J*M 98 I+M 111 0+M 99 ((I+J:Nat):Int)/\∀d j,d≠108->d≠104->d≠111->(d≠99 \/ j≠((I+J:Nat):Int))->M' d j=M d j:=by
 have hgg:=zea hw (inR I J) hg znH
 have hc:(I:Int)+(J:Int)=((I+J:Nat):Int):=by omega
 obtain⟨s1,s2,s3⟩:=ziL (znb hw) (hg.1 97 J).1 (hg.1 97 J).2 (hg.1 98 I).1 (hg.1 98 I).2 (hg.1 111 0).1 (hg.1 111 0).2 (hg.1 99 ((I+J:Nat):Int)).1 (hg.1 99 ((I+J:Nat):Int)).2
 have hr:(yQ (2^w) (inR I J) M 0).2=0:=by
  simp only[inR,yQ,stepM,rd,wr,upd,cL,cHi,cO,cZ,hc,GQ,false_and,if_false,and_self,if_true,hz,s1,s2]
 refine⟨_,Prod.ext rfl hr,by rw[hr]at hgg;exact hgg,?_,λd j h1 h2 h3 h4=>?_⟩
 .simp only[inR,yQ,stepM,rd,wr,upd,cL,cHi,cO,cZ,hc,GQ,false_and,if_false,and_self,if_true,hz,s1,s2]
  exact s3
 .simp only[inR,yQ,stepM,rd,wr,upd,cL,cHi,cO,cZ,hc,h1,h2,h3,false_and,if_false]
  rw[if_neg (by omega)]
noncomputable def sh (o:Nat)(M:Mem):Mem:=λd i=>M d ((o:Int)+i)
theorem zcx (W:Int)(M:Mem)(c I:Nat):∀n,yH W M c (I+n)=yH W M c I+W^I*yH W (sh I M) c n
 |0=>by simp[yH]
 |n+1=>by
  rw[show I+(n+1)=I+n+1 by omega,yH,zcx W M c I n,yH,Cn,FK]
  have:M c ((I+n:Nat):Int)=sh I M c n:=by unfold sh;congr 1
  rw[this,EW (sh I M c n)]
  rw[Gf]
theorem zgd {M:Mem}{o c:Nat}(n:Nat):sh o M c n=M c ((o+n:Nat):Int):=by unfold sh;congr 1
theorem zim {w:Nat}(hw:1<=w){M:Mem}{I:Nat}(hg:Good w M 0)(hz:M 122 0=0):∀j:Nat,∃M',yQ (2^w) (upTo (inR I) j) M 0=(M',0)/\Good w M' 0/\(∀d (i:Int),d≠108->d≠104->d≠111->(d≠99 \/ i<I \/ (I:Int)+j<=i)->M' d i=M d i) /\
  yH (2^w) (sh I M') 99 j+M' 111 0*(2^w)^j=yH (2^w) (sh I M) 99 j+yH (2^w) M 97 j*M 98 I+M 111 0
 |0=>⟨M,rfl,hg,λ_ _ _ _ _ _=>rfl,by simp[yH]⟩
 |j+1=>by
  obtain⟨M1,e1,g1,o1,v1⟩:=zim hw hg hz j
  obtain⟨M2,e2,g2,s2,o2⟩:=zl9 hw (I:=I) (J:=j) g1 (by rw[o1 122 0 (by decide) (by decide) (by decide) (.inl (by decide))];exact hz)
  refine⟨M2,?_,g2,λd i h1 h2 h3 h4=>?_,?_⟩
  .rw[upTo,zU,e1];exact e2
  .rw[o2 d i h1 h2 h3 (by omega),o1 d i h1 h2 h3 (by omega)]
  .rw[o1 97 j (by decide) (by decide) (by decide) (.inl (by decide)),o1 98 I (by decide) (by decide) (by decide) (.inl (by decide)),o1 99 ((I+j:Nat):Int) (by decide) (by decide) (by decide) (.inr (.inr (by omega)))]at s2
   have hv:yH (2^w) (sh I M2) 99 j=yH (2^w) (sh I M1) 99 j:=zn j λt ht=>by
    rw[zgd,zgd,o2 99 _ (by decide) (by decide) (by decide) (.inr (by omega))]
   rw[yH,yH,yH,zgd,zgd,hv,Am]
   generalize ((2:Int)^w)^j=P at *
   generalize (2:Int)^w=W at *
   have e3:M2 99 ((I+j:Nat):Int)*P+M2 111 0*(P*W)=(M 97 j*M 98 I+M1 111 0+M 99 ((I+j:Nat):Int))*P:=by
    rw[<- s2,Bu,A8 P W,<- BD,A8 (M2 111 0) W]
   rw[Bu,Bu]at e3
   have e4:(yH W M 97 j+M 97 j*P)*M 98 I=yH W M 97 j*M 98 I+M 97 j*M 98 I*P:=by rw[Bu,Fc]
   rw[e4]
   generalize M2 99 ((I+j:Nat):Int)*P=x1 at *
   generalize M2 111 0*(P*W)=x2 at *
   generalize M 97 j*M 98 I*P=x3 at *
   generalize M1 111 0*P=x4 at *
   generalize M 99 ((I+j:Nat):Int)*P=x5 at *
   generalize yH W M 97 j*M 98 I=x6 at *
   omega
theorem znt {w:Nat}(hw:1<=w){M:Mem}{k:Int}{n I:Nat}(hg:Good w M k)(hz:M 122 0=0):∃M',yQ (2^w) (yaB n I) M k=(M',0)/\Good w M' 0/\(∀d (i:Int),d≠108->d≠104->d≠111->d≠99->M' d i=M d i) /\
  yH (2^w) M' 99 (n+I+1)=yH (2^w) M 99 (n+I)+yH (2^w) M 97 n*(M 98 I*(2^w)^I):=by
 have hW0:=znb hw
 have g1:Good w (wr M cO 0) 0:=⟨z4 hg.1 cO (by omega) (by omega),by omega,by omega⟩
 have q1:∀d j,d≠111->wr M cO 0 d j=M d j:=λd j h=>by simp only[wr,upd,cO,h,false_and,if_false]
 have q2:wr M cO 0 111 0=0:=by simp[wr,upd]
 have hst:yQ (2^w) (yaB n I) M k=yQ (2^w) (upTo (inR I) n++[.move (99,(I:Int)+n) cO]) (wr M cO 0) 0:=rfl
 generalize wr M cO 0=M1 at *
 obtain⟨M2,e2,g2,o2,v2⟩:=zim hw (I:=I) g1 (by rw[q1 122 0 (by decide)];exact hz) n
 have hmv:yQ (2^w) [.move (99,(I:Int)+n) cO] M2 0=(wr M2 (99,(I:Int)+n) (M2 111 0),0):=rfl
 rw[hst,zU,e2]
 refine⟨_,hmv,⟨z4 g2.1 _ (g2.1 _ _).1 (g2.1 _ _).2,by omega,by omega⟩,λd i h1 h2 h3 h4=>?_,?_⟩
 .simp only[wr,upd,h4,false_and,if_false]
  rw[o2 d i h1 h2 h3 (.inl h4),q1 d i h3]
 .have hlow:∀i:Nat,i<n+I->wr M2 (99,(I:Int)+n) (M2 111 0) 99 i=M2 99 i:=λi hi=>by
   simp only[wr,upd];rw[if_neg (by omega)]
  have htop:wr M2 (99,(I:Int)+n) (M2 111 0) 99 ((n+I:Nat):Int)=M2 111 0:=by
   simp only[wr,upd];rw[if_pos ⟨trivial,by omega⟩]
  rw[yH,zn (M':=M2) (c':=99) _ hlow,htop,Nat.add_comm n I,zcx,zcx (2^w) M,FK]
  have hv1:yH (2^w) M2 99 I=yH (2^w) M 99 I:=zn I λi hi=>by
   rw[o2 99 i (by decide) (by decide) (by decide) (.inr (.inl (by omega))),q1 99 i (by decide)]
  have hv2:yH (2^w) (sh I M1) 99 n=yH (2^w) (sh I M) 99 n:=zn n λi hi=>by
   rw[zgd,zgd,q1 99 _ (by decide)]
  have hv3:yH (2^w) M1 97 n=yH (2^w) M 97 n:=zn n λi hi=>q1 97 i (by decide)
  rw[hv2,hv3,q1 98 I (by decide),q2,C7]at v2
  rw[hv1]
  generalize ((2:Int)^w)^I=P at *
  generalize ((2:Int)^w)^n=N at *
  generalize yH (2^w) (sh I M2) 99 n=x1 at *
  generalize yH (2^w) (sh I M) 99 n=x2 at *
  generalize yH (2^w) M 97 n=A at *
  have e:P*x1+M2 111 0*(P*N)=P*(x2+A*M 98 I):=by
   rw[<- v2,Cn,EW (M2 111 0) P N]
  rw[Cn,EW P A,A8 P (M 98 I)]at e
  omega
theorem zg6 {w:Nat}(hw:1<=w){M:Mem}{n:Nat}(hg:Good w M 0)(hz:M 122 0=0)(hc:yH (2^w) M 99 n=0):∀I:Nat,∃M',yQ (2^w) (upTo (yaB n) I) M 0=(M',0)/\Good w M' 0/\(∀d (i:Int),d≠108->d≠104->d≠111->d≠99->M' d i=M d i) /\
  yH (2^w) M' 99 (n+I)=yH (2^w) M 97 n*yH (2^w) M 98 I
 |0=>⟨M,rfl,hg,λ_ _ _ _ _ _=>rfl,by simp[yH,hc]⟩
 |I+1=>by
  obtain⟨M1,e1,g1,o1,v1⟩:=zg6 hw hg hz hc I
  obtain⟨M2,e2,g2,o2,v2⟩:=znt hw (n:=n) (I:=I) g1 (by rw[o1 122 0 (by decide) (by decide) (by decide) (by decide)];exact hz)
  refine⟨M2,?_,g2,λd i h1 h2 h3 h4=>by rw[o2 d i h1 h2 h3 h4,o1 d i h1 h2 h3 h4],?_⟩
  .rw[upTo,zU,e1];exact e2
  .rw[show n+(I+1)=n+I+1 by omega,v2,v1,zn (M:=M1) (M':=M) (c:=97) (c':=97) n λi hi=>o1 97 i (by decide) (by decide) (by decide) (by decide),o1 98 I (by decide) (by decide) (by decide) (by decide),yH,Cn]
def oL:Op:=cx 108 0 0 0 0
def oHi:Op:=cx 104 0 0 0 0
def oO:Op:=cx 111 0 0 0 0
def inT:List Rs:=[rS "times" [oL,oHi,cx 97 0 0 1 0,cx 98 0 1 0 0],rS "sum" [oL,oL,oO],rS "sum" [oHi,oHi,oZ],rS "sum" [cx 99 0 1 1 0,cx 99 0 1 1 0,oL],rS "sum" [oO,oHi,oZ]]
def ybm:T1:=.rounds 0 1 0 [.row (rS "mark" [.fig 0]),.row (rS "set" [oO,.fig 0]),.rounds 0 1 0 inT,.row (rS "move" [cx 99 0 1 0 1,oO])]
def yaK:List T1:=[.row (rS "set" [oS,.fig 0]),.rounds 0 1 0 [.row (rS "any" [oS,oS,cx 99 0 1 0 1])],.row (rS "ask" [oS]),.row (rS "sum" [oM 1,oZ,oZ])]
def ybq:List T1:=ybm::(yaK++ya1 0 2)
theorem zdJ {g:Nat->List PV}{f:Nat->List Rw}(h:∀I:Nat,g I=(f I).map yO):∀n,upTo g n=(upTo f n).map yO
 |0=>rfl
 |n+1=>by rw[upTo,upTo,zdJ h n,h n,BL]
theorem zkb (w:Int)(n:Nat):cnt 0 2 0 w n=2*n:=by simp[cnt];omega
theorem zli (w:Int)(n:Nat):yw w n (ya1 0 2)=(yJ (2*n)).map yO:=by
 have hh:=zav (g:=λI=>yah w n I [.row (rS "any" [oS,oS,cx 99 0 1 0 0])]) (f:=λi=>.any cS cS (99,i)) (λI=>by simp[yah,T2.rows,zj2]) (2*n)
 have hl:(0:Int) - 1+2*(n:Int)=((2*n:Nat):Int) - 1:=by omega
 simp only[yw,ya1,BP,B8,T1.rows,zkb,hh,yJ,BL,AM,A6,Ah]
 simp only[Rs.pv,rS,Op.pv,oS,oT,oZ,oM,cx,Cx.at,yO,yu,hl,AM,A6,Ay,Be,DR,C7]
theorem zo1 (n:Int)(I J:Nat):(inT.map λr=>r.pv I J n)=(inR I J).map yO:=by
 simp[inT,inR,Rs.pv,rS,Op.pv,oL,oHi,oO,oZ,cx,Cx.at,yO,yu]
theorem zl7 (w:Int)(n:Nat):T1.rows w n ybm=(yaG n).map yO:=by
 unfold ybm yaG
 rw[T1.rows,zaL]
 refine zdJ (λI=>?_) n
 have h:=zdJ (g:=λJ=>inT.map λr=>r.pv I J n) (f:=inR I) (zo1 n I) n
 have hm:(0:Int)+1*(I:Int)+1*(n:Int)=(I:Int)+n:=by omega
 simp only[yah,BP,B8,Ah,T2.rows,zaL,h,yaB,AM,BL,A6,Ay,Be]
 simp only[Rs.pv,rS,Op.pv,oO,cx,Cx.at,yO,yu,AM,A6,DR,C7,hm]
theorem zjA (w:Int)(n:Nat):yw w n yaK=(yal n).map yO:=by
 have hh:=zav (g:=λI=>yah w n I [.row (rS "any" [oS,oS,cx 99 0 1 0 1])]) (f:=λi=>.any cS cS (99,(n:Int)+i)) (λI=>by
  have hm:(0:Int)+1*(I:Int)+1*(n:Int)=(n:Int)+I:=by omega
  simp only[yah,BP,B8,Ah,T2.rows,Rs.pv,rS,oS,Op.pv,cx,Cx.at,yO,yu,AM,A6,DR,C7,hm]) n
 simp only[yw,yaK,BP,B8,T1.rows,zaL,hh,yal,BL,AM,A6,Ah]
 simp only[Rs.pv,rS,Op.pv,oS,oZ,oM,cx,Cx.at,yO,yu,AM,A6,Ay,Be,DR,C7]
theorem zlk (w:Int)(n:Nat):yw w n ybq=(yP n).map yO:=by
 have:yw w n ybq=T1.rows w n ybm++yw w n (yaK++ya1 0 2):=by simp[yw,ybq]
 rw[this,zaA,zl7,zjA,zli,yP,BL,BL]
theorem zjn (w:Int)(n:Nat):T1.rnd w n ybm=n*(1+n):=by simp[ybm,T1.rnd,ybe,T2.rnd,zaL]
theorem zhB (w:Int)(n:Nat):yax w n yaK=n:=by simp[yaK,yax,T1.rnd,ybe,T2.rnd,zaL]
theorem ziJ (w:Int)(n:Nat):yax w n (ya1 0 2)=2*n:=by simp[yax,ya1,T1.rnd,zkb,ybe,T2.rnd]
theorem zji (w:Int)(n:Nat):yax w n ybq=n*(1+n)+(n+2*n):=by
 have:yax w n ybq=T1.rnd w n ybm+yax w n (yaK++ya1 0 2):=by simp[yax,ybq]
 rw[this,zd9,zjn,zhB,ziJ]
theorem zeb {f:Nat->List Rw}{c:Nat}(h:∀i,(f i).length=c):∀k,(upTo f k).length=k*c
 |0=>by simp[upTo]
 |k+1=>by rw[upTo,A7,zeb h k,h,Eo]
theorem zey (n:Nat):(yaG n).length=n*(n*5+3):=zeb (λI=>by simp[yaB,zeb (f:=inR I) (c:=5) (λ_=>rfl)]) n
theorem zc8 {n:Nat}(hn:n<=4):(yP n).length<=4000:=by
 have:n*(n*5+3)<=4*23:=Ax hn (by omega)
 simp[yP,zey,yal,yJ,zar]
 omega
theorem zX {f:Int->Rw}{r:Rw}:∀{n:Nat},r∈yN f n->∃i:Nat,i<n/\r=f i
 |0,h=>by simp[yN]at h
 |n+1,h=>by
  rw[yN,Ag]at h
  rcases h with h|h
  .obtain⟨i,hi,e⟩:=zX h
   exact⟨i,by omega,e⟩
  .simp at h
   exact⟨n,by omega,h⟩
theorem zec {f:Nat->List Rw}{r:Rw}:∀{n:Nat},r∈upTo f n->∃i:Nat,i<n/\r∈f i
 |0,h=>by simp[upTo]at h
 |n+1,h=>by
  rw[upTo,Ag]at h
  rcases h with h|h
  .obtain⟨i,hi,e⟩:=zec h
   exact⟨i,by omega,e⟩
  .exact⟨n,by omega,h⟩
noncomputable def nmS:Bool->Bool->AR
 |true,AD=>AF "left"
 |false,AD=>AF "right"
 |false,AC=>AF "down"
 |true,AC=>AF "roll"
def yc8:Bool->Bool->Int->List T1
 |true,AD=>yci
 |false,AD=>ybR
 |false,AC=>ycp
 |true,AC=>ybS
def ycO (up top:Bool)(s:Int):PV:=.tp AD [.str (nmS up top),.int s]
def yen (up top:Bool)(s:Nat):Bool:=match yc T 18 zay [ycO up top s] []with
 | .ok (.tp b vs) []=>decide (yaF vs=AA (yc8 up top s)) && noLocs vs && isOk (yc T 16 zB [.tp b vs] []) (.bl AC) && isOk (yc T 20 zbY [ycO up top s] []) (.bl AC)
 |_=>AD
theorem zkr:([AD,AC].all λu=>(C2 101).all (yen u AD))=true:=by decide +kernel
theorem zmg (w:Int)(n s:Nat)(up top:Bool):yw w n (yc8 up top s)=(shR up top s n).map yO:=by
 cases up <;> cases top
 .exact ziK w n s
 .exact zlj w n s
 .exact zlu w n s
 .rw[yc8,zkx];simp[ybg,shR,yaE,ybl]
theorem zoY (w:Int)(n s:Nat)(up top:Bool):yax w n (yc8 up top s)=n+s*(1+n)+n:=by
 cases up <;> cases top
 .exact zfc w n s _ _ (.inl rfl) (.inr rfl)
 .exact zfc w n s _ _ (.inr rfl) (.inr rfl)
 .exact zfc w n s _ _ (.inl rfl) (.inl rfl)
 .exact zh9 w n s
theorem zot (w:Int)(n s:Nat)(up top:Bool):ak1 w n (yc8 up top s)<=(n+2)*(s+3)+10:=by
 cases up <;> cases top <;> simp[ak1,yc8,yci,ybR,ycp,ybS,ya4,yaX,ya1,T1.ak,T2.ak,ak2,zaL,zlp,yaL,ycz,twiceT,ybt,HE,Nat.add_mul] <;> rw[Nat.mul_comm s n] <;> omega
theorem zeU {b:List Rw}{r:Rw}:∀{s:Nat},r∈yq b s->r∈b
 |0,h=>by simp[yq]at h
 |s+1,h=>by
  rw[yq,Ag]at h
  rcases h with h|h
  .exact zeU h
  .exact h
theorem zie {n:Nat}(hn:1<=n)(hn2:n<=8):∀r∈yJ n,yaN r:=by
 intro r hr
 simp only[yJ,Ag,AU,Aa,or_false]at hr
 rcases hr with (rfl|hr)|rfl|rfl|rfl|rfl|rfl
 case inl.inr=>obtain⟨i,hi,rfl⟩:=zX hr;simp only[yaN,yS];omega
 all_goals simp only[yaN,yS];omega
theorem zmS {n s:Nat}(hn:1<=n)(hn2:n<=8)(up top:Bool):∀r∈shR up top s n,yaN r:=by
 intro r hr
 simp only[shR,Ag]at hr
 rcases hr with ((hr|hr)|hr)|hr
 .obtain⟨i,hi,rfl⟩:=zX hr
  simp only[yaN,yS];omega
 .rcases AU.1 (zeU hr)with rfl|hr
  .cases top <;> simp only[yaE,yaM,cT,BR,if_true,if_false,yaN,yS] <;> omega
  .cases up
   all_goals
    obtain⟨i,hi,rfl⟩:=zX hr
    simp only[yaN,yS];omega
 .split at hr
  .cases hr
  .simp at hr;subst hr;simp[yaN,yS,cZ]
 .exact zie hn hn2 r hr
theorem zmV:∀r,yaN r->okD r
 | .mark _,h=>h
 | .set _ _,h=>h.2
 | .times _ _ _ _,_ | .ask _,_ | .move _ _,_ | .bare _ _,_ | .twice _ _,_ | .half _ _,_ | .sum _ _ _,_ | .less _ _ _,_ | .both _ _ _,_ | .any _ _ _,_ | .odd _ _ _,_=>trivial
theorem zgY {n s:Nat}(hn:n<=4)(hs:s<=100)(up top:Bool):(shR up top s n).length<=4000:=by
 have h2:(ybl up n).length=n:=by cases up <;> simp[ybl,twiceRows,yF,zar]
 have h:=zmL hn hs (yaE top n) (ybl up n) h2
 unfold shR
 split
 .rw[Ah];exact h.2
 .exact h.1
theorem ycG {pr:Prop}{pb:Bool}{nm:AR}{xs:List PV}{b:Bool}{vs:List PV}{ps:List T1}{rs:List Rw}{w n:Nat}(hw:w<=16)(hn2:n<=4)(nl:noLocs xs=AC)(i0:∀st,idxV st (.tp AD (.str nm::xs)) (.int 0)=AA (.str nm))
  (e0:yc T 18 zay [.tp AD (.str nm::xs)] []=.ok (.tp b vs) []) (c1:yaF vs=AA ps) (c2:noLocs vs=AC) (c3:isOk (yc T 16 zB [.tp b vs] []) (.bl AC)=AC) (c4:isOk (yc T 20 zbY [.tp AD (.str nm::xs)] []) (.bl AC)=AC)
  (hp:pr->yc T 20 zbs [.tp AD (.str nm::xs)] []=.ok (.bl AC) []) (pv:yw w n ps=rs.map yO) (ok:∀r∈rs,yaN r) (hl:rs.length<=4000) (hr:yax w n ps<=4000) (ha:ak1 w n ps<=500000)
  (q1:yE .eq (.str nm) (.str "compare")=AA (.bl AD)) (q2:yE .eq (.str nm) (.str "led")=AA (.bl AD)) (q3:yE .isin (.str nm) z8=AA (.bl AD)) (q4:yE .isin (.str nm) za7=AA (.bl pb)):ycD pr (.tp AD (.str nm::xs)) w n (if pb=AC then 2*n else n) rs:=by
 have nl:noLoc (.tp AD (.str nm::xs))=true:=by simp[noLoc,noLocs,nl]
 generalize PV.tp AD (.str nm::xs)=d at *
 have nl1:noLocs [d]=true:=by simp[noLocs,nl]
 have rw':∀x∈yw w n ps,ybx x:=λx hx=>by
  rw[pv,Dr]at hx
  obtain⟨r,hr,rfl⟩:=hx
  exact zfV r (ok r hr)
 have ht:∀st,yc T (1+18) zay [d] st=.ok (.tp b vs) st:=λst=>by
  have:=zak e0 1
  rw[show 18+1=18+0+1 by omega]at this
  exact zb4 (f:=zay) (fn:=zcW) rfl rfl rfl nl1 this st
 have hit:∀st,yc T (1+16) zB [.tp b vs] st=.ok (.bl AC) st:=λst=>by
  have:=zak (zcM c3) 1
  exact zb4 (f:=zB) (fn:=zaY) rfl rfl rfl (by simp[noLocs,noLoc,c2]) this st
 have rows:=zhm 1 (w:=w) (n:=n) nl ht c2 c1 (by omega) (by omega) (by omega) (by omega) (by rw[pv,Ap];exact hl) hr ha rw' hit []
 rw[pv]at rows
 have hT1:T zaw=AA zS:=rfl
 have hT2:T zaQ=AA zaf:=rfl
 have nl2:noLocs [d,.int n]=true:=by simp[noLocs,nl,noLoc]
 refine⟨nl,zcM c4,hp,λst=>by rw[i0,BW,q3],rows,λr hr=>?_,?_,?_⟩
 .have hv:noLoc (yO r)=true:=by cases r <;> rfl
  exact zkZ hv (zfV r (ok r hr)) 9 []
 .rw[show (20:Nat)=19+1 from rfl,zc hT1 rfl rfl nl2]
  cases pb <;> simp! [zS,i0,q1,q2,q4] <;> rfl
 .rw[show (20:Nat)=19+1 from rfl,zc hT2 rfl rfl nl2]
  simp! [zaf,i0,q3,IC.ve9]
  rfl
theorem ydF (up:Bool){s w n:Nat}(hs:s<=100)(hw:w<=16)(hn:1<=n)(hn2:n<=4):ycD False (ycO up AD s) w n n (shR up AD s n):=by
 have hc:yen up AD s=true:=by
  have h:=BX.1 zkr up (by cases up <;> simp)
  exact BX.1 h s (by simp;omega)
 unfold yen at hc
 split at hc
 .rename_i b vs e0
  simp only[AL,decide_eq_true_eq]at hc
  obtain⟨⟨⟨c1,c2⟩,c3⟩,c4⟩:=hc
  have hm:s*(1+n)<=100*5:=Ax hs (by omega)
  have hm2:(n+2)*(s+3)<=6*103:=Ax (by omega) (by omega)
  exact ycG (pb:=AD) hw hn2 rfl (λ_=>rfl) e0 c1 c2 c3 c4 Bf (zmg w n s up AD) (zmS (s:=s) hn (by omega:n<=8) up AD) (zgY hn2 hs up AD) (by rw[zoY];omega) (by have:=zot w n s up AD;omega)
   (by cases up <;> ac_rfl) (by cases up <;> ac_rfl) (by cases up <;> ac_rfl) (by cases up <;> ac_rfl)
 .cases hc
def tgC:Rw->Prop
 | .mark _ | .ask _=>True
 | .set t _ | .move t _ | .bare t _ | .twice t _ | .half t _ | .sum t _ _ | .less t _ _ | .both t _ _ | .any t _ _ | .odd t _ _=>t.1≠99
 | .times a b _ _=>a.1≠99/\b.1≠99
theorem ycf {W:Int}:∀(rs:List Rw) (M:Mem) (k:Int),(∀r∈rs,tgC r)->∀j,(yQ W rs M k).1 99 j=M 99 j
 | [],M,k,_,j=>rfl
 |r::rs,M,k,h,j=>by
  have w1:∀(M:Mem) (t:Cel) (v:Int),t.1≠99->wr M t v 99 j=M 99 j:=λM t v ht=>by
   simp only[wr,upd];rw[if_neg (λe=>ht e.1.symm)]
  rw[yQ,ycf rs _ _ (λa ha=>h a (by simp[ha])) j]
  have hr:=h r (by simp)
  cases r <;> first|rfl|exact w1 _ _ _ hr|exact(w1 _ _ _ hr.2).trans (w1 _ _ _ hr.1)
theorem zib (n:Nat):∀r∈yJ n,tgC r:=by
 intro r hr
 simp only[yJ,Ag,AU,Aa,or_false]at hr
 rcases hr with (rfl|hr)|rfl|rfl|rfl|rfl|rfl
 case inl.inr=>obtain⟨i,hi,rfl⟩:=zX hr;simp[tgC]
 all_goals simp[tgC]
theorem zi8 {w:Nat}(hw:1<w){n:Nat}{x y:Int}(x0:0<=x)(x1:x<(2^w:Int)^(n+1))(y0:0<=y)(y1:y<(2^w:Int)^(n+1)) :
  yH (2^w) (yQ (2^w) (yP (n+1)) (yat (2^w) (n+1) x y) 0).1 99 (2*(n+1))=x*y:=by
 have hW:(0:Int)<2^w:=Ad (by omega)
 have hg:=zdO (w:=w) (by omega) (n+1) x y
 have hZ0:yat (2^w) (n+1) x y 122 0=0:=zmG _ _ _ (by decide) (by decide) _
 have hc0:yH (2^w) (yat (2^w) (n+1) x y) 99 (n+1)=0:=(zeE hW (n+1) λi hi=>hg.1 99 i).2 λi hi=>zmG _ _ _ (by decide) (by decide) _
 obtain⟨M1,e1,g1,o1,v1⟩:=zg6 (w:=w) (by omega) hg hZ0 hc0 (n+1)
 rw[zio (n+1) x y hW x0 x1,zj9 (n+1) x y hW y0 y1]at v1
 rw[yP,yaG,zU,e1,<- v1,show 2*(n+1)=n+1+(n+1)by omega]
 refine zn _ λi _=>ycf _ _ _ (λr hr=>?_) _
 rcases Ag.1 hr with hr|hr
 .simp only[yal,AU,Ag,Aa,or_false]at hr
  rcases hr with rfl|hr|rfl|rfl
  case inr.inl=>obtain⟨i,hi,rfl⟩:=zX hr;simp[tgC]
  all_goals simp[tgC]
 .exact zib _ r hr
theorem zlF {w:Nat}(hw:1<w){n:Nat}{x y:Int}(x0:0<=x)(x1:x<(2^w:Int)^(n+1))(y0:0<=y)(y1:y<(2^w:Int)^(n+1)) :
  yH (2^w) (yQ (2^w) (yan (n+1)) (yat (2^w) (n+1) x y) 0).1 99 (n+1)=(x+y)%(2^w:Int)^(n+1):=by
 have hW:(0:Int)<2^w:=Ad (by omega)
 have hW4:(4:Int)<=2^w:=by
  have h:(2:Nat)^2<=2^w:=Aq (by omega) (by omega)
  have h2:=pw w
  omega
 obtain⟨s1,s2,s3,s4,s5⟩:=zfz hW (by omega) (yat (2^w) (n+1) x y) 0 (by omega) (by omega) (n+1) (zj7 (n+1) x y hW) (znT (n+1) x y hW)
 rw[zio (n+1) x y hW x0 x1,zj9 (n+1) x y hW y0 y1]at s5
 obtain⟨r0,r1⟩:=zbu hW (n+1) s2
 have hs0:stepM (2^w) (yat (2^w) (n+1) x y) 0 (.mark 0)=(yat (2^w) (n+1) x y,0):=rfl
 rw[yan,Ak,Ak,Ak,List.singleton_append,zcZ,hs0,zU]
 generalize yQ (2^w) (yI (n+1) .sum) (yat (2^w) (n+1) x y) 0=R at *
 obtain⟨M1,k1⟩:=R
 simp only at *
 rw[zn (M':=M1) (c':=99) _ λi _=>ycf _ _ _ (λr hr=>?_) _]
 .generalize yH (2^w) M1 99 (n+1)=z at *
  generalize (2^w:Int)^(n+1)=P at *
  rw[show x+y=z+k1*P by omega,Cc,B0 r0 r1]
 .simp only[yau,Ag,AU,Aa,or_false]at hr
  rcases hr with h|(h|h|h|h|h)|h
  any_goals (subst h;simp[tgC])
  exact zib _ r h
theorem zmX {w:Nat}(hw:1<w){n s:Nat}{x:Int}(up:Bool)(x0:0<=x)(x1:x<(2^w:Int)^(n+1)) :
  yH (2^w) (yQ (2^w) (shR up AD s (n+1)) (yat (2^w) (n+1) x 0) 0).1 99 (n+1)=it (fS up AD ((2^w:Int)^(n+1))) s x:=by
 have hW:(0:Int)<2^w:=Ad (by omega)
 obtain⟨a1,a2⟩:=zjg (W:=2^w) hW (n:=n+1) (x:=x) (y:=0) x0 x1
 obtain⟨M',k',e1,k0,k1,h1,_⟩:=zfI hw up AD a2 s
 rw[shR,Ak,Ak,zU,a1,zU,e1,<- h1.val]
 refine zn _ λi _=>ycf _ _ _ (λr hr=>?_) _
 rcases Ag.1 hr with hr|hr
 .simp at hr;subst hr;simp[tgC]
 .exact zib _ r hr
def yb7 (nm:String):T1:=.rounds 0 1 0 [.row (rS nm [cx 99 0 1 0 0,cx 97 0 1 0 0,cx 98 0 1 0 0])]
def lC (c:Nat):Op:=cx c (-1) 0 0 1
def ydn:List T1:=[.row (rS "mark" [.fig 0]),yb7 "sum",yaX,.row (rS "odd" [oT,lC 99,lC 97]),.row (rS "odd" [oS,lC 99,lC 98]),.row (rS "both" [oT,oT,oS]),.row (rS "twice" [oT,oT]),.row (rS "sum" [oM 1,oZ,oZ])]++ya1 0 1
theorem zkE (w:Int)(n:Nat){nm:String}{f:Cel->Cel->Cel->Rw}(h:∀a b c,yO (f a b c)=.tp AD [.str (AF nm),yu a,yu b,yu c]):T1.rows w n (yb7 nm)=(yI n f).map yO:=by
 unfold yb7 yI
 rw[T1.rows,zaL]
 exact zav (λI=>by simp[yah,T2.rows,Rs.pv,rS,Op.pv,cx,Cx.at,h,yu]) n
theorem zmj (w:Int)(n:Nat):yw w n ydn=(yan n).map yO:=by
 have hl:∀c:Nat,(lC c).pv 0 0 n=yu (c,(n:Int) - 1):=λc=>by
  have:(-1:Int)+0*0+0*0+1*(n:Int)=(n:Int) - 1:=by omega
  simp only[lC,Op.pv,cx,Cx.at,this,yu]
 rw[ydn,zaA,zeS]
 simp only[yw,BP,B8,Ah,zkE w n (nm:="sum") (f:=.sum) (λ_ _ _=>rfl),zdW,yan,yau,BL,AM,A6,Ak]
 simp only[T1.rows,Rs.pv,rS,AM,A6,hl]
 simp[Op.pv,oM,oZ,oT,oS,cx,Cx.at,yO,yu]
def yfm (nm:String)(ps:List T1):Bool:=match yc T 18 zay [.tp AD [.str (AF nm)]] []with
 | .ok (.tp b vs) []=>decide (yaF vs=AA ps) && noLocs vs && isOk (yc T 16 zB [.tp b vs] []) (.bl AC) && isOk (yc T 20 zbY [.tp AD [.str (AF nm)]] []) (.bl AC) && isOk (yc T 20 zbs [.tp AD [.str (AF nm)]] []) (.bl AC)
 |_=>AD
theorem ycI {nm:String}{pb:Bool}{ps:List T1}{rs:List Rw}{w n:Nat}(hc:yfm nm ps=AC)(hw:w<=16)(hn2:n<=4)(pv:yw w n ps=rs.map yO)(ok:∀r∈rs,yaN r)(hl:rs.length<=4000)(hr:yax w n ps<=4000)(ha:ak1 w n ps<=500000)
  (q1:yE .eq (.str (AF nm)) (.str "compare")=AA (.bl AD)) (q2:yE .eq (.str (AF nm)) (.str "led")=AA (.bl AD)) (q3:yE .isin (.str (AF nm)) z8=AA (.bl AD)) (q4:yE .isin (.str (AF nm)) za7=AA (.bl pb)):ycD True (.tp AD [.str (AF nm)]) w n (if pb=AC then 2*n else n) rs:=by
 unfold yfm at hc
 split at hc
 .rename_i b vs e0
  simp only[AL,decide_eq_true_eq]at hc
  obtain⟨⟨⟨⟨c1,c2⟩,c3⟩,c4⟩,c5⟩:=hc
  exact ycG hw hn2 rfl (λ_=>rfl) e0 c1 c2 c3 c4 (λ_=>zcM c5) pv ok hl hr ha q1 q2 q3 q4
 .cases hc
theorem zkW {n:Nat}(hn:n<=8){f:Cel->Cel->Cel->Rw}(hf:∀a b c,yS a->yS b->yS c->yaN (f a b c)):∀r∈yI n f,yaN r:=by
 intro r hr
 obtain⟨i,hi,rfl⟩:=zX hr
 refine hf _ _ _ ?_ ?_ ?_ <;> simp only[yS] <;> omega
theorem zkl {n:Nat}(hn:1<=n)(hn2:n<=4):∀r∈yan n,yaN r:=by
 intro r hr
 simp only[yan,yau,Ag,AU,Aa,or_false]at hr
 rcases hr with (((h|h)|h)|(h|h|h|h|h))|h
 any_goals (subst h;simp only[yaN,yS];omega)
 .exact zkW (f:=.sum) (by omega) (λ_ _ _ a b c=>⟨a,b,c⟩) r h
 .exact zie hn (by omega) r h
theorem ycR {w n:Nat}(hw:w<=16)(hn:1<=n)(hn2:n<=4):ycD True (.tp AD [.str "sum"]) w n n (yan n):=by
 refine ycI (pb:=AD) (ps:=ydn) (by decide +kernel) hw hn2 (zmj w n) (zkl hn hn2) ?_ ?_ ?_ (by ac_rfl) (by ac_rfl) (by ac_rfl) (by ac_rfl)
 .simp[yan,yI,yau,yJ,zar];omega
 .simp[ydn,yax,yb7,yaX,ya1,T1.rnd,zaL,ybe,T2.rnd];omega
 .simp[ydn,ak1,yb7,yaX,ya1,T1.ak,zaL,ak2,T2.ak];omega
theorem zdt {n:Nat}(hn:1<=n)(hn2:n<=4):∀r∈yP n,yaN r:=by
 intro r hr
 simp only[yP,Ag]at hr
 rcases hr with hr|hr|hr
 .obtain⟨I,hI,hr⟩:=zec hr
  simp only[yaB,AU,Ag,Aa,or_false]at hr
  rcases hr with rfl|rfl|hr|rfl
  .simp[yaN]
  .simp only[yaN,yS];omega
  .obtain⟨J,hJ,hr⟩:=zec hr
   simp only[inR,AU,Aa,or_false]at hr
   have hc:yE .ne (yu cL) (yu cHi)=AA (.bl AC):=by ac_rfl
   rcases hr with rfl|rfl|rfl|rfl|rfl <;> simp only[yaN,yS,hc,and_true] <;> omega
  .simp only[yaN,yS];omega
 .simp only[yal,AU,Ag,Aa,or_false]at hr
  rcases hr with rfl|hr|rfl|rfl
  .simp only[yaN,yS];omega
  .obtain⟨i,hi,rfl⟩:=zX hr
   simp only[yaN,yS];omega
  all_goals simp only[yaN,yS];omega
 .exact zie (by omega) (by omega) r hr
theorem ycr {w n:Nat}(hw:w<=16)(hn:1<=n)(hn2:n<=4):ycD True (.tp AD [.str "product"]) w n (2*n) (yP n):=by
 have hm:n*(1+n)<=4*5:=Ax hn2 (by omega)
 have hm2:n*n<=4*4:=Ax hn2 hn2
 refine ycI (pb:=AC) (ps:=ybq) (by decide +kernel) hw hn2 (zlk w n) (zdt hn hn2) (zc8 hn2) (by rw[zji];omega) ?_ (by ac_rfl) (by ac_rfl) (by ac_rfl) (by ac_rfl)
 simp[ybq,ybm,yaK,ak1,ya1,T1.ak,zaL,ak2,T2.ak,cnt,HE]
 omega
noncomputable def dv (W:Int):List Int->Int
 | []=>0
 |d::ds=>d+W*dv W ds
def inW (W:Int)(ds:List Int):Prop:=∀d∈ds,0<=d/\d<W
theorem zjo {c:Cl}{N acc lo:Int}{st:Store}:exs c [AA (.int N),AA (.int acc),AA (.int lo)] st (.cons (.asg (.n 1) (.bin .mul (.cst (.int 2)) (.var 1))) .nil)=.nx [AA (.int N),AA (.int (2*acc)),AA (.int lo)] st:=by
 simp only[xs_nil,xs_cons,x_asg,yaD,nxO,IC.ve1,IC.ve2,IC.ve3,R.bind,R.fl,yM,yx,binI,yaA,toR,BE,BF,Al,A9]
 simp
theorem zic (k n:Nat)(hn:n<1000)(st:Store):yc T (k+1) zbP [.int n] st=.ok (.int (2^n)) st:=by
 obtain⟨ρ',st',h,u,e1,e2⟩:=zd4 (call:=yc T k) (t:=.n 2) (b:=.cons (.asg (.n 1) (.bin .mul (.cst (.int 2)) (.var 1))) .nil) (λi ρ st=>∃u,ρ=[AA (.int n),AA (.int (2^i)),u]/\st=[]) (yo n 0 1) 0 [AA (.int n),AA (.int 1),AE] [] ⟨_,rfl,rfl⟩ (by
  rintro j x ρ st hx ⟨u,rfl,rfl⟩
  have hx:∃i,x=.int i:=by
   have:∀(n:Nat) (a d:Int) (j:Nat) x,(yo n a d)[j]?=AA x->∃i,x=.int i:=by
    intro n
    induction n with
    |zero=>intro a d j x h;simp[yo]at h
    |succ n ih =>
     intro a d j x h
     cases j with
     |zero=>simp[yo]at h;exact⟨a,h.symm⟩
     |succ j=>simp[yo]at h;exact ih _ _ _ _ h
   exact this _ _ _ _ _ hx
  obtain⟨i,rfl⟩:=hx
  exact⟨_,_,_,rfl,zjo,_,by rw[Am,A8],rfl⟩)
 have hl:(yo n 0 1).length=n:=by
  have:∀(n:Nat) (a d:Int),(yo n a d).length=n:=by
   intro n
   induction n with
   |zero=>intro a d;rfl
   |succ n ih=>intro a d;simp[yo,ih]
  exact this _ _ _
 rw[hl,Br]at e1
 subst e1 e2
 rw[yc,show T zbP=AA zbF from rfl]
 simp only[zbF,A0,CA,if_true,noLocs,noLoc,D4,AM,A6,Cy,Aw,Ay,Be,xs_cons,xs_nil,x_asg,x_for,x_ret,yaD,nxO,IC.ve1,IC.ve2,R.fl,yM,BE,BF,evi,R.bind,Al,yb2,toL]
 simp only[show (n:Int).natAbs<1000000000 by omega,if_true,Bw,h]
 simp[noLoc]
noncomputable def ybZ (W:Int)(M:Mem)(c:Nat):Nat->Nat->Int
 |_,0=>0
 |a,n+1=>ybZ W M c (a+1) n*W+M c a
theorem zfQ (W:Int)(M:Mem)(c:Nat):∀(n a:Nat),ybZ W M c a (n+1)=ybZ W M c a n+M c ((a+n:Nat):Int)*W^n
 |0,a=>by simp[ybZ]
 |n+1,a=>by
  have h:=zfQ W M c n (a+1)
  rw[ybZ,h,ybZ,show a+1+n=a+(n+1)by omega,Am,Bu,BD]
  omega
theorem zkc (W:Int)(M:Mem)(c:Nat):∀n,ybZ W M c 0 n=yH W M c n
 |0=>rfl
 |n+1=>by rw[zfQ,zkc W M c n,yH,Br]
theorem zgz {W:Int}(hW:0<W){M:Mem}(h:yez W M)(c:Nat):∀n a,ye W n (ybZ W M c a n)=getM M c a n
 |0,a=>rfl
 |n+1,a=>by
  obtain⟨h0,h1⟩:=h c a
  have e1:(ybZ W M c (a+1) n*W+M c a)%W=M c a:=by
   rw[Dq,Cc];exact B0 h0 h1
  have e2:(ybZ W M c (a+1) n*W+M c a) / W=ybZ W M c (a+1) n:=by
   rw[Dq,DS _ _ (by omega),CF h0 h1,Gw]
  rw[ybZ,ye,e1,e2,zgz hW h c n (a+1),getM]
theorem zlI {W:Int}(hW:0<W){M:Mem}(h:yez W M)(c n:Nat){v:Int}(hv:yH W M c n=v):getM M c 0 n=ye W n v:=by
 rw[<- zgz hW h c n 0,zkc,hv]
theorem zpc {i:Int}{j:Nat}(h:i.natAbs<18446744073709551616)(hj:j<=1000000):yx .shl (.int i) (.int j)=AA (.int (i*2^j)):=by
 simp[yx,binI,h]
 omega
theorem zow {w:Nat}(hw:w<=16):(2:Int)^w<=65536:=by
 have h:(2:Nat)^w<=2^16:=Aq (by omega) hw
 have h2:((2^w:Nat):Int)=2^w:=by simp
 omega
theorem zeF {w:Nat}:∀(ds:List Int) (k:Nat),ycB (((yD k (ds.map .int))).map λp=>match p with
  | .tp _ [.int i,.int d]=>.int (d*2^(w*i.toNat))
  |_=>.non)=AA ((2^w)^k*dv (2^w) ds)
 | [],k=>by simp[yD,ycB,dv]
 |d::ds,k=>by
  have ih:=zeF (w:=w) ds (k+1)
  simp only[AM,yD,ycB]
  simp only[Bw]
  rw[ih]
  simp only[dv]
  congr 1
  rw[Am,C1,Cn,A8 d,BD]
theorem zfA (k:Nat)(ds:List Int)(w:Nat)(hw:w<=16)(h:inW (2^w) ds)(hl:ds.length<=8)(st:Store):yc T (k+1) zdI [.tup (ds.map .int),.int w] st=.ok (.int (dv (2^w) ds)) st:=by
 have hT:T zdI=AA zd2:=rfl
 have hW:=zow hw
 have hc:yai (yc T k) [AE,AE,AA (.int w)] (.t [0,1]) (.cst (.bl AC)) (.bin .shl (.var 1) (.bin .mul (.var 2) (.var 0))) (yD 0 (ds.map .int)) []=.ok (((yD 0 (ds.map .int))).map λp=>match p with
  | .tp _ [.int i,.int d]=>.int (d*2^(w*i.toNat))
  |_=>.non) []:=by
  refine zaP _ λp hp=>?_
  have hx:∀(ds:List Int) (j:Nat),inW (2^w) ds->j+ds.length<=8->∀p∈yD j (ds.map .int),∃(i:Nat) (d:Int),p=.tup [.int i,.int d]/\0<=d/\d<2^w/\i<=8:=by
   intro ds
   induction ds with
   |nil=>intro j _ _ p hp;simp[yD]at hp
   |cons d ds ih =>
    intro j hd hj p hp
    simp only[AM,yD,AU]at hp
    rcases hp with rfl|hp
    .have:=hd d Ai
     simp only[A0]at hj
     exact⟨j,d,rfl,this.1,this.2,by omega⟩
    .exact ih (j+1) (λx hx=>hd x (AS _ hx)) (by simp only[A0]at hj;omega) p hp
  obtain⟨i,d,rfl,d0,d1,hi⟩:=hx ds 0 h (by omega) p hp
  have hwa:(w:Int).natAbs<18446744073709551616:=by omega
  have hm:(w:Int)*(i:Int)=((w*i:Nat):Int):=by simp
  have hwi:w*i<=16*8:=Ax hw hi
  have hbt:yM (.t [0,1]) (.tup [.int i,.int d]) [AE,AE,AA (.int w)]=AA [AA (.int i),AA (.int d),AA (.int w)]:=rfl
  simp only[yaR,hbt,IC.ve1,IC.ve2,IC.ve3,Al,A9,bd_ok,t_bl,ono,cond_true,zaD hwa,hm,toR_some,zpc (show d.natAbs<18446744073709551616 by omega) (show w*i<=1000000 by omega)]
  rfl
 have hs:=zeF (w:=w) ds 0
 have hlr:∀ys:List PV,ys.length<=1000000->∀st,yca (.ok ys st)=.ok (.lst ys) st:=λys h st=>by simp[yca,h]
 have hpl:(yD 0 (ds.map .int)).length=ds.length:=by
  have:∀(xs:List PV) (j:Nat),(yD j xs).length=xs.length:=by
   intro xs
   induction xs with
   |nil=>intro j;rfl
   |cons x xs ih=>intro j;simp[yD,ih]
  rw[this,Ap]
 rw[yc,hT]
 simp only[zd2,A0,CA,Br,D5,if_true,noLocs,noLoc,noLocs_ints,D4,AM,A6,Cy,Aw,Ah,xs_cons,xs_nil,x_ret,IC.ve19,evs,v_comp,evi,IC.ve2,Al,A9,bd_ok,fl_ok,PV.tup,Option.bind_none,BW,GL,hc]
 rw[hlr _ (by rw[Ap,hpl];omega)]
 simp only[bd_ok,yay,yaa,BW,hs,DB,toR_some,fl_ok,th_rt,noLoc,if_true,C6,Cj]
theorem zdm {call:Cl}{W:Int}(hW:0<W)(hW2:W<18446744073709551616){p1 p2:Option PV}:∀(n:Nat) (a x:Int) (acc:List PV) (u:Option PV),acc.length+n<1000000 ->
  ∃x' u',ya8 call (.n 5) (.cons (.expr (.mth .append (.var 4) (.cons (.bin .mod (.var 0) (.var 3)) .nil))) (.cons (.asg (.n 0) (.bin .fdiv (.var 0) (.var 3))) .nil)) (yo n a 1) [AA (.int x),p1,p2,AA (.int W),AA (.loc 0),u] [.lst acc]=.nx [AA (.int x'),p1,p2,AA (.int W),AA (.loc 0),u'] [.lst (acc++(ye W n x).map .int)]
 |0,a,x,acc,u,_=>⟨x,u,by rw[yo,zH];simp[ye]⟩
 |n+1,a,x,acc,u,h=>by
  obtain⟨x',u',e⟩:=zdm (call:=call) hW hW2 (p1:=p1) (p2:=p2) n (a+1) (x / W) (acc++[.int (x%W)]) (AA (.int a)) (by simp;omega)
  refine⟨x',u',?_⟩
  have hW3:W<18446744073709551616*18446744073709551616:=by omega
  have hl:acc.length<1000000:=by omega
  rw[yo,zA (ρ1:=[AA (.int x),p1,p2,AA (.int W),AA (.loc 0),AA (.int a)]) rfl]
  have hm:yaO .append [Ob.lst acc] (.loc 0)=AA true:=rfl
  have hap:ycu .append [Ob.lst acc] (.loc 0) [.int (x%W)]=.ok .non [.lst (acc++[.int (x%W)])]:=by
   unfold ycu;simp[ydZ,hl]
  simp only[xs_cons,xs_nil,x_asg,x_expr,IC.ve20,IC.ve2,IC.ve3,evs,Al,A9,bd_ok,fl_ok,hm,ono,zjx hW,zjm hW hW3,toR_some,hap,bT_n,nxO_some,th_nx,BE,BF,yaz]
  rw[e]
  simp[ye]
theorem words (k:Nat)(x:Int)(w n:Nat)(hw:w<=16)(hn:n<1000)(st:Store):yc T (k+2) zcr [.int x,.int w,.int n] st=.ok (.tup ((ye (2^w) n x).map .int)) st:=by
 have hW:(0:Int)<2^w:=Ad (by omega)
 have hW2:(2:Int)^w<18446744073709551616:=by
  have h:(2:Nat)^w<=2^16:=Aq (by omega) hw
  have h2:((2^w:Nat):Int)=2^w:=by simp
  omega
 obtain⟨x',u',e⟩:=zdm (call:=yc T (k+1)) hW hW2 (p1:=AA (.int w)) (p2:=AA (.int n)) n 0 x [] AE (by simp;omega)
 have ht:=zic k w (by omega) []
 have hT:T zcr=AA zch:=rfl
 rw[yc,hT]
 simp only[zch,A0,CA,Br,D5,if_true,noLocs,noLoc,D4,AM,A6,Cy,Aw,Ay,Be,xs_cons,xs_nil,x_asg,x_for,x_ret,IC.ve18,IC.ve2,IC.ve13,IC.ve19,evs,evi,Al,A9,bd_ok,fl_ok,ht,bT_n,nxO_some,th_nx,BE,BF,za2 n hn,toL,DD,sizeMax,e]
 simp[yay,yea,yaa,toR,fl_ok,noLoc,noLocs_ints,R.fl,yaD]
theorem zdD {W:Int}(hW:0<W):∀(n:Nat) (x:Int),0<=x->x<W^n->dv W (ye W n x)=x
 |0,x,h0,h1=>by rw[C6]at h1;simp only[ye,dv];omega
 |n+1,x,h0,h1=>by
  have q0:0<=x / W:=Bo h0 (by omega)
  have q1:x / W<W^n:=BY hW (by rw[Am]at h1;exact h1)
  rw[ye,dv,zdD hW n _ q0 q1]
  have:=BJ x W
  omega
theorem zcy:∀ds:List Int,ybu (ds.map .int) (ds.map .int)=AC
 | []=>rfl
 |d::ds=>by simp[ybu,peq,zcy ds]
theorem zcE (n:Nat):∀ds:List Int,ybM n (ds.map .int)=AC
 | []=>rfl
 |d::ds=>by simp[ybM,shd,zcE n ds]
theorem ze9 (ds:List Int):yE .ne (.tp AD (ds.map .int)) (.tp AD (ds.map .int))=AA (.bl AD):=by
 simp[yE,shd,zcE,peq,zcy]
theorem zia (ds:List Int):yE .eq (.tp AD (ds.map .int)) (.tp AD (ds.map .int))=AA (.bl AC):=by
 simp[yE,shd,zcE,peq,zcy]
theorem answer (k:Nat){pr:Prop}{deed:PV}{w n na:Nat}{rs:List Rw}(D:ycD pr deed w n na rs)(ok:∀r∈rs,yaN r)(hw:w<=16)(hw1:1<=w)(hn:n<=4)(hna:na<=8)(hrs:rs.length<=4000){x y V:Int}(x0:0<=x)(x1:x<2^(w*n))(y0:0<=y)(y1:y<2^(w*n))(hp:y≠0->pr)
  (hv:yH (2^w) (yQ (2^w) rs (yat (2^w) n x y) 0).1 99 na=V) (st:Store):yc T (23+k) zr [deed,.int w,.int n,.int x,.int y] st=.ok (.tp AD ((ye (2^w) na V).map .int)) st:=by
 have hW:(0:Int)<2^w:=Ad (by omega)
 have rd:=λr hr=>zmV r (ok r hr)
 have e:=ran k D hw hw1 hn hna (by omega) x0 x1 y0 y1 hp (zfq hw1 hw _ _ _ rd (zdO hw1 n x y)) []
 have al:yez (2^w) _:=(zea hw1 rs (zdO hw1 n x y) rd).1
 rw[zlI hW al 99 na hv]at e
 have hT:T zr=AA zby:=rfl
 have hnl:noLocs [deed,.int w,.int n,.int x,.int y]=true:=by simp[noLocs,D.nl,noLoc]
 have ln:∀(st:Store) (a b c:PV),yay .len st [.tp AD [a,b,c]]=AA (.int 3):=λ_ _ _ _=>rfl
 have hi:∀(a b c:PV),ya0 (.tp AD [a,b,c]) [.tuple]=AA (.bl AC):=λ_ _ _=>rfl
 rw[show 23+k=22+k+1 by omega,zc hT rfl rfl hnl]
 generalize ye (2^w) na V=ws at *
 simp! [zby,e,ln,hi,ix0,beq_self_eq_true]
 simp[ybz,noLoc,noLocs_ints]
theorem zgE {P:Int}(x0:0<=x)(x1:x<P):∀s,it (fS AC AD P) s x=x*2^s%P
 |0=>by rw[it,C6,Cd,B0 x0 x1]
 |s+1=>by
  rw[it,zgE x0 x1 s]
  simp only[fS,bS,if_true,BR,false_and,if_false,C7]
  rw[Am,<- BD,A8 _ 2,Gx 2 (x*2^s%P),Int.emod_emod,<- Gx]
theorem zfv {P x:Int}:∀s,it (fS AD AD P) s x=x / 2^s
 |0=>by rw[it,C6,Dn]
 |s+1=>by
  rw[it,zfv s]
  simp only[fS,bS,BR,false_and,if_false,DR,C7]
  rw[Am,B3 (Ep (Ad (by omega)))]
noncomputable def ybF:Ce:=match yab.body with
 | .cons _ (.cons (.while c _) _)=>c
 |_=>.nope
noncomputable def ybT:Css:=match yab.body with
 | .cons _ (.cons (.while _ b) _)=>b
 |_=>.nil
theorem zhH {c:Cl}{n:Nat}{ns:List Int}{a p m t:Int}{f:Bool}{u:Option PV}{st:Store}(h:st[n]?=AA (.lst [.lst (ns.map .int),.int a,.int p,.bl f])) :
  ∃B,ev c [AA (.loc n),AA (.int m),AA (.int t),u] st ybF=.ok (.bl B) st/\(B=AC->t<64):=by
 by_cases h1:t<64
 .by_cases h2:p=0
  .refine⟨AC,?_,λ_=>h1⟩
   simp! [ybF,yab,R.bind,h,idxV,yba,at?,ixI,yx,binI,yaA,toR,yE,ybG]
   simp[h1,h2,zdc,peq]
  .have h2:(p == 0)=false:=by simp[h2]
   cases f
   .refine⟨AD,?_,λ_=>h1⟩
    simp! [ybF,yab,R.bind,h,idxV,yba,at?,ixI,yx,binI,yaA,toR,yE,ybG]
    simp[h,h1,h2,zdc,peq]
   .refine⟨decide (p<m*4096),?_,λ_=>h1⟩
    simp! [ybF,yab,R.bind,h,idxV,yba,at?,ixI,yx,binI,yaA,toR,yE,ybG]
    simp[h,h1,h2,zdc,peq]
 .refine⟨AD,?_,λz=>by cases z⟩
  simp! [ybF,yab,R.bind,h,idxV,yba,at?,ixI,yx,binI,yaA,toR,yE,ybG]
  simp[h1]
theorem zhn (k:Nat){n:Nat}{ns:List Int}(hns:ns.length<=1000){a p m t:Int}(ha:0<=a){f:Bool}{u:Option PV}{st:Store}(h:st[n]?=AA (.lst [.lst (ns.map .int),.int a,.int p,.bl f])) :
  ∃p' f',exs (yc T (k+2)) [AA (.loc n),AA (.int m),AA (.int t),u] st ybT=.nx [AA (.loc n),AA (.int m),AA (.int (t+1)),u] (st.set n (.lst [.lst (ns.map .int),.int (a+1),.int p',.bl f'])):=by
 obtain⟨q,g,hq⟩:=fill k n ns hns a p ha f st h
 have hm:(1+q%4093).natAbs<18446744073709551616:=by omega
 have hau:∀st,ex (yc T (k+2)) [AA (.loc n),AA (.int m),AA (.int t),u] st (.aug 2 .add (.cst (.int 1)))=.nx [AA (.loc n),AA (.int m),AA (.int (t+1)),u] st:=λst=>by
  rw[zov (x:=.int t) rfl]
  simp[IC.ve1,R.fl,ybY,yx,binI,nxO]
 cases g
 .refine⟨q,AD,?_⟩
  simp! [ybT,yab,hau,yaD,nxO,R.fl,R.bind,hq,ybY,yx,binI,DB,rdS h,idxV,yba,at?,ixI,yaA,toR,yE,ybG,onF,yaP]
  simp[rdS h]
 .by_cases hl:q<m*4096
  .refine⟨q+m*4096*(1+q%4093),AC,?_⟩
   simp! [ybT,yab,hau,yaD,nxO,R.fl,R.bind,hq,ybY,yx,binI,DB,rdS h,idxV,yba,at?,ixI,yaA,toR,yE,ybG,onF,yaP,stO,ybC]
   simp[rdS h,hl,hm]
  .refine⟨q,AC,?_⟩
   simp! [ybT,yab,hau,yaD,nxO,R.fl,R.bind,hq,ybY,yx,binI,DB,rdS h,idxV,yba,at?,ixI,yaA,toR,yE,ybG,onF,yaP]
   simp[rdS h,hl]
theorem zeP (k:Nat){n:Nat}{ns:List Int}(hns:ns.length<=1000){m:Int}{u:Option PV}:∀(r N:Nat) (t a p:Int) (f:Bool) (st:Store),r<=N->64 - t<=r->0<=a->st[n]?=AA (.lst [.lst (ns.map .int),.int a,.int p,.bl f]) ->
  ∃t' a' p' f',0<=a'/\yaS (yc T (k+2)) ybF ybT (N+1) [AA (.loc n),AA (.int m),AA (.int t),u] st=.nx [AA (.loc n),AA (.int m),AA (.int t'),u] (st.set n (.lst [.lst (ns.map .int),.int a',.int p',.bl f']))
 |r,N,t,a,p,f,st,hN,ht,ha,h=>by
  obtain⟨B,hB,hb⟩:=zhH (c:=yc T (k+2)) (m:=m) (t:=t) (u:=u) h
  have hs:st.set n (.lst [.lst (ns.map .int),.int a,.int p,.bl f])=st:=by
   refine DP λi=>?_
   rw[Ca]
   split
   .rename_i e
    subst e
    split
    .exact h.symm
    .rename_i z
     rw[BI (by omega)]at h
     cases h
   .rfl
  cases B with
  |false=>exact⟨t,a,p,f,ha,by rw[ze7 hB rfl,hs]⟩
  |true =>
   have h64:=hb rfl
   match r,N with
   |0,_=>exact absurd ht (by omega)
   |r+1,N+1 =>
    obtain⟨p1,f1,hx⟩:=zhn k hns (m:=m) (t:=t) ha (u:=u) h
    obtain⟨t',a',p',f',h0,h2⟩:=zeP k hns (m:=m) (u:=u) r N (t+1) (a+1) p1 f1 _ (by omega) (by omega) (by omega) (rdS h)
    refine⟨t',a',p',f',h0,?_⟩
    rw[zhM hB rfl hx,h2,DQ]
theorem take (k n:Nat)(ns:List Int)(hns:ns.length<=1000)(a p m:Int)(ha:0<=a)(hm:0<m)(hm2:m<10000000000000000000000000000000000000000000000000000000000000000000000)(f:Bool)(st:Store)(h:st[n]?=AA (.lst [.lst (ns.map .int),.int a,.int p,.bl f])) :
  ∃d a' p' f',0<=d/\d<m/\0<=a'/\yc T (k+3) zdC [.loc n,.int m] st=.ok (.int d) (st.set n (.lst [.lst (ns.map .int),.int a',.int p',.bl f'])):=by
 obtain⟨t',a',p',f',h0,h2⟩:=zeP k hns (m:=m) (u:=AE) 64 99999 0 a p f st (by omega) (by omega) ha h
 refine⟨p'%m,a',p' / m,f',BA _ (by omega),Aj _ hm,h0,?_⟩
 have hb:yab.body=.cons (.asg (.n 2) (.cst (.int 0))) (.cons (.while ybF ybT) (.cons (.asg (.n 3) (.bin .mod (.idx (.var 0) (.cst (.int 2))) (.var 1))) (.cons (.six (.var 0) (.cst (.int 2)) (.bin .fdiv (.idx (.var 0) (.cst (.int 2))) (.var 1))) (.cons (.ret (.var 3)) .nil)))):=rfl
 have hT:T zdC=AA ⟨2,4,AD,yab.body⟩:=rfl
 rw[yc,hT,hb]
 simp! [zl3,yaD,nxO,stO,R.fl,R.bind,yM,h2,rdS h,idxV,yba,at?,ixI,yx,binI,hm,hm2,and_self,toR,ybC]
 simp[rdS h,hm,hm2]
def Drw (ns:List Int)(n:Nat)(st:Store):Prop:=∃a p f,0<=a/\st[n]?=AA (.lst [.lst (ns.map .int),.int a,.int p,.bl f])
def Onl (ns:List Int)(n:Nat)(st st':Store):Prop:=∃a p f,0<=a/\st'=st.set n (.lst [.lst (ns.map .int),.int a,.int p,.bl f])
theorem Onl.drw {ns:List Int}{n:Nat}{st st':Store}(h:Drw ns n st)(o:Onl ns n st st'):Drw ns n st':=by
 obtain⟨a,p,f,ha,h⟩:=h
 obtain⟨b,q,g,hb,rfl⟩:=o
 exact⟨b,q,g,hb,rdS h⟩
theorem Onl.trans {ns:List Int}{n:Nat}{st st1 st2:Store}(o:Onl ns n st st1)(o2:Onl ns n st1 st2):Onl ns n st st2:=by
 obtain⟨b,q,g,hb,rfl⟩:=o
 obtain⟨c,r,j,hc,rfl⟩:=o2
 exact⟨c,r,j,hc,by rw[DQ]⟩
theorem ybi (k:Nat){n:Nat}{ns:List Int}(hns:ns.length<=1000){m:Int}(hm:0<m)(hm2:m<10000000000000000000000000000000000000000000000000000000000000000000000){st:Store}(h:Drw ns n st) :
  ∃d st',0<=d/\d<m/\Onl ns n st st'/\yc T (k+3) zdC [.loc n,.int m] st=.ok (.int d) st':=by
 obtain⟨a,p,f,ha,h⟩:=h
 obtain⟨d,a',p',f',h1,h2,h3,h4⟩:=take k n ns hns a p m ha hm hm2 f st h
 exact⟨d,_,h1,h2,⟨_,_,_,h3,rfl⟩,h4⟩
theorem sizes (k:Nat){n:Nat}{ns:List Int}(hns:ns.length<=1000){m:Int}(hm:0<m)(hm2:m<=100){st:Store}(h:Drw ns n st) :
  ∃w z st',4<=w/\w<=16/\1<=z/\z<=m/\Onl ns n st st'/\yc T (k+4) zdK [.loc n,.int m] st=.ok (.tup [.int w,.int z]) st':=by
 obtain⟨d,s1,d1,d2,o1,e1⟩:=ybi k hns (m:=13) (by omega) (by omega) h
 obtain⟨e,s2,d3,d4,o2,e2⟩:=ybi k hns (m:=m) hm (by omega) (o1.drw h)
 refine⟨4+d,1+e,s2,by omega,by omega,by omega,by omega,o1.trans o2,?_⟩
 have hT:T zdK=AA zcn:=rfl
 rw[yc,hT]
 simp! [zcn,yaD,R.fl,R.bind,e1,e2,yx,binI,toR]
 simp[sizeMax]
theorem fresh (k:Nat)(ns:List Int)(h:ns.length<=63)(st:Store):∃v,yc T (k+1) zdS [.scr (ns.map .int)] st=.ok (.loc st.length) (st++[v])/\v=.lst [.lst (ns.map .int),.int 0,.int 0,.bl AD]:=by
 have hT:T zdS=AA zcg:=rfl
 refine⟨_,?_,rfl⟩
 rw[yc,hT]
 simp! [zcg,yaD,ev,R.fl,R.bind,toR]
 have hc:ycm (.scr (ns.map PV.int)) AE (.int 63)=AA (.lst (ns.map .int)):=by
  have hk:ybo ns.length 63=ns.length:=by
   show min 63 ns.length=ns.length
   omega
  simp[ycm,yb1,ycA,cut,ycS,yc6,hk]
  try rw[<- Ap (f:=PV.int),GI]
 simp[yb1,onP,hc,sizeMax]
theorem dbl {call:Cl}{i j:Nat}(hij:i≠j):∀(N:Nat) (a:Int) (ρ:IC.Env) (v:Int) (st:Store),ρ[i]?=AA (AA (.int v)) ->
  ∃u,ya8 call (.n j) (.cons (.asg (.n i) (.bin .mul (.cst (.int 2)) (.var i))) .nil) (yo N a 1) ρ st=.nx ((ρ.set i (AA (.int (2^N*v)))).set j u) st/\(N=0->ρ[j]?=AA u \/ ρ.length<=j)
 |0,a,ρ,v,st,h=>by
  have hi:ρ.set i (AA (.int v))=ρ:=by
   refine DP λz=>?_
   rw[Ca]
   split
   .rename_i e
    subst e
    split
    .exact h.symm
    .rw[BI (by omega)]at h
     cases h
   .rfl
  rcases Cq j ρ.length with hj|hj
  .refine⟨ρ[j],?_,λ_=>.inl (Bq hj)⟩
   rw[yo,zH,C6,Cj,hi,List.set_getElem_self]
  .refine⟨AE,?_,λ_=>.inr hj⟩
   rw[yo,zH,C6,Cj,hi,List.set_eq_of_length_le hj]
 |N+1,a,ρ,v,st,h=>by
  have h1:(ρ.set j (AA (.int a)))[i]?=AA (AA (.int v)):=by
   rw[AO (BG hij)];exact h
  have hil:i<ρ.length:=by
   rcases Cq i ρ.length with z|z
   .exact z
   .rw[BI z]at h;cases h
  have h2:exs call (ρ.set j (AA (.int a))) st (.cons (.asg (.n i) (.bin .mul (.cst (.int 2)) (.var i))) .nil)=.nx ((ρ.set j (AA (.int a))).set i (AA (.int (2*v)))) st:=by
   simp only[xs_nil,xs_cons,x_asg,yaD,nxO,IC.ve1,IC.ve2,IC.ve3,R.bind,R.fl,h1,yM,yx,binI,yaA,toR]
   simp
  obtain⟨u,h3,_⟩:=dbl (call:=call) hij N (a+1) ((ρ.set j (AA (.int a))).set i (AA (.int (2*v)))) (2*v) st (by rw[A5 (by rw[B6];exact hil)])
  refine⟨u,?_,λz=>by cases z⟩
  rw[yo,zA (ρ1:=ρ.set j (AA (.int a))) rfl,h2]
  show ya8 call _ _ _ _ _=_
  rw[h3,DQ,Gd _ _ (BG hij),DQ,Am,BD]
theorem zdE (K:Nat):(0:Int)<2^K:=Ad (by omega)
noncomputable def yK:Css:=match yX.body with
 | .cons _ (.cons _ (.cons _ r))=>r
 |_=>.nil
noncomputable def wT2:Css:=match yK with
 | .cons _ (.cons _ (r))=>r
 |_=>.nil
theorem wE2:yK=(match yK with
 | .cons q0 (.cons q1 (_))=>.cons q0 (.cons q1 (wT2))
 |_=>.nil):=rfl
noncomputable def wT4:Css:=match yK with
 | .cons _ (.cons _ (.cons _ (.cons _ (r))))=>r
 |_=>.nil
theorem wE4:yK=(match yK with
 | .cons q0 (.cons q1 (.cons q2 (.cons q3 (_))))=>.cons q0 (.cons q1 (.cons q2 (.cons q3 (wT4))))
 |_=>.nil):=rfl
noncomputable def wT5:Css:=match yK with
 | .cons _ (.cons _ (.cons _ (.cons _ (.cons _ (r)))))=>r
 |_=>.nil
theorem wE5:yK=(match yK with
 | .cons q0 (.cons q1 (.cons q2 (.cons q3 (.cons q4 (_)))))=>.cons q0 (.cons q1 (.cons q2 (.cons q3 (.cons q4 (wT5)))))
 |_=>.nil):=rfl
noncomputable def wT6:Css:=match yK with
 | .cons _ (.cons _ (.cons _ (.cons _ (.cons _ (.cons _ (r))))))=>r
 |_=>.nil
theorem wE6:yK=(match yK with
 | .cons q0 (.cons q1 (.cons q2 (.cons q3 (.cons q4 (.cons q5 (_))))))=>.cons q0 (.cons q1 (.cons q2 (.cons q3 (.cons q4 (.cons q5 (wT6))))))
 |_=>.nil):=rfl
theorem zf7 {c:Cl}{n:Nat}{w z kd m:Int}{u5 u6 u7 u8 u9 u10 u11 u12:Option PV}{st:Store}(h0:0<=kd)(h6:kd<6)(hm:16<=m) :
  ∃x,0<=x/\x<m/\exs c [AA (.loc n),AA (.int w),AA (.int z),AA (.int kd),AA (.int m),u5,u6,u7,u8,u9,u10,u11,u12] st yK=.rt (.int x) st:=by
 obtain⟨x,x0,x1,hv⟩:∃x:Int,0<=x/\x<m/\∀st,idxV st (.tup [.int 0,.int 1,.int (m - 1),.int (m / 2),.int (m / 2 - 1),.int (m - 2)]) (.int kd)=AA (.int x):=by
  rcases (by omega:kd=0 \/ kd=1 \/ kd=2 \/ kd=3 \/ kd=4 \/ kd=5)with rfl|rfl|rfl|rfl|rfl|rfl
  .exact⟨0,by omega,by omega,λ_=>rfl⟩
  .exact⟨1,by omega,by omega,λ_=>rfl⟩
  .exact⟨m - 1,by omega,by omega,λ_=>rfl⟩
  .exact⟨m / 2,by omega,by omega,λ_=>rfl⟩
  .exact⟨m / 2 - 1,by omega,by omega,λ_=>rfl⟩
  .exact⟨m - 2,by omega,by omega,λ_=>rfl⟩
 refine⟨x,x0,x1,?_⟩
 rw[wE2]
 simp only[yK,yX,A0,CA,Br,D5,if_true,xs_cons,xs_nil,x_asg,x_ite,x_ret,IC.ve1,IC.ve2,IC.ve3,IC.ve8,IC.ve11,IC.ve16,IC.ve18,evs,Al,A9,bd_ok,fl_ok,toR_some,bT_n,nxO_some,th_nx,th_rt,BE,BF,t_bl,on_t,sizeMax,GR,b_sub,b_div2,c_lt,c_eq,c_gt,cond_true,cond_false,hv,h6,decide_true]
theorem zil (k:Nat){n:Nat}{ns:List Int}(hns:ns.length<=1000){w z kd m:Int}{u5 u6 u7 u8 u9 u10 u11 u12:Option PV}{st:Store}(h:Drw ns n st)(h9:9<kd)(hm:16<=m)(hm2:m<=18446744073709551616) :
  ∃x st',0<=x/\x<m/\Onl ns n st st'/\exs (yc T (k+3)) [AA (.loc n),AA (.int w),AA (.int z),AA (.int kd),AA (.int m),u5,u6,u7,u8,u9,u10,u11,u12] st yK=.rt (.int x) st':=by
 obtain⟨d,s1,d1,d2,o1,e1⟩:=ybi k hns (m:=m) (by omega) (by omega) h
 refine⟨d,s1,d1,d2,o1,?_⟩
 have k1:decide (kd<6)=false:=decide_eq_false (by omega)
 have k2:(kd == 6)=false:=beq_eq_false_iff_ne.2 (by omega)
 have k3:(kd == 7)=false:=beq_eq_false_iff_ne.2 (by omega)
 rw[wE6]
 simp only[yK,yX,A0,CA,Br,D5,if_true,xs_cons,xs_nil,x_asg,x_ite,x_ret,IC.ve1,IC.ve2,IC.ve3,IC.ve8,IC.ve11,IC.ve16,IC.ve18,evs,Al,A9,bd_ok,fl_ok,toR_some,bT_n,nxO_some,th_nx,th_rt,BE,BF,t_bl,on_t,sizeMax,GR,b_sub,b_div2,c_lt,c_eq,c_gt,cond_true,cond_false,e1,h9,decide_true,k1,k2,k3]
theorem zgs (k:Nat){n:Nat}{ns:List Int}(hns:ns.length<=1000){w z kd m:Int}{u5 u6 u7 u8 u9 u10 u11 u12:Option PV}{st:Store}(h:Drw ns n st)(hk:kd=6 \/ kd=7)(hw:4<=w)(hw2:w<=16)(hz:1<=z)(hz2:z<=4)(hm:m=2^(w*z).toNat) :
  ∃x st',0<=x/\x<m/\Onl ns n st st'/\exs (yc T (k+3)) [AA (.loc n),AA (.int w),AA (.int z),AA (.int kd),AA (.int m),u5,u6,u7,u8,u9,u10,u11,u12] st yK=.rt (.int x) st':=by
 have hwz:4<=w*z:=by
  have:=FJ hw hz (by omega) (by omega);omega
 have hwz2:w*z<=64:=by
  have:=FJ hw2 hz2 (by omega) (by omega);omega
 have hm1:0<m:=hm ▸ zdE _
 have hm2:m<=18446744073709551616:=by
  have h64:(2:Nat)^(w*z).toNat<=2^64:=Aq (by omega) (by omega)
  have h65:((2^(w*z).toNat:Nat):Int)=2^(w*z).toNat:=by simp
  rw[hm,<- h65]
  omega
 obtain⟨d,s1,d1,d2,o1,e1⟩:=ybi k hns (m:=m) (by omega) (by omega) h
 obtain⟨e,s2,d3,d4,o2,e2⟩:=ybi k hns (m:=w*z) (by omega) (by omega) (o1.drw h)
 have hj:(2:Int)^e.toNat<m:=by
  rw[hm];exact FL (by omega) (by omega)
 have hj1:=zdE e.toNat
 have hj2:(2:Int)^e.toNat<10000000000000000000000000000000000000000000000000000000000000000000000:=by omega
 have hj3:((2:Int)^e.toNat).natAbs<18446744073709551616:=by omega
 have hj4:(2:Nat)^e.toNat<18446744073709551616:=by
  have h65:((2^e.toNat:Nat):Int)=2^e.toNat:=by simp
  omega
 have hwa:w.natAbs<18446744073709551616:=by omega
 have hea:e.natAbs<1000000000:=by omega
 have hr:yb2 (.int e)=AA (yo e.toNat 0 1):=by simp only[yb2,hea,if_true]
 have q1:=zjm (i:=d) hj1 (by omega)
 have q2:yx .mul (.int (d / 2^e.toNat)) (.int (2^e.toNat))=AA (.int (d / 2^e.toNat*2^e.toNat)):=zct hj3
 have q3:yx .mul (.int w) (.int z)=AA (.int (w*z)):=zaD hwa
 clear hj2 hj4 hea hwa hj3 hwz hwz2
 rcases hk with rfl|rfl
 .obtain⟨u,hd,_⟩:=dbl (call:=yc T (k+3)) (i:=8) (j:=5) (by omega) e.toNat 0 [AA (.loc n),AA (.int w),AA (.int z),AA (.int 6),AA (.int m),u5,AA (.tup [.int 0,.int 1,.int (m - 1),.int (m / 2),.int (m / 2 - 1),.int (m - 2)]),AA (.int d),AA (.int 1),u9,u10,u11,u12] 1 s2 rfl
  refine⟨d / 2^e.toNat*2^e.toNat,s2,CQ (Bo d1 (by omega)) (by omega),Fd (Int.ediv_mul_le d (by omega)) d2,o1.trans o2,?_⟩
  have k1:decide ((6:Int)<6)=false:=rfl
  have k2:((6:Int) == 6)=true:=rfl
  rw[Cd]at hd
  rw[wE4]
  generalize wT4=F at *
  generalize (2:Int)^e.toNat=P at *
  simp only[IC.PV.tup]at hd
  simp! [yK,yX,e1,k1,k2,q3,e2,hr,hd,q1,q2]
 .obtain⟨u,hd,_⟩:=dbl (call:=yc T (k+3)) (i:=8) (j:=5) (by omega) e.toNat 0 [AA (.loc n),AA (.int w),AA (.int z),AA (.int 7),AA (.int m),u5,AA (.tup [.int 0,.int 1,.int (m - 1),.int (m / 2),.int (m / 2 - 1),.int (m - 2)]),AA (.int d),AA (.int 1),u9,u10,u11,u12] 1 s2 rfl
  refine⟨m - 2^e.toNat,s2,by omega,by omega,o1.trans o2,?_⟩
  have k1:decide ((7:Int)<6)=false:=rfl
  have k2:((7:Int) == 6)=false:=rfl
  have k3:((7:Int) == 7)=true:=rfl
  rw[Cd]at hd
  rw[wE5]
  generalize wT5=F at *
  generalize (2:Int)^e.toNat=P at *
  simp only[IC.PV.tup]at hd
  simp! [yK,yX,e1,k1,k2,k3,q3,e2,hr,hd]
theorem Drw.refl {ns:List Int}{n:Nat}{st:Store}(h:Drw ns n st):Onl ns n st st:=by
 obtain⟨a,p,f,ha,h⟩:=h
 exact⟨a,p,f,ha,zi5 h⟩
noncomputable def ybO:Css:=match yK with
 | .cons _ (.cons _ (.cons _ (.cons _ (.cons _ (.cons _ (.cons _ (.cons _ (.cons _ (.cons (.for _ _ b) _)))))))))=>b
 |_=>.nil
theorem zf8 (k:Nat){n:Nat}{ns:List Int}(hns:ns.length<=1000){p1 p2 p3 p4 p6 p8 u11 u12:Option PV}{d W acc a:Int}{st:Store}(h:Drw ns n st)(ha:0<=a)(ha2:a<1000)(hW:4<=W)(hW2:W<18446744073709551616) :
  ∃e st' v11 v12,0<=e/\e<W/\Onl ns n st st'/\exs (yc T (k+3)) [AA (.loc n),p1,p2,p3,p4,AA (.int a),p6,AA (.int d),p8,AA (.int W),AA (.int acc),u11,u12] st ybO=.nx [AA (.loc n),p1,p2,p3,p4,AA (.int a),p6,AA (.int d),p8,AA (.int W),AA (.int (acc*W+e)),v11,v12] st':=by
 obtain⟨t,s1,d1,d2,o1,e1⟩:=ybi k hns (m:=5) (by omega) (by omega) h
 have hW0:0<W:=by omega
 have hWm:W.natAbs<18446744073709551616:=by omega
 have ha3:0<a+1:=by omega
 have ha4:a+1<18446744073709551616*18446744073709551616:=by omega
 have q0:=BA (d / (a+1)) (show W≠0 by omega)
 have q1:=Aj (d / (a+1)) hW0
 obtain⟨e,x0,x1,hv⟩:∃e:Int,0<=e/\e<W/\∀st,idxV st (.tp AD [.int 0,.int 1,.int (W - 1),.int (W / 2),.int (d / (a+1)%W)]) (.int t)=AA (.int e):=by
  rcases (by omega:t=0 \/ t=1 \/ t=2 \/ t=3 \/ t=4)with rfl|rfl|rfl|rfl|rfl
  .exact⟨0,by omega,by omega,λ_=>rfl⟩
  .exact⟨1,by omega,by omega,λ_=>rfl⟩
  .exact⟨W - 1,by omega,by omega,λ_=>rfl⟩
  .exact⟨W / 2,by omega,by omega,λ_=>rfl⟩
  .exact⟨d / (a+1)%W,q0,q1,λ_=>rfl⟩
 refine⟨e,s1,AA (.int (d / (a+1)%W)),AA (.tp AD [.int 0,.int 1,.int (W - 1),.int (W / 2),.int (d / (a+1)%W)]),x0,x1,o1,?_⟩
 simp! [ybO,yK,yX,zjm ha3 ha4,zjx hW0,zct hWm,e1,hv]
theorem zdk (k:Nat){n:Nat}{ns:List Int}(hns:ns.length<=1000){p1 p2 p3 p4 p6 p8:Option PV}{d W:Int}(hW:4<=W)(hW2:W<18446744073709551616):∀(r i:Nat) (a acc:Int) (u5 u11 u12:Option PV) (st:Store),0<=a->a+r<1000->0<=acc->acc<W^i->Drw ns n st ->
  ∃acc' st' v5 v11 v12,0<=acc'/\acc' < W^(i+r)/\Onl ns n st st'/\ya8 (yc T (k+3)) (.n 5) ybO (yo r a 1) [AA (.loc n),p1,p2,p3,p4,u5,p6,AA (.int d),p8,AA (.int W),AA (.int acc),u11,u12] st=.nx [AA (.loc n),p1,p2,p3,p4,v5,p6,AA (.int d),p8,AA (.int W),AA (.int acc'),v11,v12] st'
 |0,i,a,acc,u5,u11,u12,st,_,_,h0,h1,h=>⟨acc,st,u5,u11,u12,h0,h1,h.refl,by rw[yo,zH]⟩
 |r+1,i,a,acc,u5,u11,u12,st,ha,hr,h0,h1,h=>by
  obtain⟨e,s1,v11,v12,e0,e1,o1,hs⟩:=zf8 k hns (p1:=p1) (p2:=p2) (p3:=p3) (p4:=p4) (p6:=p6) (p8:=p8) (u11:=u11) (u12:=u12) (d:=d) (acc:=acc) h ha (by omega) hW hW2
  have hb:acc*W+e<W^(i+1):=by
   have:=BT (show acc<=W^i - 1 by omega) (show 0<=W by omega)
   rw[Cm,Cj]at this
   rw[Am]
   omega
  have hb0:0<=acc*W:=CQ h0 (by omega)
  obtain⟨acc',s2,w5,w11,w12,f0,f1,o2,hf⟩:=zdk k hns (p1:=p1) (p2:=p2) (p3:=p3) (p4:=p4) (p6:=p6) (p8:=p8) (d:=d) hW hW2 r (i+1) (a+1) (acc*W+e) (AA (.int a)) v11 v12 s1 (by omega) (by omega) (by omega) hb (o1.drw h)
  refine⟨acc',s2,w5,w11,w12,f0,by rw[show i+(r+1)=i+1+r by omega];exact f1,o1.trans o2,?_⟩
  rw[yo,zA (ρ1:=[AA (.loc n),p1,p2,p3,p4,AA (.int a),p6,AA (.int d),p8,AA (.int W),AA (.int acc),u11,u12]) rfl,hs]
  exact hf
theorem zfg (k:Nat){n:Nat}{ns:List Int}(hns:ns.length<=1000){w z:Nat}{kd m:Int}{u5 u6 u7 u8 u9 u10 u11 u12:Option PV}{st:Store}(h:Drw ns n st)(hk:kd=8 \/ kd=9)(hw:4<=w)(hw2:w<=16)(hz:1<=z)(hz2:z<=4)(hm:m=2^(w*z)) :
  ∃x st',0<=x/\x<m/\Onl ns n st st'/\exs (yc T (k+3)) [AA (.loc n),AA (.int w),AA (.int z),AA (.int kd),AA (.int m),u5,u6,u7,u8,u9,u10,u11,u12] st yK=.rt (.int x) st':=by
 have hwz2:w*z<=64:=Ax hw2 hz2
 have hm1:0<m:=hm ▸ zdE _
 have hm2:m<=18446744073709551616:=by
  have h64:(2:Nat)^(w*z)<=2^64:=Aq (by omega) hwz2
  rw[hm,<- pw]
  omega
 obtain⟨d,s1,d1,d2,o1,e1⟩:=ybi k hns (m:=m) (by omega) (by omega) h
 have hW4:(4:Int)<=2^w:=by
  have h:(2:Nat)^2<=2^w:=Aq (by omega) (by omega)
  have h2:=pw w
  omega
 have hWl:(2:Int)^w<18446744073709551616:=by
  have h:(2:Nat)^w<=2^16:=Aq (by omega) hw2
  have h2:=pw w
  omega
 have r1:yb2 (.int (w:Int))=AA (yo w 0 1):=za2 w (by omega)
 have r2:yb2 (.int (z:Int))=AA (yo z 0 1):=za2 z (by omega)
 have k1:¬kd<6:=by omega
 have k2:(kd == 6)=false:=by simp;omega
 have k3:(kd == 7)=false:=by simp;omega
 have k4:¬9<kd:=by omega
 obtain⟨u,hd,_⟩:=dbl (call:=yc T (k+3)) (i:=9) (j:=5) (by omega) w 0 [AA (.loc n),AA (.int w),AA (.int z),AA (.int kd),AA (.int m),u5,AA (.tup [.int 0,.int 1,.int (m - 1),.int (m / 2),.int (m / 2 - 1),.int (m - 2)]),AA (.int d),u8,AA (.int 1),u10,u11,u12] 1 s1 rfl
 simp only[BE,BF,Cd]at hd
 obtain⟨acc',s2,w5,w11,w12,f0,f1,o2,hf⟩:=zdk k hns (p1:=AA (.int w)) (p2:=AA (.int z)) (p3:=AA (.int kd)) (p4:=AA (.int m)) (p6:=AA (.tup [.int 0,.int 1,.int (m - 1),.int (m / 2),.int (m / 2 - 1),.int (m - 2)])) (p8:=u8) (d:=d) (W:=2^w) hW4 hWl z 0 0 0 u u11 u12 s1 (by omega) (by omega) (by omega) (by simp) (o1.drw h)
 rw[Br,<- C1,<- hm]at f1
 refine⟨acc',s2,f0,f1,o1.trans o2,?_⟩
 have hR:yK=.cons (.asg (.n 6) (.tup (.cons (.cst (.int 0)) (.cons (.cst (.int 1)) (.cons (.bin .sub (.var 4) (.cst (.int 1))) (.cons (.bin .fdiv (.var 4) (.cst (.int 2))) (.cons (.bin .sub (.bin .fdiv (.var 4) (.cst (.int 2))) (.cst (.int 1))) (.cons (.bin .sub (.var 4) (.cst (.int 2))) .nil)))))))) (match yK with
  | .cons _ (.cons a (.cons b (.cons c (.cons d (.cons e (.cons f (.cons g (.cons h (.cons (.for t i _) r)))))))))=>.cons a (.cons b (.cons c (.cons d (.cons e (.cons f (.cons g (.cons h (.cons (.for t i ybO) r))))))))
  |_=>.nil):=rfl
 rw[hR]
 simp! [yK,yX,r1,r2,k1,k2,k3,k4,decide_false,e1,hd,hf]
theorem worth (k:Nat){n:Nat}{ns:List Int}(hns:ns.length<=1000)(w z:Nat)(hw:4<=w)(hw2:w<=16)(hz:1<=z)(hz2:z<=4){st:Store}(h:Drw ns n st) :
  ∃x st',0<=x/\x<2^(w*z)/\Onl ns n st st'/\yc T (k+4) zbz [.loc n,.int w,.int z] st=.ok (.int x) st':=by
 obtain⟨kd,s1,d1,d2,o1,e1⟩:=ybi k hns (m:=12) (by omega) (by omega) h
 have h1:=o1.drw h
 have hwz2:w*z<=64:=Ax hw2 hz2
 have hwz:4<=w*z:=Ax hw hz
 have hm:(16:Int)<=2^(w*z):=by
  have h:(2:Nat)^4<=2^(w*z):=Aq (by omega) hwz
  have h2:=pw (w*z)
  omega
 have hm2:(2:Int)^(w*z)<=18446744073709551616:=by
  have h:(2:Nat)^(w*z)<=2^64:=Aq (by omega) hwz2
  have h2:=pw (w*z)
  omega
 have hwa:(w:Int).natAbs<18446744073709551616:=by omega
 have hwm:(w:Int)*(z:Int)=((w*z:Nat):Int):=by simp
 have r1:yb2 (.int ((w*z:Nat):Int))=AA (yo (w*z) 0 1):=za2 _ (by omega)
 obtain⟨u,hd,_⟩:=dbl (call:=yc T (k+3)) (i:=4) (j:=5) (by omega) (w*z) 0 [AA (.loc n),AA (.int w),AA (.int z),AA (.int kd),AA (.int 1),AE,AE,AE,AE,AE,AE,AE,AE] 1 s1 rfl
 simp only[BE,BF,Cd]at hd
 have key:∃x st',0<=x/\x<2^(w*z)/\Onl ns n s1 st'/\exs (yc T (k+3)) [AA (.loc n),AA (.int w),AA (.int z),AA (.int kd),AA (.int (2^(w*z))),u,AE,AE,AE,AE,AE,AE,AE] s1 yK=.rt (.int x) st':=by
  rcases (by omega:kd<6 \/ (kd=6 \/ kd=7) \/ (kd=8 \/ kd=9) \/ 9<kd)with q|q|q|q
  .obtain⟨x,a,b,e⟩:=zf7 (c:=yc T (k+3)) (n:=n) (w:=w) (z:=z) (st:=s1) (u5:=u) (u6:=AE) (u7:=AE) (u8:=AE) (u9:=AE) (u10:=AE) (u11:=AE) (u12:=AE) d1 q hm
   exact⟨x,s1,a,b,h1.refl,e⟩
  .exact zgs k hns h1 q (by omega) (by omega) (by omega) (by omega) (by rw[hwm,Bw])
  .exact zfg k hns h1 q hw hw2 hz hz2 rfl
  .exact zil k hns h1 q hm hm2
 obtain⟨x,s2,a,b,o2,e2⟩:=key
 refine⟨x,s2,a,b,o1.trans o2,?_⟩
 have hT:T zbz=AA ⟨3,13,AD,yX.body⟩:=rfl
 have hb:yX.body=.cons (.asg (.n 3) (.call 92 (.cons (.var 0) (.cons (.cst (.int 12)) .nil)))) (.cons (.asg (.n 4) (.cst (.int 1))) (.cons (.for (.n 5) (.range1 (.bin .mul (.var 1) (.var 2))) (.cons (.asg (.n 4) (.bin .mul (.cst (.int 2)) (.var 4))) .nil)) yK)):=rfl
 rw[yc,hT,hb]
 simp only[A0,CA,Br,D5,if_true,BR,if_false,AM,A6,Cy,Aw,Ay,Be]
 rw[xs_cons,x_asg]
 simp only[IC.ve18,IC.ve1,IC.ve2,evs,Al,A9,bd_ok,fl_ok,e1,bT_n,nxO_some,th_nx,BE,BF]
 rw[xs_cons,x_asg]
 simp only[IC.ve1,bd_ok,fl_ok,bT_n,nxO_some,th_nx,BE,BF]
 rw[xs_cons,x_for]
 simp only[evi,IC.ve2,IC.ve3,Al,A9,bd_ok,fl_ok,zaD hwa,hwm,r1,toL,toR_some,hd,th_nx,e2]
theorem zoZ (st:Store)(xs:List PV):yay .all st [.lst (xs.map λ_=>.bl AC)]=AA (.bl AC):=by
 have h:∀xs:List PV,allB (xs.map λ_=>PV.bl AC)=AA true:=λxs=>by
  induction xs with
  |nil=>rfl
  |cons x xs ih=>simp[allB,ih]
 simp[yay,yaa,h]
theorem number (k:Nat)(ws:List Int){w N:Nat}(hw:w<=16)(h:inW (2^w) ws)(hN:ws.length=N)(hN2:N<=8)(st:Store):yc T (k+3) zao [.tp AD (ws.map .int),.int w,.int N] st=.ok (.bl AC) st:=by
 have hT:T zao=AA zbV:=rfl
 have hnl:noLocs [.tp AD (ws.map .int),.int w,.int N]=true:=by simp[noLocs,noLoc,noLocs_ints]
 have ln:∀st,yay .len st [.tp AD (ws.map .int)]=AA (.int N):=λst=>by
  show AA (PV.int (((ws.map PV.int).length:Nat):Int))=_
  rw[Ap,hN]
 have hi:ya0 (.tp AD (ws.map .int)) [.tuple]=AA (.bl AC):=rfl
 have wh:∀(v:Int) st,yc T (k+2) zdN [.int v] st=.ok (.bl AC) st:=λv st=>by
  have hT:T zdN=AA zee:=rfl
  rw[zc hT rfl rfl rfl]
  ac_rfl
 have c1:yai (yc T (k+2)) [AE] (.n 0) (.cst (.bl AC)) (.call zdN (.cons (.var 0) .nil)) (ws.map .int) []=.ok ((ws.map PV.int).map λ_=>.bl AC) []:=by
  refine zaP _ λp hp=>?_
  obtain⟨v,_,rfl⟩:=Dr.1 hp
  simp! [yaR,wh]
 have ht:=zic (k+1) w (by omega) []
 have c2:yai (yc T (k+2)) [AE,AA (.int w)] (.n 0) (.cst (.bl AC)) (.chain .le .lt (.cst (.int 0)) (.var 0) (.call zbP (.cons (.var 1) .nil))) (ws.map .int) []=.ok ((ws.map PV.int).map λ_=>.bl AC) []:=by
  refine zaP _ λp hp=>?_
  obtain⟨v,hv,rfl⟩:=Dr.1 hp
  have d1:decide (0<=v)=true:=decide_eq_true (h v hv).1
  have d2:decide (v<2^w)=true:=decide_eq_true (h v hv).2
  simp! [yaR,ht,d1,d2,blO]
 have lr:=λst=>zcV ((ws.map PV.int).map λ_=>PV.bl AC) (by simp[hN];omega) st
 have al:=λst=>zoZ st (ws.map .int)
 rw[show k+3=k+2+1 by omega,zc hT rfl rfl hnl]
 generalize (ws.map PV.int).map (λ_=>PV.bl AC)=L at *
 generalize ws.map PV.int=W at *
 simp! [zbV,hi,ln,c1,c2,lr,al,beq_self_eq_true]
 rfl
theorem zcK {W:Int}(hW:0<W)(n:Nat)(x:Int):inW W (ye W n x):=λv hv=>zbc hW n x v hv
section
variable {w n:Nat}(hw:4<=w)(hw2:w<=16)(hn:1<=n)(hn2:n<=2){x y:Int}(x0:0<=x)(x1:x<2^(w*n))(y0:0<=y)(y1:y<2^(w*n))(st:Store)
include hw hw2 hn hn2 x0 x1
theorem zdw (k:Nat)(y0:0<=y)(y1:y<2^(w*n)):yc T (23+k) zr [.tp AD [.str "product"],.int w,.int n,.int x,.int y] st=.ok (.tp AD ((ye (2^w) (2*n) (x*y)).map .int)) st:=by
 have hp:(2:Int)^(w*n)=(2^w:Int)^n:=C1
 obtain⟨m,rfl⟩:∃m,n=m+1:=⟨n - 1,by omega⟩
 exact answer k (ycr hw2 hn (by omega)) (zdt hn (by omega)) hw2 (by omega) (by omega) (by omega) (zc8 (by omega)) x0 x1 y0 y1 (λ_=>trivial) (zi8 (by omega) x0 (by rw[<- hp];exact x1) y0 (by rw[<- hp];exact y1)) st
theorem yfr (k:Nat)(up:Bool){s:Nat}(hs:s<=100):yc T (23+k) zr [.tp AD [.str (nmS up AD),.int s],.int w,.int n,.int x,.int 0] st=.ok (.tp AD ((ye (2^w) n (it (fS up AD ((2^w:Int)^n)) s x)).map .int)) st:=by
 have hp:(2:Int)^(w*n)=(2^w:Int)^n:=C1
 have hP:(0:Int)<2^(w*n):=Ad (by omega)
 obtain⟨m,rfl⟩:∃m,n=m+1:=⟨n - 1,by omega⟩
 exact answer k (ydF up hs hw2 hn (by omega)) (zmS (s:=s) hn (by omega) up AD) hw2 (by omega) (by omega) (by omega) (zgY (by omega) hs up AD) x0 x1 (HD 0) hP (λh=>absurd rfl h) (zmX (s:=s) (by omega:1<w) up x0 (by rw[<- hp];exact x1)) st
end
theorem zo4 (k:Nat){w n:Nat}(hw:4<=w)(hw2:w<=16)(hn:1<=n)(hn2:n<=4){x y:Int}(x0:0<=x)(x1:x<2^(w*n))(y0:0<=y)(y1:y<2^(w*n))(st:Store):yc T (23+k) zr [.tp AD [.str "sum"],.int w,.int n,.int x,.int y] st=.ok (.tp AD ((ye (2^w) n ((x+y)%2^(w*n))).map .int)) st:=by
 have hp:(2:Int)^(w*n)=(2^w:Int)^n:=C1
 obtain⟨m,rfl⟩:∃m,n=m+1:=⟨n - 1,by omega⟩
 have q:=zlF (by omega:1<w) x0 (by rw[<- hp];exact x1) y0 (by rw[<- hp];exact y1)
 rw[<- hp]at q
 exact answer k (ycR hw2 hn hn2) (zkl hn hn2) hw2 (by omega) hn2 (by omega) (by simp[yan,yI,yau,yJ,zar];omega) x0 x1 y0 y1 (λ_=>trivial) q st
theorem zeW {W:Int}(hW:0<W)(m:Nat):∀(n:Nat) (V:Int),ye W (n+m) V=ye W n V++ye W m (V / W^n)
 |0,V=>by rw[Br,C6,Dn];rfl
 |n+1,V=>by
  rw[show n+1+m=(n+m)+1 by omega,ye,zeW hW m n,ye,Ay,Am,A8,B3 (by omega)]
theorem zeK {W:Int}(hW:0<W):∀(n:Nat) (V:Int),ye W n (V%W^n)=ye W n V
 |0,V=>rfl
 |n+1,V=>by
  have h1:V%W^(n+1)%W=V%W:=by rw[Am];exact Int.emod_emod_of_dvd V ⟨W^n,A8 _ _⟩
  have h2:V%W^(n+1) / W=V / W%W^n:=by
   have e:=BJ V (W^(n+1))
   have e1:=BJ (V / W) (W^n)
   have e2:V / W / W^n=V / W^(n+1):=by rw[B3 (by omega),Am,A8]
   rw[e2]at e1
   have e3:V=V%W^(n+1)+W^n*(V / W^(n+1))*W:=by
    rw[Am]at e ⊢;rw[Fc];omega
   have e4:V / W=V%W^(n+1) / W+W^n*(V / W^(n+1)):=by
    conv=>lhs;rw[e3]
    rw[DS _ _ (by omega)]
   omega
  rw[ye,ye,h1,h2,zeK hW n]
theorem split {w n s:Nat}(hw:4<=w)(hw2:w<=16)(hn:1<=n)(hn2:n<=2){x:Int}(x0:0<=x)(x1:x<2^(w*n))(hs:s<w*n)(st:Store):yc T 24 zfS [.int w,.int n,.int x,.int s] st=.ok (.bl AC) st:=by
 have hK:w*n<=16*2:=Ax hw2 hn2
 have hW:(0:Int)<2^w:=Ad (by omega)
 have hp:(2:Int)^(w*n)=(2^w:Int)^n:=C1
 have s1:(2:Int)^s<2^(w*n):=FL (by omega) hs
 have s0:(0:Int)<=2^s:=Ep (Ad (by omega))
 have e1:=zdw hw hw2 hn hn2 x0 x1 [] 0 s0 s1
 have e2:=yfr hw hw2 hn hn2 x0 x1 [] 0 AC (s:=s) (by omega)
 have e3:=yfr hw hw2 hn hn2 x0 x1 [] 0 AD (s:=w*n - s) (by omega)
 rw[zgE x0 (by rw[<- hp];exact x1)]at e2
 rw[zfv]at e3
 have q:x*2^s / (2^w:Int)^n=x / 2^(w*n - s):=by
  rw[<- hp,show (2:Int)^(w*n)=2^(w*n - s)*2^s by rw[<- FK,show w*n - s+s=w*n by omega],Int.mul_ediv_mul_of_pos_left _ _ (Ad (by omega))]
 have hwd:ye (2^w) (2*n) (x*2^s)=ye (2^w) n (x*2^s%(2^w:Int)^n)++ye (2^w) n (x / 2^(w*n - s)):=by
  rw[show 2*n=n+n by omega,zeW hW,zeK hW,q]
 rw[hwd]at e1
 have t1:=zic 22 s (by omega) []
 have hwm:yx .mul (.int (w:Int)) (.int (n:Int))=AA (.int ((w*n:Nat):Int)):=by rw[zaD (by omega)];simp
 have hks:((w*n - s:Nat):Int)=((w*n:Nat):Int) - s:=by omega
 rw[hks]at e3
 have l1:=zy (2^w:Int) n (x*2^s%(2^w:Int)^n)
 have l2:=zy (2^w:Int) n (x / 2^(w*n - s))
 generalize ye (2^w) n (x*2^s%(2^w:Int)^n)=A at *
 generalize ye (2^w) n (x / 2^(w*n - s))=B at *
 have ln:∀st,yay .len st [.tp AD ((A++B).map .int)]=AA (.int (2*n)):=λst=>by
  show AA (PV.int ((((A++B).map PV.int).length:Nat):Int))=_
  rw[Ap,A7,l1,l2]
  congr 2;omega
 have c1:ycm (.tp AD ((A++B).map .int)) AE (.int n)=AA (.tp AD (A.map .int))/\ycm (.tp AD ((A++B).map .int)) (AA n) .non=AA (.tp AD (B.map .int)):=by
  rcases (by omega:n=1 \/ n=2)with rfl|rfl
  .match A,B,l1,l2 with
   | [a],[b],_,_=>exact⟨rfl,rfl⟩
  .match A,B,l1,l2 with
   | [a,a2],[b,b2],_,_=>exact⟨rfl,rfl⟩
 have o1:yb1 (.int n)=AA (AA (n:Int)):=rfl
 have o0:yb1 .non=AA none:=rfl
 have qa:=zia A
 have qb:=zia B
 have hT:T zfS=AA zco:=rfl
 rw[show (24:Nat)=23+1 from rfl,zc hT rfl rfl rfl]
 have e1:yc T 23 zr [.tp AD [.str "product"],.int w,.int n,.int x,.int (2^s)] []=_:=e1
 have e2:yc T 23 zr [.tp AD [.str "left",.int s],.int w,.int n,.int x,.int 0] []=_:=e2
 have e3:yc T 23 zr [.tp AD [.str "right",.int (((w*n:Nat):Int) - s)],.int w,.int n,.int x,.int 0] []=_:=e3
 have t1:yc T 23 zbP [.int s] []=_:=t1
 generalize (A++B).map PV.int=AB at *
 generalize A.map PV.int=A' at *
 generalize B.map PV.int=B' at *
 simp! [zco,t1,e1,e2,e3,hwm,ln,c1,o1,o0,qa,qb,onP,beq_self_eq_true]
 rfl
theorem zgx (l:List Int):noLocs [PV.scr (l.map .int)]=true:=by simp[noLocs,noLoc,noLocs_ints]
noncomputable def tB:Css:=match ybd.body with
 | .cons _ (.cons _ (.cons _ (.cons _ (.cons _ t))))=>t
 |x=>x
noncomputable def tC:Css:=match tB with
 | .cons _ (.cons _ (.cons _ (.cons _ t)))=>t
 |x=>x
section
variable {w n:Nat}(hw:4<=w)(hw2:w<=16)(hn:1<=n)(hn2:n<=2){x y z:Int}(x0:0<=x)(y0:0<=y)(xy:x+y<2^(w*n))(z0:0<=z)(z1:z<2^(w*n))(st:Store){p0 p1:Option PV}
include hw hw2 hn hn2 x0 y0 xy z0 z1
theorem yer:exs (yc T 24) [p0,p1,AA (.int w),AA (.int n),AA (.int x),AA (.int y),AA (.int z),AE,AE,AE] st tB =
  exs (yc T 24) [p0,p1,AA (.int w),AA (.int n),AA (.int x),AA (.int y),AA (.int z),AA (.tp AD ((ye (2^w) (2*n) (x*z)).map .int)),AA (.tp AD ((ye (2^w) (2*n) (y*z)).map .int)),AA (.tp AD ((ye (2^w) (2*n) ((x+y)*z)).map .int))] st tC:=by
 have hW:(0:Int)<2^w:=Ad (by omega)
 have e1:yc T 24 zr [.tp AD [.str "product"],.int w,.int n,.int x,.int z] st=_:=zdw hw hw2 hn hn2 x0 (by omega) st 1 z0 z1
 have e2:yc T 24 zr [.tp AD [.str "product"],.int w,.int n,.int y,.int z] st=_:=zdw hw hw2 hn hn2 y0 (by omega) st 1 z0 z1
 have e3:yc T 24 zr [.tp AD [.str "product"],.int w,.int n,.int (x+y),.int z] st=_:=zdw hw hw2 hn hn2 (by omega) xy st 1 z0 z1
 have h2n:(2:Int)*(n:Int)=((2*n:Nat):Int):=by omega
 have nb:∀V,yc T 24 zao [.tp AD ((ye (2^w) (2*n) V).map .int),.int w,.int ((2*n:Nat):Int)] st=.ok (.bl AC) st:=λV=>number 21 _ hw2 (zcK hW _ _) (zy _ _ _) (by omega) st
 have n1:=nb (x*z)
 have n2:=nb (y*z)
 have n3:=nb ((x+y)*z)
 generalize PV.tp AD ((ye (2^w) (2*n) (x*z)).map .int)=A at *
 generalize PV.tp AD ((ye (2^w) (2*n) (y*z)).map .int)=B at *
 generalize PV.tp AD ((ye (2^w) (2*n) ((x+y)*z)).map .int)=C at *
 have cm:yai (yc T 24) [AE,AA (.int w),AA (.int n)] (.n 0) (.cst (.bl AC)) (.call zao (.cons (.var 0) (.cons (.var 1) (.cons (.bin .mul (.cst (.int 2)) (.var 2)) .nil)))) [A,B,C] st=.ok [.bl AC,.bl AC,.bl AC] st:=by
  have o1:yaR (yc T 24) [AE,AA (.int w),AA (.int n)] (.n 0) (.cst (.bl AC)) (.call zao (.cons (.var 0) (.cons (.var 1) (.cons (.bin .mul (.cst (.int 2)) (.var 2)) .nil)))) A st=.ok (AA (.bl AC)) st:=by simp! [yaR,h2n,n1]
  have o2:yaR (yc T 24) [AE,AA (.int w),AA (.int n)] (.n 0) (.cst (.bl AC)) (.call zao (.cons (.var 0) (.cons (.var 1) (.cons (.bin .mul (.cst (.int 2)) (.var 2)) .nil)))) B st=.ok (AA (.bl AC)) st:=by simp! [yaR,h2n,n2]
  have o3:yaR (yc T 24) [AE,AA (.int w),AA (.int n)] (.n 0) (.cst (.bl AC)) (.call zao (.cons (.var 0) (.cons (.var 1) (.cons (.bin .mul (.cst (.int 2)) (.var 2)) .nil)))) C st=.ok (AA (.bl AC)) st:=by simp! [yaR,h2n,n3]
  rw[zK,o1,bd_ok,zK,o2,bd_ok,zK,o3,bd_ok,za1];rfl
 have lr:yca (.ok [.bl AC,.bl AC,.bl AC] st)=.ok (.lst [.bl AC,.bl AC,.bl AC]) st:=rfl
 have al:yay .all st [.lst [.bl AC,.bl AC,.bl AC]]=AA (.bl AC):=rfl
 have hb:tB=(match tB with
  | .cons a (.cons b (.cons c (.cons d _)))=>.cons a (.cons b (.cons c (.cons d tC)))
  |x=>x):=rfl
 rw[hb]
 generalize tC=F at *
 simp! [tB,ybd,e1,e2,e3,cm,lr,al]
theorem yeR {d:Nat}{st':Store}(hd:d<w*n)(ht:yc T 24 zdC [p1.getD .non,.int ((w*n:Nat):Int)] st=.ok (.int d) st')(hp1:p1=AA (p1.getD .non)) :
  exs (yc T 24) [p0,p1,AA (.int w),AA (.int n),AA (.int x),AA (.int y),AA (.int z),AA (.tp AD ((ye (2^w) (2*n) (x*z)).map .int)),AA (.tp AD ((ye (2^w) (2*n) (y*z)).map .int)),AA (.tp AD ((ye (2^w) (2*n) ((x+y)*z)).map .int))] st tC=.rt (.bl AC) st':=by
 have hW:(0:Int)<2^w:=Ad (by omega)
 have hp:(2:Int)^(w*n)=(2^w:Int)^n:=C1
 have hp2:(2:Int)^(w*(2*n))=(2^w:Int)^(2*n):=C1
 have hq:(2^w:Int)^(2*n)=2^(w*n)*2^(w*n):=by rw[hp,show 2*n=n+n by omega,FK]
 have hP:(0:Int)<2^(w*n):=Ad (by omega)
 have one1:(1:Int)<2^(w*n):=by
  have h4:4*1<=w*n:=Ax hw hn
  have h:(2:Nat)^1<=2^(w*n):=Aq (by omega) (by omega)
  have h2:=pw (w*n)
  omega
 have bd:∀{a:Int},0<=a->a<2^(w*n)->0<=a*z/\a*z<(2^w:Int)^(2*n):=λ{a} a0 a1=>by
  rw[hq]
  exact⟨CQ a0 z0,Fd (Int.mul_le_mul_of_nonneg_left (Ep z1) a0) (Int.mul_lt_mul_of_pos_right a1 hP)⟩
 obtain⟨a0,a1⟩:=bd x0 (by omega)
 obtain⟨b0,b1⟩:=bd y0 (by omega)
 obtain⟨c0,c1⟩:=bd (a:=x+y) (by omega) xy
 have h2n:(2:Int)*(n:Int)=((2*n:Nat):Int):=by omega
 have e1:yc T 24 zr [.tp AD [.str "product"],.int w,.int n,.int z,.int x] st=_:=zdw hw hw2 hn hn2 z0 z1 st 1 x0 (by omega)
 have e2:yc T 24 zr [.tp AD [.str "product"],.int w,.int n,.int z,.int 1] st=_:=zdw hw hw2 hn hn2 z0 z1 st 1 (by omega) one1
 rw[A8 z x]at e1
 rw[Cd]at e2
 have e3:yc T 24 zcr [.int z,.int w,.int ((2*n:Nat):Int)] st=_:=words 22 z w (2*n) hw2 (by omega) st
 have f1:yc T 24 zdI [.tp AD ((ye (2^w) (2*n) (x*z)).map .int),.int w] st=_:=zfA 23 _ w hw2 (zcK hW _ _) (by rw[zy];omega) st
 have f2:yc T 24 zdI [.tp AD ((ye (2^w) (2*n) (y*z)).map .int),.int w] st=_:=zfA 23 _ w hw2 (zcK hW _ _) (by rw[zy];omega) st
 rw[zdD hW _ _ a0 a1]at f1
 rw[zdD hW _ _ b0 b1]at f2
 have e4:yc T 24 zr [.tp AD [.str "sum"],.int w,.int ((2*n:Nat):Int),.int (x*z),.int (y*z)] st=_:=zo4 1 hw hw2 (by omega:1<=2*n) (by omega) a0 (by rw[hp2];exact a1) b0 (by rw[hp2];exact b1) st
 rw[hp2,<- Bu,B0 c0 c1]at e4
 have e5:=split hw hw2 hn hn2 z0 z1 hd st'
 have hwm:yx .mul (.int (w:Int)) (.int (n:Int))=AA (.int ((w*n:Nat):Int)):=by rw[zaD (by omega)];simp
 have q1:=ze9 (ye (2^w) (2*n) (x*z))
 have q2:=ze9 (ye (2^w) (2*n) z)
 have q3:=ze9 (ye (2^w) (2*n) ((x+y)*z))
 have e3:yc T 24 zcr [.int z,.int w,.int ((2*n:Nat):Int)] st=.ok (.tp AD ((ye (2^w) (2*n) z).map .int)) st:=e3
 generalize PV.tp AD ((ye (2^w) (2*n) (x*z)).map .int)=A at *
 generalize PV.tp AD ((ye (2^w) (2*n) (y*z)).map .int)=B at *
 generalize PV.tp AD ((ye (2^w) (2*n) ((x+y)*z)).map .int)=C at *
 generalize PV.tp AD ((ye (2^w) (2*n) z).map .int)=Z at *
 rw[hp1]
 generalize p1.getD .non=v1 at *
 simp! [tC,tB,ybd,e1,e2,h2n,e3,q1,q2,f1,f2,e4,q3,hwm,ht,e5]
end
theorem zjw (ns:List Int)(hns:ns.length<=63):yc T 25 zi0 [.scr (ns.map .int)] []=.ok (.bl AC) []:=by
 obtain⟨o,e1,ho⟩:=fresh 23 ns hns []
 have h0:Drw ns 0 [o]:=⟨0,0,AD,by omega,by rw[ho];rfl⟩
 have hl:ns.length<=1000:=by omega
 obtain⟨wi,zi,s1,a1,a2,a3,a4,o1,e2⟩:=sizes 20 hl (m:=2) (by omega) (by omega) h0
 obtain⟨w,rfl⟩:=zc2 (show 0<=wi by omega)
 obtain⟨n,rfl⟩:=zc2 (show 0<=zi by omega)
 have d1:=o1.drw h0
 have hw:4<=w:=by omega
 have hw2:w<=16:=by omega
 have hn:1<=n:=by omega
 have hn2:n<=2:=by omega
 obtain⟨x,s2,x0,x1,o2,e3⟩:=worth 20 hl w n hw hw2 hn (by omega) d1
 have d2:=o2.drw d1
 obtain⟨y,s3,y0,y1,o3,e4⟩:=worth 20 hl w n hw hw2 hn (by omega) d2
 have d3:=o3.drw d2
 obtain⟨z,s4,z0,z1,o4,e5⟩:=worth 20 hl w n hw hw2 hn (by omega) d3
 have d4:=o4.drw d3
 have hK:w*n<=16*2:=Ax hw2 hn2
 have hK1:4*1<=w*n:=Ax hw hn
 obtain⟨d,s5,f1,f2,o5,e6⟩:=ybi 21 hl (m:=((w*n:Nat):Int)) (by omega) (by omega) d4
 obtain⟨d,rfl⟩:=zc2 f1
 have g1:=yer hw hw2 hn hn2 (x:=x / 2) (y:=y / 2) (z:=z) (by omega) (by omega) (by omega) z0 z1 s4 (p0:=AA (.scr (ns.map .int))) (p1:=AA (.loc 0))
 have g2:=yeR hw hw2 hn hn2 (x:=x / 2) (y:=y / 2) (z:=z) (by omega) (by omega) (by omega) z0 z1 s4 (p0:=AA (.scr (ns.map .int))) (p1:=AA (.loc 0)) (d:=d) (by omega) e6 rfl
 rw[g2]at g1
 have hT:T zi0=AA ⟨1,10,AC,ybd.body⟩:=rfl
 have bt:∀(i j:Nat) (a b:PV) (ρ:IC.Env),yM (.t [i,j]) (.tp AD [a,b]) ρ=AA ((ρ.set i (AA a)).set j (AA b)):=λ_ _ _ _ _=>rfl
 have hb:ybd.body=(match ybd.body with
  | .cons a (.cons b (.cons c (.cons d (.cons e _))))=>.cons a (.cons b (.cons c (.cons d (.cons e tB))))
  |x=>x):=rfl
 rw[zc hT rfl rfl (zgx ns)]
 dsimp only
 rw[hb]
 have e1:yc T 24 zdS [.scr (ns.map .int)] []=.ok (.loc 0) [o]:=e1
 have E2:yc T 24 zdK [.loc 0,.int 2] [o]=_:=e2
 have E3:yc T 24 zbz [.loc 0,.int w,.int n] s1=_:=e3
 have E4:yc T 24 zbz [.loc 0,.int w,.int n] s2=_:=e4
 have E5:yc T 24 zbz [.loc 0,.int w,.int n] s3=_:=e5
 generalize tB=F at *
 simp! [ybd,e1,E2,bt,E3,E4,E5,g1,zn0]
end WK
namespace WK
open PySem L2 IC
theorem walk {l:Ed}{q:A4}{loose:List AR}{XP:(AR->Option AH)->BB->Prop}{YP:Af->BB->Prop}{d:DefRec}{K:Params->AG}(hn:l.most=AA 63)(hdf:d.params.defaults=[])
  (hY:∀(w:Af) (h:BB),YP w h->(K w.params).In h)
  (F:∀(w:Af) (mg:AR->Option AH) (fa:AJ) (h:BB),(K w.params).In h->h.Ns mainGlobals mg->mg d.name=AA (.ref fa) ->
   ∃fd:BC,(∀(s:AK) (u:AH),FP s fd ⟨[u],[]⟩ [("_law_script",u)])/\∀base:BB,(K w.params).In base->base.Ns mainGlobals mg->yaJ l.prog w (K w.params) mg base (CX1 l.prog w) (2*25) fa fd ["_law_script"] (spX (K w.params) (yc T 25) zi0)) :
  G0 q loose XP YP l.row.toRowW d [] (λf vs=>G7 f vs) :=
 L2.walk_of (n:=63) (k:=2*25) (x:="_law_script") (CX:=λw=>CX1 l.prog w) (sp:=λw=>spX (K w.params) (yc T 25) zi0) hn (by decide) hdf ⟨rfl,by decide,by decide⟩ hY F (λw H a ns hl _ hS=>zhk zjw hl hS) λ_ _ _ _ _ z=>znL z
end WK
open PySem PySem.W PyProof.Rows
theorem PySem.Challenge.cw_widewords_k32_whole_products_go_together_holds : PySem.Challenge.rw_widewords_k32_whole_products_go_together.Holds := by
 refine hd0 ?_
 k_fill
 refine WK.walk (l:=PySem.Challenge.rw_widewords_k32_whole_products_go_together) rfl rfl (λw h Y=>PySem.W.kIn_of Y) ?F
 case F =>
  intro w mg fa h KX G hmg
  refine' L2.all_mk2 (t:=WK.tbQ) KX G hmg ?R ?B ?D WK.kb_all ?Ml WK.ok_all WK.T_ok (L:=101) rfl 25
  case R =>
   repeat' (first|exact trivial|apply And.intro|(refine' L2.rowFn ?a9 ?l9 ?c9 ?p9 ?b9;(case a9|l9|c9|p9=>k_is);(case b9=>((repeat intro _);first|rfl|kernel_rfl)))|(refine' L2.rowMe ?z9 ?a9 ?i9 ?l9 ?c9 ?p9 ?b9;(case z9=>((first|rw[WK.cn_20]|rw[WK.cn_21]);k_is));(case a9|i9|l9|c9|p9=>k_is);(case b9=>((repeat intro _);first|rfl|kernel_rfl)))|(refine' L2.rowIni ?z9 ?a9 ?i9 ?l9 ?c9 ?p9 ?b9 ?m9 ?k9;(case z9=>((first|rw[WK.cn_20]|rw[WK.cn_21]);k_is));(case a9|i9|l9|c9|p9=>k_is);(case b9=>((repeat intro _);first|rfl|kernel_rfl));(case m9|k9=>k_is))|(refine' L2.rowFd ?a9 ?l9 ?c9 ?p9 ?d9 ?e9 ?v9;(case a9|l9|c9|p9|d9=>k_is);(case e9=>rfl);(case v9=>(repeat first|exact .nil|refine .cons ⟨_,rfl⟩ ?_))))
  case B=>kernel_rfl
  case D =>
   repeat' (first|exact trivial|apply And.intro|intro _|(refine' L2.gd_mk KX G ?a9 ?l9 ?s9 ?r9 ?n9;(case a9|l9=>k_is);(case s9=>rfl);(case r9=>(repeat first|exact .nil|refine L2.con_row (by kernel_rfl) ?_));(case n9=>decide +kernel)))
  case Ml =>
   repeat' (first|exact trivial|apply And.intro|(refine' L2.gdf_mk KX G ?a9 ?l9 ?r9 ?n9;(case a9|l9=>k_is);(case r9=>(repeat first|exact .nil|refine L2.frow_cons (by kernel_rfl) ?_));(case n9=>decide +kernel)))
