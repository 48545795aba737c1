import PyProof.Rows.All
import OpenK.KLine
import Open.Tops
import Wide.FinOn
import KE.KRevSl
import KE.KItem
import KE.KxWritten
import KE.KFromBytes
import KE.LcSums
import KE.KBits
import KE.KTryMore
import PySem.Challenge.RW_widewords_k18_simple_deeds_reckoned
set_option Elab.async false
set_option linter.all false
set_option maxRecDepth 100000
set_option maxHeartbeats 0
set_option genSizeOf false in
set_option genInjectivity false in
structure PySem.W.Fast:Prop where(tw17979429495054150034 tw17352856536485648358 tw17501445035159614353 tw12433933510806298598 tw14131913689351635031 tw17722986984586103475 tw13573649647317781166 tw2724214404468995349 tw5438420506860424400 tw6418093866988244070 tw16840424161416107977 tw6373803419043199112 tw9020057485146375715 tw2433253121808772699 tw3597972740582964924 tw4465001371569168724 tw2010815383324722238 tw14458858951586447837 tw2815794414308850309 tw2289227165527845286 tw4316932895074977216 tw13577986803701177882 tw1522082557516990712 tw2696064377121447119 tw9175941719166009667 tw5089999063709493707 tw16764509060719900824 tw13597470158578976935 tw8989679771776387310 tw15964041948721312375 tw10213471607673486355 tw12323080486271916005 tw5312017536638525810 tw1341505363756704417 tw2351708991910388137 tw3717779660887542868 tw16436329227984925024 tw11716195134796020282 tw9362677646030349790 tw6352262416112046846 tw6740807744745831750 tw15537014073437369996 tw2127116463357391654 tw12308580808199778945 tw7552581025367750120 tw10354263622649633236 tw15070578781303725574 tw15697459081812743325 tw750605505254173074 tw6745652045969501361 tw448990400732263069 tw16061454563314523600 tw12187138681234678798 tw18147923242224507009 tw5129217402254772574 tw6101794914781145873 tw15645147349408745078 tw1532961823045090830 tw9680107251214424674 tw11779378607533905691 tw8626312067022777976 tw6168491156848564842 tw2310272613068765105 tw16122108536607304551 tw14091262711897946140 tw654055398921710415 tw752438664001856161 tw11082812747291037333 tw17720613791313187736 tw5185982266611357009 tw4923779845908541559 tw9790649181096081399 tw6734849453552688564 tw9267568783840577065 tw8436868531053796497 tw5011930110546313330 tw8562205623962804692 tw15259509715645699510 tw3126575167722991183 tw1905772203481599526 tw16521228487361109960 tw9466978497050625272 tw17297750520304798702 tw6561076195511282648 tw11329907618339855656 tw7973466089612851703 tw14067956104923610961 tw15283259542579778483 tw5573054129394731108 tw2580330301676670286 tw7970886147393467727 tw8192583951263878293 tw8091528771294299083 tw593154161239807349 tw15925884774848638539 tw13605959877037247101 tw5708248302522452901 tw9880144863136665317 tw13703530262398524310 tw15312110128046668232 tw11157865615647520782 tw17167420918584729690 tw12815578351764122133 tw9182206099413781431 tw10466694501327556581 tw5561274596613702746 tw6675604519141323197 tw9345118766124063310 tw5889941615753360478 tw11817492848182363798 tw17410421224534750018 tw7223095733880219677 tw14640650900510780824 tw5567724515687483806 tw3542792289930221973 tw5739863396237439856 tw10717977555466424854 tw8995123519885258671 tw5049869711987376827 tw2441447004000104453 tw8342172876442170773 tw7028225589164417458 tw12303165638208747336 tw16198177631839167884 tw4996844450624648172 tw10436990433708714241 tw5390563228312902539 tw5952483381859902644 tw3852633777274326999 tw9039307958484224623 tw15162826718409981836 tw3302306539294976881 tw14580111125152651796 tw11417629631682569598 tw16698689882059351459 tw15150759425779355464 tw18035930347264632125 tw13255872071489105159 tw1618409403174988130 tw12228868706382062411 tw6624904034936694174 tw17735916753482363243 tw54808207327172279 tw17163543078423377260 tw4120436156372486140 tw17476884725684326406 tw13335893356662817074 tw4444971835621942301 tw789734580427512384 tw14569029988729114219 tw15647769117918999185 tw14331983658757590299 tw3651800198494138915 tw9416002814540056859 tw7780312629314296965 tw17909291492413470969 tw4168269683669014455 tw17112510534939434542 tw16442550531236264377 tw18131391131952023913 tw17797426056391692211 tw1752967457713245757 tw14457428904612349136 tw10826732444876824988 tw3957207093464744032 tw2978628016885725288 tw10654058358423391425 tw1242905382749578199 tw7348922380460221092 tw10918529252159416827 tw9389706305465542553 tw2965109861153113570 tw4157262802141006972 tw2819549192751068288 tw16581308347557603854 tw5773814013873212246 tw802645413960178138 tw1582173516228871956 tw13481020170127973795 tw3222086975871703386 tw1550230210963305730 tw2269138047626845249 tw8200293459175095921 tw6149423695415421339 tw17130843029531595728 tw10803423037944932682 tw14807498947087199244 tw10672002925225789591 tw4307902166805345004 tw13693096086628781159 tw5380664027610943987 tw3778500213534664882 tw17340066273884552816 tw18346615992657287051 tw14794936708631394782 tw3031286205281384764 tw15845214038335919750 tw3174924361409397397 tw14877714404705655619 tw15534396628898157171 tw6544737245984256064 tw9200846388616832367 tw5492422498956753010 tw11320194814380737366 tw1563789891762635815 tw1233770109334016127 tw8483105620745892392 tw11448742890223683347 tw14241848420371668517 tw17507761682557355746 tw5316410255880775840 tw7030332369262788751 tw16175285714597692907 tw16850455087879383335 tw8786051613248936359 tw6143335100185422240 tw16206952661805767202 tw9567145047579820409 tw6698644802712306537 tw15934789435634450509 tw12491141326765347019 tw1696097441216801948 tw13699463533208147161 tw5966873598933442182 tw1961110225800038482 tw11216164752880912310 tw12981955486561307926 tw1753935816099273879 tw9210964851012538783 tw9592567562754665029 tw311685879581416826 tw1626557823902672064 tw6072308606490191277 tw13670082781186655400 tw6622135302517430502 tw14366920098906632382 tw4338935600159963677 tw9350451523308087087 tw16901242856889324691 tw17105822191235576735 tw18235836915696374897 tw1599176971146858501 tw2365579239093697023 tw9847704575213224892 tw15263485436315485370 tw11444394566561475251 tw2031733214490579378 tw16948088088956647958 tw9720650203602067064 tw6527323338155185875 tw13832087547014170943 tw15878027575133335653 tw12056346347880187432 tw9855350169036440549 tw12191630553014149410 tw1088313200485623686 tw2751677275665357524 tw17925231626165231585 tw6850743926296346967 tw247964298705867921 tw14563211494612403951 tw1571919408373382669 tw12647136579125757682 tw3339497799937809942 tw3902757761024004683 tw12100707499548617414 tw3780001855444076050 tw5271571001299944920 tw13075231638252992524 tw11048864268651714548 tw8319440787142542629 tw6075837542192655294 tw8733449582169917568 tw5886654833632751735 tw15595214026066185074 tw2688406772043981825 tw5788204473223973208 tw2236457466782828971 tw2206674617340209263 tw2840551374051877113 tw4805237275735891490 tw13709217359018609313 tw4113497991575161617 tw1990718616686432936 tw12101534726851801115 tw4478501002940122948 tw12159736508886246573 tw8669833893086449374 tw11655251739350833773 tw9156216344401471831 tw8107612540687217688 tw12841172806580316672 tw11511328046840713216 tw788645269016334503 tw11518184940302987229 tw9970758901812704430 tw6056348806938525801 tw2178312665283535936 tw17382162041939834524 tw15860773704497068418 tw10557618931979500805 tw1495440921198893027 tw4432842909774592832 tw8184227298896362405 tw9862643604784865581 tw12591378939658819524 tw2536328534915427841 tw12870755326679053758 tw3697459633978537656 tw9657990727503916987 tw10139332169275260791 tw2548459444309003736 tw192782855261624807 tw8906496763717830966 tw10369230246760778827 tw1986469305205400209 tw14204416950415352490 tw14087302887064553529 tw11661759595263590503 tw11084091466217188352 tw14877492334221894189 tw10351155561615048713 tw15418686099946527272 tw4194595099649945054 tw13185650025629854529 tw2027433577321639647 tw13158628905532856353 tw17505471252570692260 tw8291627525567407867 tw8556598211421083445 tw17562069310855413630 tw7780328878939157708 tw14181293976253644971 tw12026095654445335744 tw13808512491548369684 tw114494308963946295 tw10895429292365701931 tw9574163251441335199 tw15176837279524226489 tw7029876209317467555 tw1070984420159437405 tw1553744872754693433 tw12505265449848823975 tw9355585569579117136 tw5329088867876635310 tw15462369890803881173 tw4993315282978365698 tw13133524973307406208 tw4179450522300942431 tw18140093861370545971 tw12496842997366738230 tw12983956399234724022 tw12805629457819941286 tw5205002636088153263 tw4134312798566120486 tw2826004078001563337 tw3466651090730796887 tw9655511707991044424 tw2287444693944994165 tw11117445812460620440 tw17439486622910256897 tw8342078435294606419 tw8797653637786853076 tw15007136737142558984 tw11900432044341057930 tw11297272167002741671 tw5080145144606549071 tw12911447877560959206 tw8110156208424419339 tw953520647093614944 tw3834165070575898882 tw8063789356271210502 tw1628942388047441662 tw2000785555065253899 tw48686695794242575 tw3055981537312078362 tw13558610743512336296 tw7526939644096181624 tw18201312107227816613 tw13627279357824365725 tw9372932121139205581 tw14149860016501139818 tw15843341650585301690 tw10619658491184011225 tw13424154604234673714 tw13248288177647199948 tw5958776299810992909 tw12809068782939836718 tw1801267412234140250 tw12323035755679043967 tw13739450958315606862 tw12695731556846408718 tw4514288301372744229 tw15484406154805325491 tw14342364008174229740 tw14871563320223006402 tw5108597979869597774 tw5249146909258538878 tw8023734693028618120 tw16829380089801686066 tw14480262190888499210 tw6025450926473099983 tw18346478467203656120 tw495084152580788794 tw2953007921181985512 tw3148208126549204277 tw8401443395822054238 tw615072531727571636 tw590490439289554800 tw12833540614973978253 tw13319705876821082479 tw5071804333351567996 tw15673563534577402498 tw13815071778248329743 tw2981791288886506484 tw1572595743844150106 tw7685949232245152115 tw17257781062815145199 tw2310827451806575318 tw684760755586064656 tw2315543651219258063 tw9965289285993471977 tw1774147614146457137 tw8064990407692974833 tw12993437470260510503 tw11076441677482103539 tw11810136509266377749 tw3276794581000279552 tw3360260801725609871 tw16646931701522205284 tw13787258160693333035 tw3077007119512994227 tw5354360498881411202 tw1313274931864426463 tw5895218923721334061 tw2693472212334097190 tw409655349709699299 tw9498228343905060117 tw4988321115109940107 tw6384643481901947826 tw10735665296796880959 tw7545453670624027617 tw6589938440655935823 tw12974312583582906245 tw13323629282059488981 tw7626756780258101141 tw7785726707611269786 tw4835466771722829248 tw16116952104249711310 tw16163680277015801030 tw15536513308208734960 tw14038005908512170088 tw7991207017794194025 tw14184467701137436587 tw16417890638488893870 tw13325124806682116295 tw1142392611777735346 tw13294722493017337602 tw8918959600964062374 tw15192841313889262746 tw16170138128854746636 tw16174307025181202980 tw11707943371807345274 tw8622686061594521380 tw3665380614478142829 tw4361125656219466673 tw7321418960309904515 tw13780136072775827855 tw1594793893503453893 tw10914371828126310825 tw12232619621915467131 tw7628263935256989038 tw153616830396596192 tw11559836935408913907 tw17220816654056083905 tw3897016617105980380 tw15953724855770509438 tw9882759102045041311 tw14574512368588812840 tw9723556022253648703 tw769462280273178572 tw17788880172792000847 tw16499760573479857330 tw2694295022185681190 tw11338365945279348717 tw8759058849333832633 tw11226463906135622587 tw7599680823732512326 tw1209099094962795637 tw8201920753262730850 tw5050019773167095594 tw13309923623493761440 tw18147806824838689118 tw15183058526264325909 tw2173911856237870971 tw9581821186569962662 tw17130723171895824914 tw12647420264635992537 tw9429656051502448864 tw10928819208392832350 tw1212358857001135629 tw12776853969898225152 tw2934404023404333527 tw16507742586757394042 tw15436511101348624380 tw5253166122939080296 tw10988162821091254761 tw13062425998050885610 tw16039442686953556366 tw13861036035183539285 tw6729012981783299524 tw5912449074760382424 tw3304138260518288489 tw15236873973230520739 tw11762903752503825370 tw6424146947358513451 tw11358156524562219764 tw6168648272645303290 tw16113969319296386708 tw12836485860765926064 tw2264411206990649955 tw7875118161524022348 tw1771999808940819151 tw899298151665813705 tw12244209466030377387 tw8970680763130457906 tw485427122105910430 tw10476123971517727477 tw14886667108376315155 tw15178945573846111014 tw18008690824570642681 tw1352095284795310827 tw5997686088359673567 tw13392419701798297154 tw3068651747445644057 tw16090522807595980147 tw2962628025727858866 tw9891095733477041174 tw3799253556456285047 tw14951384679242750910 tw3572306983029775310 tw15124482423286596787 tw4257897678770508143 tw7425620948144890771 tw4556685651435346171 tw2179463915664975525 tw2685709643822260524 tw9790113313602042497 tw1269155832154509893 tw5380295692105358877 tw13332852338373324403 tw5897004601692437730 tw12990848547247109262 tw15240260594594781325 tw5366060531880530977 tw10706299506708812363 tw4726845213716658285 tw9733475938564482410 tw17472204111622721608 tw4615751886673686786 tw15984727769151618524 tw4863013417024947779 tw12901475559525320308 tw11378199213595004224 tw4490716955266159199 tw8903671681460929185 tw8520480858943002094 tw16742610520011708688 tw3872071015157041649 tw6140709812094054868 tw7973471704986989681 tw8993314577990311716 tw16098313094250600158 tw16313131488411888676 tw14571789200251484566 tw6470812695918324923 tw17547462977038186487 tw4883397531845720033 tw9785605064944598279 tw7733160769546639675 tw3352916689684897803 tw8517891463458528822 tw12700217749943612174 tw16652872119723111661 tw4786264732434104848 tw7037146364892385933 tw14965911987137199636 tw6140807837865115794 tw2269703533574537617 tw10544967330592067922 tw9758309417128867488 tw10512740645049168241 tw9267382499068768574 tw6385237720950883033 tw7936297626153366115 tw4009380575958938474 tw1371306722597778059 tw16994207478885323284 tw10948467542879980505 tw4744832317640038553 tw17247679821589169343 tw15149481917302591594 tw4664770484603832080 tw5430659896398644492 tw3812734020532002039 tw16126748573178260963 tw1979418410175495249 tw9490996849847900260 tw2669255403639617151 tw10187726310770499430 tw1941992381251354050 tw3537941682728066994 tw9990712039368613409 tw18202541937634533989 tw11486047542450841637 tw2297663232014250521 tw14412635021168483880 tw2359259168582285404 tw16466979686895061734 tw8407226501021743375 tw17561122773858037702 tw3216117607194981906 tw8289064032994899405 tw3949742381740985518 tw13773941317152624878 tw13769493727825573419 tw4674775060864841063 tw12495027362111783010 tw8289893106801500250 tw7080582312378537577 tw9622134571904548649 tw411486824623413042 tw5360091588959723825 tw1721925581538952452 tw10287223331200586665 tw18369215970256586962 tw1272037377990707109 tw5675290922758077973 tw12341125843199951559 tw17830223648618266926 tw7771520154507781997 tw3954762661889685913 tw12737114500870076649 tw10922182629180306967 tw13434884827762916885 tw8097811588498672230 tw16797651755852004649 tw10791596132746189423 tw394707929166619212 tw1690310639500029519 tw7286652661450194218 tw5730617389397354232 tw4871582847746283424 tw298819542266534292 tw338128054812225888 tw15068163418233887341 tw12661049965392215617 tw11626700428221884447 tw16102801825892333933 tw11458336211091491564 tw5177853912573796 tw3537295947545787491 tw16224285814017989099 tw5295766541248057210 tw13574551886524554995 tw11188340022127115815 tw10401990680948055906 tw4174675861434561607 tw10043922486801256841 tw1852180008994642156 tw14325795101811694374 tw6462873909461446173 tw15790295967233989196 tw5991407459675628831 tw7048054224402419457 tw9612399627751878911 tw1636555641455145908 tw16092334476325001287 tw4001661024397752410 tw7858248300330700789 tw7494392444694859472 tw7113910694163164697 tw9373800293827972440 tw14813036060351143438 tw2155630955460782090 tw6005774060096816464 tw15780276445439596406 tw11985229385414746011 tw9758578032657147971 tw584141817893985664 tw6098486934983190613 tw2750013220140242729 tw4721258233759344837 tw2690352079084590806 tw2043354815107335700 tw16448785977455733165 tw7925869950876056759 tw4958526827577763543 tw17195017686347265218 tw5378824373071654844 tw16358302246925629902 tw1936041089104976406 tw1544738172018053173 tw1552659550842923767 tw6836888416215140252 tw16444194056437649628 tw6172877883635828805 tw12944040450646350177 tw11492538793682245395 tw16661222208137025776 tw4683407088167996470 tw6267392039186307189 tw8672060155140077182 tw7302787244381815381 tw7060475149471807042 tw13074126413205101082 tw13929417247743030699 tw12820148952365223027 tw4343686324605165917 tw16895718298988567443 tw3184055084203843130 tw9358149877904981467 tw1365643252937495164 tw6956769527198923286 tw14648718757113805069 tw16168460549849317816 tw14664794304714113161 tw10134832283622773399 tw4080950183592519999 tw3288450119969101130 tw11589857238396545099 tw4987987055392027932 tw13676170047981001363 tw10303814130432727769:True)
open_shared sh for PySem.Challenge.pw_widewords_k18_simple_deeds_reckoned leaving 0
namespace hh
open PySem PySem.W PySem.Calls PyProof.Rows
noncomputable abbrev p:=PySem.Challenge.pw_widewords_k18_simple_deeds_reckoned
abbrev z:Pos:=⟨0,0,0,0⟩
abbrev an:Option Value:=some (.ref 6)
noncomputable abbrev bE:=behindTheImports p
noncomputable abbrev cE:Code:=.body bE sh.env_1
noncomputable abbrev H1(P:Params):Heap:=absHeap (sh.tree_1420 P) 1336 {}
noncomputable abbrev S0(w:World)(os:OsState):Shared:=⟨boot_heap w.params,⟨[]⟩,boot_drawn,boot_toks,os⟩
noncomputable abbrev Sb(w:World)(os:OsState):Shared:=SharedT.abs ⟨sh.tree_4 w.params,15,{},⟨[]⟩,{},187,os⟩
noncomputable abbrev Sk(w:World)(os:OsState):Shared:=SharedT.abs ⟨sh.tree_1420 w.params,1336,{},⟨[]⟩,{},2171,os⟩
theorem pre(w os):topGo treeTable p w 11 an 12 (S0 w os) (topStub p)=some (Sb w os,⟨denote treeTable cE,cE,z,[topFrame z]⟩):=by kernel_rfl
theorem blk(w os):segRun treeTable p w 11 an 1 1 (Sb w os) (blockOf bE sh.env_1 cE z [topFrame z])=some (.next,Sb w os,cE,z):=by kernel_rfl
theorem fin(w os):topRun treeTable p w 11 an 2 (Sk w os) (restOf [] sh.env_1 cE ⟨743,0,757,15⟩ [topFrame z])=some (Sk w os):=by kernel_rfl
theorem bod:bE=sh.sts_4++(sh.sts_21++(sh.sts_37++(sh.sts_53++(sh.sts_69++(sh.sts_85++(sh.sts_101++(sh.sts_117++(sh.sts_164++(sh.sts_245++(sh.sts_317++(sh.sts_397++(sh.sts_475++(sh.sts_569++(sh.sts_607++(sh.sts_661++(sh.sts_716++(sh.sts_780++(sh.sts_856++(sh.sts_941++(sh.sts_1014++(sh.sts_1073++(sh.sts_1107++(sh.sts_1159++(sh.sts_1164++(sh.sts_1251++(sh.sts_1329++(sh.sts_1412++[]))))))))))))))))))))))))))):=by kernel_rfl
theorem run(w os):topRun treeTable p w 11 an (12+(1+(196+(214+(214+(214+(214+(214+(214+(400+(371+(397+(383+(385+(398+(160+(400+(311+(426+(398+(389+(371+(277+(397+(307+(164+(522+(385+(378+(40+2)))))))))))))))))))))))))))))) (S0 w os) (topStub p)=some (Sk w os):=by
 refine go_top (pre w os) (piece_block (blk w os) ?_)
 have h:=sh.chain p bE w os [] 2 (Sk w os) (fin w os)
 rw[<-bod] at h
 exact h
noncomputable def q:Program:=view p [234]
noncomputable abbrev lo:List Str:=p.boundNames
theorem look(w:World):(fun os=>((staticsOk (importedModules p.main.body) (boot_heap w.params) (H1 w.params) && namesBound p (H1 w.params) && gensDone (Sk w os) && laidKept (boot_heap w.params) (H1 w.params)),openSeen q lo (importedModules p.main.body) (fun _=>true) true (Sk w os),(Sk w os).heap))=fun _=>(true,openGood q lo,H1 w.params):=by kernel_rfl
theorem left:LeftO p q lo (fun _=>true) Shared.heap (fun w=>H1 w.params) 17548:=.of_pieces (boot_open (by kernel_rfl) (by kernel_rfl) fun s=>by kernel_rfl) (fun w=>by kernel_rfl) run (by kernel_rfl) look
theorem inA{t:BT}{n:Nat}{f:Life}{K:Frag}(h1:K.all (fun x=>Nat.blt x.1 n)=true)(h2:K.map (fun x=>t.get x.1)=K.map fun x=>some x.2)(h3:K.map (fun x=>alive x.2)=K.map fun x=>some x.2):K.In (absHeap t n f):=by
 intro a o e
 induction K with
 | nil=>cases e
 | cons x r ih=>
  obtain ⟨b,y⟩:=x
  simp only[List.map_cons,List.cons.injEq,List.all_cons,Bool.and_eq_true] at h1 h2 h3
  by_cases hb:(a==b)=true
  · rw[List.lookup_cons,hb] at e
    cases e
    have:=beq_iff_eq.mp hb
    subst this
    rw[abs_get (Nat.le_of_ble_eq_true h1.1) h2.1]
    exact h3.1
  · rw[List.lookup_cons,eq_false_of_ne_true hb] at e
    exact ih h1.2 h2.2 h3.2 e
local macro_rules
 | `(panic! $s:str)=>do
  let mut a ← `(List.nil)
  for r in (s.getString.splitOn " ").reverse do
   match (r.splitOn ",").map String.toNat! with
   | [x,l,i]=>for j in [0:l] do
    let j:=l-1-j
    a ← `(List.cons (nat_lit $(Lean.Syntax.mkNumLit (toString (x+j))),$(Lean.mkIdent (if i==0 then .str `PySem.W s!"boot_o_{x+j}" else .str `sh s!"o_{i+j}")) P) $a)
   | _=>pure ()
  `(fun P=>$a)
noncomputable def KK:Params->Frag:=panic! "2,1,0 3,1,1412 15,1,7 22,2,14 24,1,119 25,1,17 28,1,24 35,3,31 40,1,40 47,3,47 52,1,56 59,3,63 64,1,72 71,3,79 76,1,88 83,3,95 88,1,104 95,3,111 100,1,120 107,3,127 112,18,132 131,2,151 134,3,154 138,2,158 141,2,161 143,1,166 146,3,169 150,2,173 153,4,176 158,2,181 161,4,184 166,2,189 169,4,192 174,2,197 177,3,200 181,2,204 184,3,207 188,2,211 191,3,214 195,2,218 198,3,221 202,2,225 205,3,228 209,2,232 212,3,235 216,2,239 219,2,242 221,1,247 223,2,249 226,9,252 236,2,262 239,3,265 243,2,269 246,3,272 250,2,276 253,3,279 257,2,283 260,9,286 270,2,296 273,3,299 277,2,303 280,3,306 284,2,310 287,3,313 290,3,319 294,2,323 297,3,326 301,2,330 304,3,333 308,2,337 311,3,340 315,2,344 318,3,347 322,2,351 325,3,354 329,2,358 332,3,361 336,2,365 339,3,368 343,2,372 346,3,375 350,2,379 353,3,382 358,3,387 362,2,391 365,2,394 367,1,399 369,2,401 372,3,404 376,2,408 379,3,411 383,2,415 386,3,418 390,2,422 393,3,425 397,2,429 400,3,432 404,2,436 407,3,439 411,2,443 414,15,446 430,2,462 433,3,465 437,2,469 440,2,472 442,1,477 444,2,479 447,3,482 451,2,486 454,3,489 458,2,493 461,3,496 465,2,500 468,3,503 472,2,507 475,3,510 479,2,514 482,3,517 486,2,521 489,3,524 493,2,528 496,3,531 500,2,535 503,3,538 507,2,542 510,3,545 514,2,549 517,3,552 521,2,556 524,3,559 528,2,563 531,2,566 533,1,571 535,2,573 538,3,576 542,2,580 545,3,583 549,2,587 552,3,590 556,2,594 559,3,597 563,2,601 566,2,604 568,15,609 584,2,625 587,3,628 591,2,632 594,3,635 598,2,639 601,3,642 605,2,646 608,3,649 612,2,653 615,2,656 617,1,663 619,2,665 622,3,668 626,2,672 629,3,675 633,2,679 636,3,682 641,3,687 645,2,691 648,3,694 652,2,698 655,3,701 660,3,706 664,2,710 667,2,713 676,1,725 678,2,727 681,3,730 685,2,734 688,3,737 692,2,741 695,3,744 699,2,748 702,3,751 707,3,756 711,2,760 714,3,763 718,2,767 721,7,770 730,1,782 732,2,784 735,3,787 740,3,792 744,2,796 747,3,799 752,3,804 756,2,808 759,3,811 763,2,815 766,3,818 770,2,822 773,10,825 784,2,836 787,3,839 791,2,843 794,3,846 798,2,850 801,2,853 803,1,858 805,2,860 808,3,863 812,2,867 815,3,870 819,2,874 822,3,877 826,2,881 829,3,884 833,2,888 836,3,891 840,2,895 843,3,898 847,2,902 850,3,905 855,3,910 859,2,914 862,3,917 866,2,921 869,3,924 873,2,928 876,3,931 880,2,935 883,2,938 885,1,943 887,2,945 890,3,948 894,2,952 897,3,955 901,2,959 904,3,962 908,2,966 911,3,969 915,2,973 918,3,976 922,2,980 925,3,983 929,2,987 932,3,990 936,2,994 939,3,997 943,2,1001 946,3,1004 950,2,1008 953,2,1011 955,1,1016 957,2,1018 960,3,1021 964,2,1025 967,3,1028 971,2,1032 974,3,1035 978,2,1039 981,3,1042 985,2,1046 988,3,1049 992,2,1053 995,3,1056 999,2,1060 1002,3,1063 1006,2,1067 1009,2,1070 1011,2,1075 1014,2,1078 1017,3,1081 1021,2,1085 1024,3,1088 1028,2,1092 1031,3,1095 1035,2,1099 1038,2,1102 1040,1,1109 1042,2,1111 1045,3,1114 1049,2,1118 1052,3,1121 1056,2,1125 1059,3,1128 1063,2,1132 1066,3,1135 1070,2,1139 1073,3,1142 1077,2,1146 1080,3,1149 1084,2,1153 1087,2,1156 1089,1,1160 1097,1,1173 1099,2,1175 1102,3,1178 1106,2,1182 1109,3,1185 1113,2,1189 1116,3,1192 1120,2,1196 1123,3,1199 1127,2,1203 1130,3,1206 1134,2,1210 1137,3,1213 1141,2,1217 1144,3,1220 1148,2,1224 1151,3,1227 1155,2,1231 1158,3,1234 1162,2,1238 1165,7,1241 1174,1,1253 1176,2,1255 1179,3,1258 1183,2,1262 1186,3,1265 1190,2,1269 1193,3,1272 1197,2,1276 1200,3,1279 1205,3,1284 1209,2,1288 1212,3,1291 1216,2,1295 1219,3,1298 1223,2,1302 1226,3,1305 1230,2,1309 1233,3,1312 1237,2,1316 1240,3,1319 1244,2,1323 1247,2,1326 1249,1,1331 1251,2,1333 1254,3,1336 1258,2,1340 1261,3,1343 1265,2,1347 1268,3,1350 1272,2,1354 1275,3,1357 1280,3,1362 1285,3,1367 1289,2,1371 1292,3,1374 1296,2,1378 1299,3,1381 1303,2,1385 1306,3,1388 1310,2,1392 1313,3,1395 1317,2,1399 1320,3,1402 1324,2,1406 1327,2,1409 1329,1,1414 1331,2,1416 1334,2,1419"
theorem inK(w:World):InK KK w (H1 w.params):=inA (K:=KK w.params) (by kernel_rfl) (by kernel_rfl) (by kernel_rfl)
theorem hd{d:DefRec}{k:List (Str×Expr)}(a:defOf q "law"=some (d,k))(b:p.theDef "law"=some (d.params,d.body,d.scope))(c:kwWritten? d.params.kwonlyargs d.params.kw_defaults=some k)(h:WalkO q lo (fun _ _=>True) (InK KK) PySem.Challenge.rw_widewords_k18_simple_deeds_reckoned.row.toRowW d k fun f vs=>PySem.call f vs):PySem.Challenge.rw_widewords_k18_simple_deeds_reckoned.Holds:=by
 w_on;o_law
 refine holds_open left (YP:=InK KK) (XP:=fun _ _=>True) (fun w s e=>e ▸ inK w) InK.keeps (fun _ _=>trivial) (fun _ _ _ _ _=>trivial) a b c (fun s _=>recFacts_nil rfl) (by rfl) (by assumption) (by decide +kernel) ⟨rfl,rfl,rfl,rfl,rfl,by decide +kernel⟩ ?hw h
 w_witness2
end hh
set_option compiler.extract_closed false
set_option bootstrap.genMatcherCode false
set_option genSizeOf false
local macro_rules | `(tactic| ac_rfl)=>`(tactic| with_unfolding_all rfl)
open Option renaming some->AA,none->AC,isSome_iff_exists->Aq,getD_some->Ba,bind_some->Bk,any_eq_true_iff_get->Cd,map_some->D3,get_some->Ej,getD_none->GB
open Bool renaming true->AB,false->AD,and_eq_true->AK,false_ne_true->Av,false_eq_true->BU,and_self->CN,not_eq_true'->C8,or_eq_true->Ct,eq_iff_iff->Cu,true_and->DU,true_or->Ea,false_or->FR,false_and->G1,or_false->Gf,or_true->Gv
open PySem.W renaming Frag->AE,keepIn->An,findIn->As,nsIn->BF,kitOne->BV,fnOf->BX,emptyDict->B0,instObj->Bp,codeIn->CA,kia_one->C4,plainGet->Ch,isFn->Ci,hideAll->Cq,callWith_K->Cw,hasDictIn->DA,makesIn->DZ,plainGet_of->D6,lookIn->Dj,methodObj->Dz,plainOver->EA,mg_of->EJ,OpenLaw->EU,cellsFrom_some->EX,takerIn->Ef,methodCall_KW->En,hideAll_get->FC,callWith_K0->FG,excIn->FT,of_hideAll->FY,handedIn->Fw,WalkO->GX,Rel2->Gp
open PySem renaming Value->AF,wpAny_bind->AH,Addr->AI,Shared->AJ,Str->AQ,Expr->AS,wpAny_pure->AV,wpAny->A3,Program->A7,World->Ag,Around->Am,Heap->Ay,FuncData->Az,wpAny_field->BM,wpAny_truthy_bool->BR,Env->BS,wpAny_Call_Name_kw->BT,wpAny_callSpecial?_slot->B8,Scope->Bc,wpAny_newObj_type->Bf,wpAny_pyIter_tuple->Bj,Stmt->Bn,Obj->Bs,DictEntry->By,wpAny_passesOwn->CF,Pos->CH,wpAny_mono->CL,IsPair->CO,Keyword->CQ,mem_of_lookup->CS,wpAny_call_entry->CT,wpAny_seqItems->CU,wpAny_setField_rec->C3,NameKind->DB,strKind_is->DP,wpAny_holding->DS,Operator->DW,sizeLine_eq->DX,wpAny_execs_nil->DY,codeAny_mono->D7,wpAny_pyIter_list->EB,IsZip->EF,wpAny_standAt->EI,PassesOwn->EL,noFill_tuple_add->EQ,wpAny_rule->EV,IsPart->EY,wpAny_loadName_local->Ep,wpAny_setField->Et,wpAny_updateSeq_pair->Eu,BindsTo->Ez,wpAny_loadName_cell->FD,CmpOp->FN,seq_tuple_add->FO,wpAny_onRaise->FU,tupleKind_room_in1->F1,Within->F4,concat_meets->Fa,wpAny_sequenceKey->Fb,wpAny_typeOf->Fc,slot_list_getitem->Fd,wpAny_pyIter_enum->Fg,ZipApart->Fi,wpAny_execs_cons->Fu,wpAny_pyIter_zip->GJ,wpAny_getItem_of->GL,seqIndex_of->GN,Paired->GY,wpAny_Name->G0,Result->G2,wpAny_call->G3,typeIs_str->G5,call->G6,Sem->Gd,Builtin->Gn,BoolOp->Gr,Tok->HQ
open PySem.Str renaming ofString->AG,empty->Fx
open List renaming getElem?_cons_succ->AL,getElem?_cons_zero->AM,map_cons->AO,getElem?_set_ne->AR,length_cons->AT,mem_cons_of_mem->AX,size_toArray->AZ,set_cons_zero->A1,set_cons_succ->A2,mem_of_getElem?->A4,getElem?_set_self->A8,replicate->Ac,mem_cons->Ad,getElem?_append_left->Ae,getElem?_append_right->Al,cons_append->Ao,length_nil->Ap,map_nil->Ar,nil_append->Aw,mem_cons_self->BA,mem_append_right->BB,getElem?_eq_some_iff->BE,any_cons->BH,length_map->BK,getElem?_eq_none->BO,length_set->BW,all_cons->B5,lookup_cons->B9,all_eq_true->Bb,length_append->Bi,getElem?_map->Bo,find?_cons->Bq,lookup->Bw,append_nil->CG,filterMap_cons->CP,not_mem_nil->CV,length->CY,range->C0,getElem?_set->C7,getElem?_eq_getElem->Cp,mem_append->Cr,reverse_cons->DE,filterMap->DF,set_set->DJ,append_assoc->DL,mem_iff_getElem?->DN,nodup_cons->D0,foldl_cons->D2,mem_filterMap->Dh,zip_cons_cons->Dp,getElem?_eq_none_iff->Dv,drop_eq_getElem_cons->Dw,pairwise_iff_getElem->Dx,ext_getElem?->EG,length_take->EN,getElem?_replicate->EO,any_eq_true->ES,range_succ_eq_map->Ed,of_mem_zip->Eg,forIn_cons->Eh,length_singleton->Em,mem_append_left->Eo,length_pos_iff->FL,isEmpty_cons->Fh,length_drop->GA,isEmpty_nil->GE,take_length->GF,drop_length->GG,zipIdx_cons->GH,mem_filter->GQ,zipIdx_nil->GU,mem_range->GZ,forIn_nil->G8,set_comm->Ge,any_map->Gu
open PySem.Heap renaming get?_push_of_some->AN,lt_size->AW,get?_push_size->A0,size_push->Bl,SameBut->C1,get?_update_other->DD,get?_update_self->Ek,IsTuple->Fe,MadeExcOf->G7,FlyingW->Go
open Nat renaming le_refl->AU,lt_of_lt_of_le->A6,ne_of_lt->Ah,pow_le_pow_right->Au,zero_add->BJ,le_trans->BQ,reduceSub->B7,reduceAdd->Bd,mul_le_mul->Bm,le_succ->Ca,reduceLeDiff->Cj,lt_irrefl->Cn,zero_le->Cy,lt_or_ge->DI,le_add_right->DO,and_two_pow_sub_one_eq_mod->DQ,mod_two_eq_zero_or_one->Dr,and_lt_two_pow->Ds,xor_lt_two_pow->Dt,reduceEqDiff->ET,ne_of_gt->EW,xor_mod_two_pow->FH,and_mod_two_pow->FI,and_div_two_pow->FJ,xor_div_two_pow->FK,or_mod_two_pow->F3,le_of_lt->F5,or_lt_two_pow->Fk,pow_succ->Fm,lt_succ_self->Fy,pow_pos->GP,mod_lt->G9,le_of_eq->Gk,mul_comm->Gw
open Option.some renaming inj->AY
open Int renaming emod_eq_of_lt->A5,pow_pos->A9,emod_lt_of_pos->Aa,mul_comm->Ai,pow_succ->Aj,emod_nonneg->Ak,ediv_eq_zero_of_lt->BG,pow_mul->BN,ediv_lt_of_lt_mul->BP,mul_le_mul_of_nonneg_right->BY,emod_add_mul_ediv->B4,mul_assoc->Be,add_mul_emod_self_right->Bv,toNat_natCast->CJ,one_mul->CK,ediv_ediv_of_nonneg->CW,sub_mul->CZ,le_ediv_of_mul_le->C6,mul_one->C9,add_mul_emod_self_left->Cf,mul_nonneg->Cg,ediv_nonneg->Cv,fdiv_eq_ediv_of_nonneg->Di,add_emod_right->Du,add_mul->ED,add_comm->Ec,pow_zero->Ee,toNat_of_nonneg->FM,add_zero->Fp,zero_add->Fq,le_of_lt->Fr,natCast_emod->GM,natCast_add->GV,mul_le_mul->Ga,ediv_one->Gm,reduceEq->Gx,emod_one->Gy,mul_sub->HF,mul_add->HG,neg_mul->HH
open PySem.Builtin renaming bitAnd->Ab,bitXor->Ax,bitOr->BD,bitNot->Ew
open PySem.Value renaming ref->Af,none->Bz,bool->Da,int->EK,type->FX,str->Ft,isStrOf->Gc,isInt->Gz,bytes->HA,float->HB
open PyProof.Rows renaming slot_tuple_getitem->BC,callWith_type1->Bu,AllBare->DR,assignInOrder_cons->De,subscriptTail_builtinR->EZ,tupleItemsOf_->FA,IntsAre->FB,entry_tuple_getitem->FE,args_tuple_getitem->FZ,assignInOrder_nil->F6,callWith_builtin1->Fz,boot_isinstance->GT,iadd_int->GW,Subscript_->G4,IsTup->HC
open Ne renaming symm->BI
open PySem.Builtin.SmallTypes renaming nextOf->BL,ownedTupleIsFree->B6,ownedTupleHandOut->Cm
open PySem.PyData renaming eqv->BZ,canLay0->Cc,depth->DH,eqvAll->DV,keyHash->Dq,canLayAll0->EC,depthAll->Ei
open False renaming elim->Bg
open PySem.Challenge renaming rw_widewords_k18_simple_deeds_reckoned->Br,pw_widewords_k18_simple_deeds_reckoned->D5
open Array renaming length_toList->Bt,append_assoc->Db,getElem?_eq_some_iff->Do,toList->Gj
open PySem.F renaming slot_tuple_iterator_next->CB,args_tuple_add_2->Co,entry_tuple_add->Cz,slot_tuple_add->DC,slot_dict_get->DM,args_tuple_iterator_next_1->D1,slot_zip_next->D4,entry_tuple_iterator_next->D8,slot_dict_getitem->Dy,args_dict_get_3->ER,entry_dict_get->Eb,slot_list_append->El,args_zip_next_1->Fj,entry_zip_next->GI
open PySem.Heap.FunFrames renaming mem->CC
open PySem.Builtin.Slice renaming slicePlaces->CD,sliceAdjust->Ck,sliceApplied->Dm,slicePartIndex->GR,sliceFields->Gb
open PySem.Builtin.Tuple renaming tupleExact->CM,tupleItemsOf->Dn
open True renaming intro->C2
open PySem.NameKind renaming free->C5,cell->FP
open PySem.Value.type renaming inj->Cb
open Eq renaming refl->DG
open PySem.Builtin.Str renaming strSliceIndices->D9,occurrences->EM
open PySem.Calls renaming Name_function_global->Dd,spliced_cons->Dl,callWith_builtin->E9,evalArgs_plain->Es,spliced_nil->F9
open PySem.Paired renaming length->EH,snoc->HE
open PySem.Obj renaming mapSeq->E8,data_mapFields->F0
open Sum renaming inl->Ex,inr->Ey
open PySem.Heap.SameBut renaming update->FF
open PyProof.Rows.LSm renaming kept_iter->FQ
open PySem.SeqAt.EqAt renaming int_str->FV,str_int->FW
open PySem.ScopeKind renaming function->F2
open PySem.Around renaming under->F7
open PySem.Code renaming isFrame->F8,frames->HD
open PySem.WalksT renaming enumerateD->Ff
open PyProof.Rows.IsTup renaming new->Fv
open PySem.Shared renaming heap->GO
open ForInStep renaming yield->GS
open PySem.Builtin.Range renaming rangeSize->Gg
open PySem.Heap.UpToSlots renaming of_keeps->Gh
open And renaming intro->Gi
open PySem.SeqAt renaming shaped->Gq,EqAt->HK
open PySem.W.Looks renaming here->HI
open PySem.Heap.IsSliceOf renaming new->HJ
open PySem.W.WShape renaming has->HL
open PySem.Walks renaming list->HM
open PySem.Within renaming cons->HN
open List.Pairwise renaming nil->HP
open PySem.W.WData renaming int->HR
noncomputable section
open Lean in
def cnvP:Nat->Syntax->MacroM (TSyntax `rcasesPat)
 |0,_=>Macro.throwUnsupported
 |n+1,s=>do
  if s.isOfKind ``Lean.Parser.Term.anonymousCtor then `(rcasesPat| ⟨$[$(← s[1].getSepArgs.mapM (cnvP n)):rcasesPat],*⟩)
  else if s.isIdent then `(rcasesPat| $(⟨s⟩):ident)
  else if s.isOfKind ``Lean.Parser.Term.hole then `(rcasesPat| _)
  else Macro.throwUnsupported
local macro_rules | `(tactic| let $p:term := $e)=>do `(tactic| obtain $(← cnvP 9 p):rcasesPat := $e)
local macro_rules | `(tactic| erw [$rs,*] $(l)?)=>do
 let t<-rs.getElems.mapM λ|`(Lean.Parser.Tactic.rwRule| $t:term)=>`(Lean.Parser.Tactic.simpLemma| $t:term)|_=>Lean.Macro.throwUnsupported
 `(tactic| simp only[$t,*] $(l)?)
local macro_rules | `(fun $bs* => $b)=>do
 if !(bs.any λx=>x.raw.isOfKind ``Lean.Parser.Term.anonymousCtor)||(b.raw.find? λx=>x.isOfKind ``Lean.Parser.Term.syntheticHole).isSome then Lean.Macro.throwUnsupported
 `(by rintro $[$(← bs.mapM λx=>cnvP 9 x.raw):rcasesPat]*;exact $b)
set_option backward.eqns.nonrecursive false
namespace L2
open PySem PySem.Spec PyProof.Rows
abbrev Key:=Sum Int AQ
def ybw:Key->AF->Bool
 |.inl k,v=>Gz k v
 |.inr x,v=>Gc x v
def yfV(w:Ag):Key->Int
 |.inl k=>hashInt k
 |.inr x=>hashStr w x
theorem zw:∀{k:Key} {v:AF},ybw k v=AB->(∃i t,k=Ex i/\v=EK i t) \/ (∃x t,k=Ey x/\v=Ft x t)
 |.inl i,v,h=>by
  let⟨t,e⟩:=Value.isInt_shape (k:=i) (v:=v) h;exact .inl ⟨i,t,rfl,e⟩
 |.inr x,v,h=>by
  let⟨t,e⟩:=Value.isStrOf_shape (x:=x) (v:=v) h;exact .inr ⟨x,t,rfl,e⟩
theorem zhp(i:Int)(t:HQ):ybw (.inl i) (.int i t)=true:=by simp[ybw,Gz]
theorem zgG(x:AQ)(t:HQ):ybw (.inr x) (.str x t)=true:=by simp[ybw,Gc]
theorem zlx(a b:Int):decide ((Ex a:Key)=Ex b)=(a==b):=by
 by_cases e:a=b
 .subst e;simp
 .have h:¬(Ex a:Key)=Ex b:=λq=>e (Sum.inl.inj q);rw[decide_eq_false h];exact(beq_eq_false_iff_ne.mpr e).symm
theorem zmc(a b:AQ):decide ((Ey a:Key)=Ey b)=decide (a=b):=by
 by_cases e:a=b
 .subst e;simp
 .have h:¬(Ey a:Key)=Ey b:=λq=>e (Sum.inr.inj q);rw[decide_eq_false h,decide_eq_false e]
theorem znm(a:Int)(b:AQ):decide ((Ex a:Key)=Ey b)=false:=decide_eq_false (λq=>nomatch q)
theorem zmf(a:AQ)(b:Int):decide ((Ey a:Key)=Ex b)=false:=decide_eq_false (λq=>nomatch q)
def yL(prog:A7)(w:Ag):PySem.KeyKind prog w Key where
 is:=ybw
 hash:=yfV w
 inj:=λv a b ha hb=>by
  rcases zw ha with⟨i,t,rfl,rfl⟩|⟨x,t,rfl,rfl⟩
  .rcases zw hb with⟨j,u,rfl,e⟩|⟨y,u,rfl,e⟩
   .injection e with e1 _;rw[e1]
   .exact nomatch e
  .rcases zw hb with⟨j,u,rfl,e⟩|⟨y,u,rfl,e⟩
   .exact nomatch e
   .injection e with e1 _;rw[e1]
 byValue:=λk v h=>by
  rcases zw h with⟨i,t,rfl,rfl⟩|⟨x,t,rfl,rfl⟩<;>rfl
 pyHash:=λhv h=>by
  rcases zw hv with⟨i,t,rfl,rfl⟩|⟨x,t,rfl,rfl⟩
  .exact wpAny_pyHash_int h
  .exact wpAny_pyHash_str h
 eqBool:=λhu hv h=>by
  rcases zw hu with⟨i,t,rfl,rfl⟩|⟨x,t,rfl,rfl⟩
  .rcases zw hv with⟨j,u,rfl,rfl⟩|⟨y,u,rfl,rfl⟩
   .rw[zlx]at h;exact wpAny_eqBool_int h
   .rw[znm]at h;exact FV i t y u _ _ _ _ h
  .rcases zw hv with⟨j,u,rfl,rfl⟩|⟨y,u,rfl,rfl⟩
   .rw[zmf]at h;exact FW x t j u _ _ _ _ h
   .rw[zmc]at h;exact wpAny_eqBool_str h
 «strs»:=λk x t v h=>by
  rcases zw h with⟨i,u,rfl,e⟩|⟨y,u,rfl,e⟩
  .exact nomatch e
  .injection e with e1 _;subst e1
   cases v<;>rfl
theorem zeU(prog:A7)(w:Ag)(i:Int)(t:HQ):(yL prog w).is (.inl i) (.int i t)=true:=zhp i t
theorem zfe(prog:A7)(w:Ag)(x:AQ)(t:HQ):(yL prog w).is (.inr x) (.str x t)=true:=zgG x t
inductive V where
 |non|bl (b:Bool)|int (i:Int)|str (x:AQ)|byt (b:Array UInt8)|flt (b:UInt64)|ref (a:AI)|ty (n:String)
 deriving DecidableEq
def RelV:V->AF->Prop
 |.non,u=>u=Bz
 |.bl b,u=>u=Da b
 |.int i,u=>∃t,u=EK i t
 |.str x,u=>∃t,u=Ft x t
 |.byt b,u=>∃t,u=HA b t
 |.flt b,u=>∃t,u=HB b t
 |.ref a,u=>u=Af a
 |.ty n,u=>u=FX n
abbrev Vals:List V->List AF->Prop:=GY RelV
theorem Vals.length{xs:List V}{us:List AF}(r:Vals xs us):xs.length=us.length:=EH r
theorem Vals.get:∀{xs:List V} {us:List AF} {i:Nat} {x:V},Vals xs us->xs[i]?=AA x->∃u,us[i]?=AA u/\RelV x u
 |_,_,_,_,.nil,e=>by simp at e
 |_,_,0,_,.cons r _,e=>by simp at e;subst e;exact⟨_,rfl,r⟩
 |_,_,i+1,x,.cons _ t,e=>by
  let⟨u,h1,h2⟩:=Vals.get (i:=i) (x:=x) t (by simpa using e);exact⟨u,by simpa using h1,h2⟩
theorem Vals.set{x:V}{u:AF}(r:RelV x u):∀{xs:List V} {us:List AF} (i:Nat),Vals xs us->Vals (xs.set i x) (us.set i u)
 |_,_,_,.nil=>.nil
 |_,_,0,.cons _ t=>.cons r t
 |_,_,i+1,.cons q t=>.cons q (Vals.set r i t)
theorem Vals.append:∀{xs ys:List V} {us ws:List AF},Vals xs us->Vals ys ws->Vals (xs++ys) (us++ws)
 |_,_,_,_,.nil,s=>s
 |_,_,_,_,.cons r t,s=>.cons r (Vals.append t s)
theorem Vals.take:∀{xs:List V} {us:List AF} (n:Nat),Vals xs us->Vals (xs.take n) (us.take n)
 |_,_,0,_=>.nil
 |_,_,_+1,.nil=>.nil
 |_,_,n+1,.cons r t=>.cons r (Vals.take n t)
theorem Vals.drop:∀{xs:List V} {us:List AF} (n:Nat),Vals xs us->Vals (xs.drop n) (us.drop n)
 |_,_,0,r=>r
 |_,_,_+1,.nil=>.nil
 |_,_,n+1,.cons _ t=>Vals.drop n t
theorem Vals.none_of:∀{xs:List V} {us:List AF} {i:Nat},Vals xs us->xs[i]?=AC->us[i]?=none:=λ{xs us i} r e=>by
 have h1:=r.length;have h2:xs.length<=i:=Dv.mp e;exact Dv.mpr (by lia)
def ybb:Option V->Option AF->Prop
 |some v,AA u=>RelV v u
 |none,AC=>True
 |_,_=>False
def KV{κ:Type}:List (κ×V)->List (κ×AF)->Prop:=GY λ(p:κ×V) (q:κ×AF)=>p.1=q.1/\RelV p.2 q.2
def kV:Key->V
 |.inl i=>.int i
 |.inr x=>.str x
inductive HO where
 |lst (xs:List V)
 |tup (xs:List V)
 |dK (kvs:List (Key×V))|dT (kvs:List (List Key×V))
 |set (S:Int->Bool) (n:Nat)
 |ins (C dx:AI) (fs:List (AQ×V))
 |own (x:AI)
 |xd (fs:List (AQ×V))
 |met (f x:AI)
 |rng (lo hi:Int)
 |frz (o:Bs) (u:HO)
 |tbl (ps:Array AF)
 |ext (φ:Ay->Prop)
abbrev Hp:=AI->Option HO
def upd(H:Hp)(a:AI)(o:HO):Hp:=λb=>if b=a then AA o else H b
theorem zp{H:Hp}{a:AI}{o:HO}:upd H a o a=AA o:=by unfold upd;rw[if_pos rfl]
theorem zh{H:Hp}{a b:AI}{o:HO}(h:b≠a):upd H a o b=H b:=by unfold upd;rw[if_neg h]
theorem znT{H:Hp}{a b:AI}{o u:HO}(h:H a=AA o)(h':H b=AA u)(d:o≠u):a≠b:=by
 intro e;subst e;rw[h]at h';exact d (AY h')
theorem zl{H:Hp}{a b:AI}{o:HO}(h:H a=AA o)(h':H b=AC):a≠b:=by
 intro e;subst e;rw[h]at h';cases h'
section
variable (P:A7)(w:Ag)
def yP(H:Hp)(h:Ay)(a:AI):HO->Prop
 |.lst xs=>xs.length<=sizeLine/\∃(its:List AF) (n:Nat),Vals xs its/\h.get? a=AA {cls:=.type "list",data:=.seq its.toArray n}
 |.tup xs=>xs.length<=sizeLine/\∃its:List AF,Vals xs its/\HC h a its.toArray
 |.dK kvs=>kvs.length<=sizeLine/\(a==sysModules)=AD/\∃vs,KV kvs vs/\h.DictOf (yL P w) a vs
 |.dT kvs=>kvs.length<=sizeLine/\(a==sysModules)=AD/\∃xs:List (List Key×AI×AF),
   GY (λ(p:List Key×V) (q:List Key×AI×AF)=>p.1=q.1/\H q.2.1=AA (.tup (p.1.map kV))/\RelV p.2 q.2.2) kvs xs /\
   ∃o es ep,h.get? a=AA o/\o.ExactDict/\o.data=.dict es ep/\es.toList=xs.map (entryOfKey (tupleKind (yL P w)))/\(xs.map (·.1)).Nodup
 |.set S n=>h.SetOf (intKind P w) a S n
 |.ins C dx fs=>H dx=AA (.own a)/\fs.length<=1000/\dx≠a/\h.get? a=AA (Bp C dx) /\
   ∃mA,h.Ns1 dx mA/\(∀f,ybb (fs.lookup f) (mA f))/\F4 mA (fs.map (·.1))
 |.own _=>∃o,h.get? a=AA o
 |.xd fs=>∃mA,h.Ns1 a mA/\∀f,ybb (fs.lookup f) (mA f)
 |.rng lo hi=>∃t u v,h.get? a=AA {cls:=.type "range",data:=.fields #[.int lo t,.int hi u,.int 1 v]}
 |.frz o u=>h.get? a=AA o/\yP H h a u
 |.tbl ps=>h.get? a=AA {cls:=.none,data:=.fields ps}
 |.met f x=>h.get? a=AA (Dz (.ref f) (.ref x))
 |.ext φ=>φ h/\(∃o,h.get? a=AA o)/\∀h1 h2:Ay,φ h1->(∀o,h1.get? a=AA o->h2.get? a=AA o)->φ h2
def HOk(H:Hp)(h:Ay):Prop:=∀a o,H a=AA o->yP P w H h a o
end
section
variable {P:A7}{w:Ag}{H H':Hp}{h h':Ay}{a:AI}{o:HO}
theorem yP.lt(x:yP P w H h a o):a<h.objs.size:=by
 cases o with
 |lst xs=>let⟨_,_,_,_,e⟩:=x;exact AW e
 |tup xs=>let⟨_,_,_,p⟩:=x;exact p.lt
 |dK kvs=>let⟨_,_,_,_,o,_,_,e,_⟩:=x;exact AW e
 |dT kvs=>let⟨_,_,_,_,o,_,_,e,_⟩:=x;exact AW e
 |set S n=>let⟨o,_,_,_,e,_⟩:=x;exact AW e
 |ins C dx fs=>let⟨_,_,_,e,_⟩:=x;exact AW e
 |own y=>let⟨_,e⟩:=x;exact AW e
 |xd fs=>let⟨_,⟨_,_,_,e,_⟩,_⟩:=x;exact AW e
 |rng lo hi=>let⟨_,_,_,e⟩:=x;exact AW e
 |frz ob u=>let⟨e,_⟩:=x;exact AW e
 |tbl ps=>exact AW (show h.get? a=AA _ from x)
 |met f y=>exact AW (show h.get? a=AA _ from x)
 |ext φ=>let⟨_,⟨_,e⟩,_⟩:=x;exact AW e
theorem Paired.mapP{α β:Type}{F G:α->β->Prop}:∀{l₁:List α} {l₂:List β},GY F l₁ l₂->(∀a b,F a b->G a b)->GY G l₁ l₂
 |_,_,.nil,_=>.nil
 |_,_,.cons r t,f=>.cons (f _ _ r) (Paired.mapP t f)
theorem yP.stay(x:yP P w H h a o)(k:∀b u,(b=a \/ H b=AA (.own a))->h.get? b=AA u->h'.get? b=AA u)
  (ho:∀b,H b=AA (.own a)->H' b=AA (.own a)) (ht:∀b xs,H b=AA (.tup xs)->H' b=AA (.tup xs)):yP P w H' h' a o:=by
 induction o with
 |lst xs=>let⟨z,its,n,r,e⟩:=x;exact⟨z,its,n,r,k _ _ (.inl rfl) e⟩
 |tup xs=>let⟨z,its,r,ob,e,c⟩:=x;exact⟨z,its,r,ob,k _ _ (.inl rfl) e,c⟩
 |dK kvs=>let⟨z,y,vs,r,ob,es,ep,e,c⟩:=x;exact⟨z,y,vs,r,ob,es,ep,k _ _ (.inl rfl) e,c⟩
 |dT kvs=>
  let⟨z,y,xs,r,ob,es,ep,e,c⟩:=x;exact⟨z,y,xs,Paired.mapP r λp q z=>⟨z.1,ht _ _ z.2.1,z.2.2⟩,ob,es,ep,k _ _ (.inl rfl) e,c⟩
 |set S n=>let⟨ob,es,ep,t,e,c⟩:=x;exact⟨ob,es,ep,t,k _ _ (.inl rfl) e,c⟩
 |ins C dx fs=>
  let⟨d,z,ne,e,mA,⟨od,es,ep,e2,c⟩,r⟩:=x;exact⟨ho _ d,z,ne,k _ _ (.inl rfl) e,mA,⟨od,es,ep,k _ _ (.inr d) e2,c⟩,r⟩
 |own y=>let⟨ob,e⟩:=x;exact⟨ob,k _ _ (.inl rfl) e⟩
 |xd fs=>let⟨mA,⟨od,es,ep,e,c⟩,r⟩:=x;exact⟨mA,⟨od,es,ep,k _ _ (.inl rfl) e,c⟩,r⟩
 |rng lo hi=>let⟨t,u,v,e⟩:=x;exact⟨t,u,v,k _ _ (.inl rfl) e⟩
 |frz ob u ih=>let⟨e,q⟩:=x;exact⟨k _ _ (.inl rfl) e,ih q⟩
 |tbl ps=>
  have e:h.get? a=AA {cls:=.none,data:=.fields ps}:=x;show h'.get? a=AA {cls:=.none,data:=.fields ps};exact k a _ (.inl rfl) e
 |met f y=>
  have e:h.get? a=AA (Dz (.ref f) (.ref y)):=x;show h'.get? a=AA (Dz (.ref f) (.ref y));exact k a _ (.inl rfl) e
 |ext φ=>let⟨p,⟨o,e⟩,st⟩:=x;exact⟨st _ _ p λo q=>k _ _ (.inl rfl) q,⟨o,k _ _ (.inl rfl) e⟩,st⟩
theorem HOk.lt(x:HOk P w H h)(e:H a=AA o):a<h.objs.size:=(x a o e).lt
theorem HOk.fresh(x:HOk P w H h)(e:h.objs.size<=a):H a=none:=by
 cases q:H a with
 |none=>rfl
 |some u=>exact absurd (A6 (x.lt q) e) (Cn _)
theorem HOk.kept(x:HOk P w H h)(k:∀b u,h.get? b=AA u->h'.get? b=AA u):HOk P w H h':=λa o e=>
 (x a o e).stay (λb u _ q=>k b u q) (λ_ q=>q) λ_ _ q=>q
theorem HOk.laid(x:HOk P w H h)(k:∀b u,h.get? b=AA u->h'.get? b=AA u)(hp:h.objs.size<=a)(new:yP P w (upd H a o) h' a o):HOk P w (upd H a o) h':=λb u e=>by
 have hn:=x.fresh hp
 by_cases hb:b=a
 .subst hb;rw[zp]at e;cases e;exact new
 .rw[zh hb]at e;exact(x b u e).stay (λc v _ q=>k c v q) (λc q=>by rw[zh (zl q hn)];exact q) λc xs q=>by rw[zh (zl q hn)];exact q
end
def Rd(H:Hp)(a:AI)(u:HO):Prop:=H a=AA u \/ ∃o,H a=AA (.frz o u)
theorem Rd.of{H:Hp}{a:AI}{u:HO}(h:H a=AA u):Rd H a u:=.inl h
theorem Rd.ok{P:A7}{w:Ag}{H:Hp}{h:Ay}{a:AI}{u:HO}(r:Rd H a u)(x:HOk P w H h):yP P w H h a u:=by
 rcases r with r|⟨o,r⟩
 .exact x a u r
 .let⟨_,q⟩:=x a _ r;exact q
def Mut:Option HO->Prop
 |some (.lst _)=>True
 |some (.dK _)=>True
 |some (.dT _)=>True
 |some (.set _ _)=>True
 |some (.ins _ _ _)=>True
 |some (.ext _)=>True
 |_=>False
section
variable {P:A7}{w:Ag}{H:Hp}{h h':Ay}{x e:AI}{o':HO}
theorem HOk.write(ok:HOk P w H h)(mu:Mut (H x))(he:e=x \/ H e=AA (.own x))(k:∀b u,b≠e->h.get? b=AA u->h'.get? b=AA u)(heo:∃u,h'.get? e=AA u)
  (new:yP P w (upd H x o') h' x o'):HOk P w (upd H x o') h':=λb u q=>by
 have nown:∀c y,H c=AA (.own y)->c≠x:=λc y r z=>by subst z;rw[r]at mu;exact mu
 have ntup:∀c xs,H c=AA (.tup xs)->c≠x:=λc xs r z=>by subst z;rw[r]at mu;exact mu
 by_cases hb:b=x
 .subst hb;rw[zp]at q;cases q;exact new
 .rw[zh hb]at q
  by_cases hbe:b=e
  .have q':H b=AA (.own x):=by
    rcases he with z|z
    .exact absurd (hbe.trans z) hb
    .rw[hbe];exact z
   rw[q]at q';cases q';let⟨v,hv⟩:=heo;exact⟨v,by rw[hbe];exact hv⟩
  .refine(ok b u q).stay (λc v hc r=>k c v ?_ r) (λc r=>by rw[zh (nown c b r)];exact r) λc xs r=>by rw[zh (ntup c xs r)];exact r
   rcases hc with rfl|hc
   .exact hbe
   .rintro rfl
    rcases he with z|z
    .exact nown c b hc z
    .rw[hc]at z;cases z;exact hb rfl
end
structure Un(fs ex:List AI)(H H':Hp)(h h':Ay):Prop where
 keep:∀b o,h.get? b=AA o->H b=AC->b∉fs->b∉ex->h'.get? b=AA o
 slot:∀b o,h.get? b=AA o->H b=AC->b∈fs->b∉ex->∃sl,h'.get? b=AA {o with slots:=sl}
 free:∀b o,h.get? b=AA o->H b=AC->b∉ex->H' b=AC
 there:∀b o,h.get? b=AA o->b∉ex->∃o',h'.get? b=AA o'
 tups:∀b xs,H b=AA (.tup xs)->H' b=AA (.tup xs)
 frzs:∀b o u,H b=AA (.frz o u)->H' b=AA (.frz o u)
 tbls:∀b ps,H b=AA (.tbl ps)->∃more,H' b=AA (.tbl (ps++more))
section
variable {fs fs' ex ex':List AI}{H H1 H2:Hp}{h h1 h2 h':Ay}{a x e:AI}{o:HO}
theorem Un.any(u:Un fs ex H H1 h h1){b:AI}{ob:Bs}(q:h.get? b=AA ob)(n:H b=AC)(hx:b∉ex):∃sl,h1.get? b=AA {ob with slots:=sl}:=by
 by_cases hb:b∈fs
 .exact u.slot b ob q n hb hx
 .exact⟨ob.slots,u.keep b ob q n hb hx⟩
theorem Un.kept(k:∀b u,h.get? b=AA u->h'.get? b=AA u):Un fs ex H H h h':=
 ⟨λb ob q _ _ _=>k b ob q,λb ob q _ _ _=>⟨ob.slots,k b ob q⟩,λ_ _ _ n _=>n,λb ob q _=>⟨ob,k b ob q⟩,λ_ _ q=>q,λ_ _ _ q=>q,λ_ ps q=>⟨#[],by rw[q];simp⟩⟩
theorem Un.refl:Un fs ex H H h h:=Un.kept λ_ _ q=>q
theorem Un.laid(k:∀b u,h.get? b=AA u->h'.get? b=AA u)(hp:h.objs.size<=a)(hn:H a=AC):Un fs ex H (upd H a o) h h' where
 keep:=λb u q _ _ _=>k b u q
 slot:=λb u q _ _ _=>⟨u.slots,k b u q⟩
 free:=λb u q n _=>by rw[zh (Ah (A6 (AW q) hp))];exact n
 there:=λb u q _=>⟨u,k b u q⟩
 tups:=λb xs q=>by rw[zh (zl q hn)];exact q
 frzs:=λb u xs q=>by rw[zh (zl q hn)];exact q
 tbls:=λb ps q=>⟨#[],by rw[zh (zl q hn),q];simp⟩
theorem Un.write(mu:Mut (H x))(he:e=x \/ H e=AA (.own x))(k:∀b u,b≠e->h.get? b=AA u->h'.get? b=AA u)(heo:∃u,h'.get? e=AA u):Un fs ex H (upd H x o) h h':=by
 have hx:∀b,H b=AC->b≠x:=λb n z=>by subst z;rw[n]at mu;exact mu
 have hb:∀b,H b=AC->b≠e:=λb n z=>by
  subst z;rcases he with r|r
  .exact hx b n r
  .rw[n]at r;cases r
 have hm:∀b u,H b=AA u->¬Mut (AA u)->b≠x:=λb u q nm z=>by subst z;rw[q]at mu;exact nm mu
 refine⟨λb u q n _ _=>k b u (hb b n) q,λb u q n _ _=>⟨u.slots,k b u (hb b n) q⟩,λb u q n _=>by rw[zh (hx b n)];exact n,λb u q _=>?_,
  λb xs q=>by rw[zh (hm b _ q λz=>z)];exact q,λb u xs q=>by rw[zh (hm b _ q λz=>z)];exact q,λb ps q=>⟨#[],by rw[zh (hm b _ q λz=>z),q];simp⟩⟩
 by_cases hbe:b=e
 .subst hbe;exact heo
 .exact⟨u,k b u hbe q⟩
end
def trk(h:Ay)(H:Hp):List Addr:=(C0 h.objs.size).filter λa=>(H a).isSome
def yb1(h:Ay)(H:Hp):Heap:=Cq h (trk h H)
theorem zhl(h:Ay)(H:Hp):(yb1 h H).objs.size=h.objs.size:=PySem.W.hideAll_size _ _
theorem ziJ{h:Ay}{H:Hp}{b:AI}{o:Bs}(e:h.get? b=AA o)(n:H b=AC):(yb1 h H).get? b=AA o:=
 FC _ e λhm=>by
  have q:(H b).isSome=true:=(GQ.mp hm).2;rw[n]at q;simp at q
theorem zkC{h:Ay}{H:Hp}{b:AI}{o:Bs}(e:(yb1 h H).get? b=AA o):h.get? b=AA o/\H b=none:=by
 have e':h.get? b=AA o:=FY (trk h H) e;refine⟨e',?_⟩
 cases q:H b with
 |none=>rfl
 |some x=>
  have hm:b∈trk h H:=GQ.mpr ⟨GZ.mpr (AW e'),by simp[q]⟩;have z:(yb1 h H).get? b=none:=PySem.W.hideAll_none (trk h H) hm;rw[z]at e;cases e
structure Mod(K:AE)(mg:AQ->Option AF)(base:Ay):Prop where
 kin:K.In base
 glob:base.Ns mainGlobals mg
 blt:∃mb,base.Ns builtinsNs mb/\∀x:AQ,x ≠ "__name__"->mb x=bootBuiltins x
 nolimit:base.NoLimit
structure Cx where
 prog:A7
 w:Ag
 K:AE
 mg:AQ->Option AF
 base:Ay
 A:Am
 N:List AQ
 s₀:AJ
 H₀:Hp
 env:Env
 outer:List Env
 stack:List Env
 ex:List AI
 fn:AQ->Bool
 calm:Bool
 pn:List (AI×Bs)
 xe:AF->AJ->Prop
def frs(l:List Env):List Addr:=l.filterMap (·.frame)
abbrev Cx.fs(X:Cx):List Addr:=frs X.outer
def Vis(sc:Bc)(x:AQ):Prop:=sc.names.lookup x=AA .local \/ sc.names.lookup x=AA .cell \/ sc.names.lookup x=AA .free
def Loc(sc:Bc)(x:AQ):Prop:=sc.names.lookup x=AA .local \/ sc.names.lookup x=AA .cell
def Look(env:Env)(h:Ay)(m:AQ->Option AF)(x:AQ)(u:AF):Prop:=
 (env.kindOf x=AA .local/\m x=AA u) \/ ((env.kindOf x=AA .cell \/ env.kindOf x=AA .free)/\∃c,env.cells.lookup x=AA c/\h.IsCell c (AA u))
structure Cx.Ok(X:Cx):Prop where
 mod:Mod X.K X.mg X.base
 kind:X.env.scope.kind=.function
 glob:X.env.globals=mainGlobals
 blt:X.env.builtins=builtinsNs
 above:X.s₀.heap.objs.size<=X.env.locals
 inj:∀x y c,X.env.cells.lookup x=AA c->X.env.cells.lookup y=AA c->x=y
 has:∀x,(X.env.kindOf x=AA .cell \/ X.env.kindOf x=AA .free)->∃c,X.env.cells.lookup x=AA c
 cab:∀x c,X.fn x=AB->X.env.cells.lookup x=AA c->X.s₀.heap.objs.size<=c
 hd:X.calm=AB->X.A.handled=AC
 frames:X.A.frames=AA X.stack
 stk:X.stack=X.outer \/ (X.stack=X.env::X.outer/\X.env.frame=AA X.env.locals)
 exf:∀b∈X.ex,b≠X.env.locals/\∀x c,X.env.cells.lookup x=AA c->c≠b
 bs:∀b o,X.base.get? b=AA o->X.s₀.heap.get? b=AA o/\X.H₀ b=AC
 bsz:X.base.objs.size<=X.s₀.heap.objs.size
 noex:∀b o,X.base.get? b=AA o->b∉X.ex
 exfs:∀b∈X.ex,b∉X.fs
 funs:X.s₀.heap.FunFrames X.base X.outer
 frf:∀b∈X.fs,X.H₀ b=AC
structure Inv(X:Cx)(pins:List (AI×Bs))(σ:List (Option V))(H:Hp)(s:AJ):Prop where
 ok:X.Ok
 os:s.os=X.s₀.os
 bare:DR s.gens
 base:Un X.fs X.ex X.H₀ H X.s₀.heap s.heap
 loc:∃m,s.heap.Ns X.env.locals m/\∀(i:Nat) (x:AQ) (v:V),X.N[i]?=AA x->σ[i]?=AA (AA v)->Vis X.env.scope x->∃u,RelV v u/\Look X.env s.heap m x u
 cell:∀x c,X.env.cells.lookup x=AA c->∃v,s.heap.IsCell c v
 free:H X.env.locals=AC
 freeC:∀x c,X.env.cells.lookup x=AA c->H c=AC
 pin:∀p∈X.pn++pins,s.heap.get? p.1=AA p.2/\H p.1=AC/\p.1≠X.env.locals/\p.1∉X.fs/\∀v,p.2.data ≠ .cell v
 hok:HOk X.prog X.w H s.heap
 len:σ.length=X.N.length
section
variable {X:Cx}{pins:List (AI×Bs)}{σ:List (Option V)}{H H':Hp}{s:AJ}{h':Ay}
theorem Cx.Ok.nofr(ok:X.Ok){b:AI}{o:Bs}(e:X.base.get? b=AA o):b∉X.fs:=λhb=>by
 have:=(ok.funs.mem hb).1;rw[e]at this;cases this
theorem Inv.bs(I:Inv X pins σ H s):∀b o,X.base.get? b=AA o->s.heap.get? b=AA o/\H b=none:=λb o e=>
 ⟨I.base.keep b o (I.ok.bs b o e).1 (I.ok.bs b o e).2 (I.ok.nofr e) (I.ok.noex b o e),I.base.free b o (I.ok.bs b o e).1 (I.ok.bs b o e).2 (I.ok.noex b o e)⟩
theorem Inv.bk(I:Inv X pins σ H s):∀b o,X.base.get? b=AA o->s.heap.get? b=AA o:=λb o e=>(I.bs b o e).1
theorem Inv.mod(I:Inv X pins σ H s):Mod X.K X.mg X.base:=I.ok.mod
theorem Inv.kIn(I:Inv X pins σ H s):X.K.In s.heap:=I.ok.mod.kin.keeps I.bk
theorem Inv.lt(I:Inv X pins σ H s):X.env.locals<s.heap.objs.size:=let ⟨_,hn,_⟩:=I.loc;hn.lt
theorem Inv.sz(I:Inv X pins σ H s):X.s₀.heap.objs.size<=s.heap.objs.size:=BQ I.ok.above (F5 I.lt)
theorem Inv.nofs(I:Inv X pins σ H s){a:AI}(h:s.heap.objs.size<=a):a∉X.fs:=λhb=>by
 let⟨_,o,ho,_⟩:=I.ok.funs.mem hb;exact absurd (A6 (AW ho) (BQ I.sz h)) (Cn _)
theorem Inv.cne(I:Inv X pins σ H s):∀x c,X.env.cells.lookup x=AA c->c≠X.env.locals:=λx c e z=>by
 let⟨v,o,ho,hd⟩:=I.cell x c e;let⟨m,⟨o',es,ep,ho',hd',_⟩,_⟩:=I.loc;rw[z,ho']at ho;cases ho;rw[hd']at hd;cases hd
theorem Inv.funs(I:Inv X pins σ H s):s.heap.FunFrames X.base X.outer:=by
 have all:∀(l:List Env),(∀b∈frs l,b∈X.fs)->X.s₀.heap.FunFrames X.base l->s.heap.FunFrames X.base l:=by
  intro l
  induction l with
  |nil=>intro _ _;trivial
  |cons env r ih=>
   intro hs hl;let⟨hk,⟨L,o,hf,hn,ho,hd⟩,hr⟩:=hl;have hL:L∈X.fs:=hs L (by unfold frs;rw[CP,hf];exact BA);let⟨sl,e⟩:=I.base.slot L o ho (I.ok.frf L hL) hL λz=>I.ok.exfs L z hL;exact⟨hk,⟨L,_,hf,hn,e,hd⟩,ih (λb hb=>hs b (by unfold frs;rw[CP,hf];exact AX _ hb)) hr⟩
 exact all X.outer (λ_ hb=>hb) I.ok.funs
theorem Inv.stack(I:Inv X pins σ H s):s.heap.FunFrames X.base X.stack:=by
 rcases I.ok.stk with e|⟨e,hf⟩
 .rw[e];exact I.funs
 .rw[e];let⟨m,hn,_⟩:=I.loc;refine .cons (by rw[I.ok.kind];decide) hf hn ?_ I.funs;exact Heap.get?_none_of_le (BQ I.ok.bsz I.ok.above)
theorem Inv.stkSub(I:Inv X pins σ H s):∀b∈frs X.stack,b∈X.env.locals::X.fs:=λb hb=>by
 rcases I.ok.stk with e|⟨e,hf⟩
 .rw[e]at hb;exact AX _ hb
 .rw[e]at hb;unfold frs at hb;rw[CP,hf]at hb;exact hb
theorem Inv.stkFree(I:Inv X pins σ H s):∀b∈frs X.stack,H b=none:=λb hb=>by
 rcases Ad.mp (I.stkSub b hb)with e|hb
 .rw[e];exact I.free
 .let⟨_,o,ho,_⟩:=I.ok.funs.mem hb;exact I.base.free b o ho (I.ok.frf b hb) λz=>I.ok.exfs b z hb
theorem Inv.step{g':Array GenState}{t':Nat}{d':Drawn}{ch:List AI}(I:Inv X pins σ H s)
  (hch:∀b∈ch,(b∈X.ex \/ X.s₀.heap.objs.size<=b)/\b≠X.env.locals/\(∀x c,X.env.cells.lookup x=AA c->c≠b)/\∀p∈X.pn++pins,p.1≠b)
  (keep:∀b o,b≠X.env.locals->b∉X.fs->b∉ch->s.heap.get? b=AA o->H b=AC->h'.get? b=AA o)
  (slot:∀b o,b≠X.env.locals->b∈X.fs->b∉ch->s.heap.get? b=AA o->H b=AC->∃sl,h'.get? b=AA {o with slots:=sl}) (free:∀b o,b∉ch->s.heap.get? b=AA o->H b=AC->H' b=AC)
  (there:∀b o,b∉ch->s.heap.get? b=AA o->∃o',h'.get? b=AA o')
  (tups:∀b xs,H b=AA (.tup xs)->H' b=AA (.tup xs)) (frzs:∀b o u,H b=AA (.frz o u)->H' b=AA (.frz o u)) (tbls:∀b ps,H b=AA (.tbl ps)->∃more,H' b=AA (.tbl (ps++more)))
  (ns:∀m,s.heap.Ns X.env.locals m->h'.Ns X.env.locals m) (hok:HOk X.prog X.w H' h') (hg:DR g'):
  Inv X pins σ H' {s with heap:=h',gens:=g',drawn:=d',toks:=t'}:=by
 have neL:∀b o,X.s₀.heap.get? b=AA o->b≠X.env.locals:=λb o e=>Ah (A6 (AW e) I.ok.above);have neC:∀b o,X.s₀.heap.get? b=AA o->b∉X.ex->b∉ch:=λb o e hx hb=>by
  rcases (hch b hb).1 with z|z
  .exact hx z
  .exact absurd (A6 (AW e) z) (Cn _)
 have cellK:∀x c,X.env.cells.lookup x=AA c->∀v,s.heap.IsCell c v->h'.IsCell c v:=λx c e v ⟨o,ho,hd⟩=>by
  have nch:c∉ch:=λz=>(hch c z).2.2.1 x c e rfl
  by_cases hc:c∈X.fs
  .let⟨sl,q⟩:=slot c o (I.cne x c e) hc nch ho (I.freeC x c e);exact⟨_,q,hd⟩
  .exact⟨o,keep c o (I.cne x c e) hc nch ho (I.freeC x c e),hd⟩
 refine⟨I.ok,I.os,hg,⟨λb o e n hb hx=>?_,λb o e n hb hx=>?_,λb o e n hx=>?_,λb o e hx=>?_,λb xs e=>tups b xs (I.base.tups b xs e),λb o xs e=>frzs b o xs (I.base.frzs b o xs e),λb ps e=>?_⟩,?_,λx c e=>?_,?_,λx c e=>?_,λp hp=>?_,hok,I.len⟩
 .exact keep b o (neL b o e) hb (neC b o e hx) (I.base.keep b o e n hb hx) (I.base.free b o e n hx)
 .let⟨sl,e1⟩:=I.base.slot b o e n hb hx;let⟨sl',e2⟩:=slot b _ (neL b o e) hb (neC b o e hx) e1 (I.base.free b o e n hx);exact⟨sl',e2⟩
 .let⟨o',e1⟩:=I.base.there b o e hx;exact free b o' (neC b o e hx) e1 (I.base.free b o e n hx)
 .let⟨o',e1⟩:=I.base.there b o e hx;exact there b o' (neC b o e hx) e1
 .let⟨m1,e1⟩:=I.base.tbls b ps e;let⟨m2,e2⟩:=tbls b _ e1;exact⟨m1++m2,by rw[e2,Db]⟩
 .let⟨m,hn,hl⟩:=I.loc;refine⟨m,ns m hn,λi x v e1 e2 e3=>?_⟩;let⟨u,r,l⟩:=hl i x v e1 e2 e3;refine⟨u,r,?_⟩;rcases l with l|⟨k,c,e,z⟩
  .exact .inl l
  .exact .inr ⟨k,c,e,cellK x c e _ z⟩
 .let⟨v,z⟩:=I.cell x c e;exact⟨v,cellK x c e v z⟩
 .let⟨m,⟨o,_,_,ho,_⟩,_⟩:=I.loc;exact free _ o (λz=>(hch _ z).2.1 rfl) ho I.free
 .let⟨v,o,ho,hd⟩:=I.cell x c e;exact free c o (λz=>(hch c z).2.2.1 x c e rfl) ho (I.freeC x c e)
 .let⟨e,n,ne,nf,d⟩:=I.pin p hp;have nch:p.1∉ch:=λz=>(hch p.1 z).2.2.2 p hp rfl;exact⟨keep p.1 p.2 ne nf nch e n,free p.1 p.2 nch e n,ne,nf,d⟩
theorem Inv.un{t':Nat}(I:Inv X pins σ H s)(u:Un X.fs [] H H' s.heap h')(hok:HOk X.prog X.w H' h'):Inv X pins σ H' {s with heap:=h',toks:=t'}:=by
 let⟨m,⟨o,es,ep,ho,r⟩,_⟩:=id I.loc;let⟨sl,hL⟩:=u.any ho I.free (by simp);exact I.step (g':=s.gens) (d':=s.drawn) (ch:=[]) (λ_ z=>nomatch z) (λb o _ hb _ e n=>u.keep b o e n hb (by simp)) (λb o _ hb _ e n=>u.slot b o e n hb (by simp)) (λb o _ e n=>u.free b o e n (by simp)) (λb o _ e=>u.there b o e (by simp)) u.tups u.frzs u.tbls (λm' hm=>by
  let⟨o',es',ep',ho',r'⟩:=hm;rw[ho]at ho';cases ho';exact⟨_,es',ep',hL,r'⟩) hok I.bare
theorem Inv.call{g':Array GenState}{t':Nat}{d':Drawn}{ch:List AI}(I:Inv X pins σ H s)(u:Un (frs X.stack) ch H H' s.heap h')(hok:HOk X.prog X.w H' h')(hg:DR g')
  (hch:∀b∈ch,(b∈X.ex \/ X.s₀.heap.objs.size<=b)/\b≠X.env.locals/\(∀x c,X.env.cells.lookup x=AA c->c≠b)/\∀p∈X.pn++pins,p.1≠b):
  Inv X pins σ H' {s with heap:=h',gens:=g',drawn:=d',toks:=t'}:=by
 let⟨m,⟨o,es,ep,ho,r⟩,_⟩:=id I.loc;let⟨sl,hL⟩:=u.any ho I.free λz=>(hch _ z).2.1 rfl;exact I.step (ch:=ch) hch (λb o hL hb hc e n=>u.keep b o e n (λz=>(Ad.mp (I.stkSub b z)).elim hL hb) hc) (λb o _ _ hc e n=>u.any e n hc) (λb o hc e n=>u.free b o e n hc) (λb o hc e=>u.there b o e hc) u.tups u.frzs u.tbls (λm' hm=>by
  let⟨o',es',ep',ho',r'⟩:=hm;rw[ho]at ho';cases ho';exact⟨_,es',ep',hL,r'⟩) hok hg
theorem Inv.turned{t':Nat}{it:AI}(I:Inv X pins σ H s)(k:∀b o,b≠it->s.heap.get? b=AA o->h'.get? b=AA o)(hn:H it=AC)(hL:it≠X.env.locals)
  (h1:it∈X.ex \/ X.s₀.heap.objs.size<=it) (h2:∀x c,X.env.cells.lookup x=AA c->c≠it) (h3:∀p∈X.pn++pins,p.1≠it):Inv X pins σ H {s with heap:=h',toks:=t'}:=by
 have nit:∀b u,H b=AA u->b≠it:=λb u e z=>by rw[z,hn]at e;cases e
 refine I.step (g':=s.gens) (d':=s.drawn) (ch:=[it]) (λb hb=>?_) (λb o _ _ hc e _=>k b o (λz=>hc (by simp[z])) e) (λb o _ _ hc e _=>⟨o.slots,k b o (λz=>hc (by simp[z])) e⟩) (λ_ _ _ _ n=>n)
  (λb o hc e=>⟨o,k b o (λz=>hc (by simp[z])) e⟩) (λ_ _ e=>e) (λ_ _ _ e=>e) (λb ps e=>⟨#[],by rw[e];simp⟩) (λm hm=>?_) (λb u e=>?_) I.bare
 .have e:b=it:=by simpa using hb
  subst e;exact⟨h1,hL,h2,h3⟩
 .let⟨o,es,ep,ho,r⟩:=hm;exact⟨o,es,ep,k _ o (BI hL) ho,r⟩
 .refine(I.hok b u e).stay (λc v hc q=>k c v ?_ q) (λ_ q=>q) λ_ _ q=>q;rcases hc with z|z
  .rw[z];exact nit b u e
  .exact nit c _ z
theorem Inv.tok(I:Inv X pins σ H s)(t:Nat):Inv X pins σ H {s with toks:=t}:=I.un (h':=s.heap) (t':=t) Un.refl I.hok
theorem Inv.kept{t':Nat}(I:Inv X pins σ H s)(k:∀b u,s.heap.get? b=AA u->h'.get? b=AA u):Inv X pins σ H {s with heap:=h',toks:=t'}:=I.un (Un.kept k) (I.hok.kept k)
theorem Inv.laid{a:AI}{o:HO}{t':Nat}(I:Inv X pins σ H s)(k:∀b u,s.heap.get? b=AA u->h'.get? b=AA u)(hp:s.heap.objs.size<=a)(new:yP X.prog X.w (upd H a o) h' a o):
  Inv X pins σ (upd H a o) {s with heap:=h',toks:=t'}:=I.un (Un.laid k hp (I.hok.fresh hp)) (I.hok.laid k hp new)
theorem Inv.write{x e:AI}{o:HO}{t':Nat}(I:Inv X pins σ H s)(mu:Mut (H x))(he:e=x \/ H e=AA (.own x))(k:∀b u,b≠e->s.heap.get? b=AA u->h'.get? b=AA u)(heo:∃u,h'.get? e=AA u)
  (new:yP X.prog X.w (upd H x o) h' x o):Inv X pins σ (upd H x o) {s with heap:=h',toks:=t'}:=I.un (Un.write mu he k heo) (I.hok.write mu he k heo new)
theorem Inv.pins_of{pins':List (AI×Bs)}(I:Inv X pins σ H s)(h:∀p∈pins',s.heap.get? p.1=AA p.2/\H p.1=AC/\p.1≠X.env.locals/\p.1∉X.fs/\∀v,p.2.data ≠ .cell v):Inv X pins' σ H s:=
 ⟨I.ok,I.os,I.bare,I.base,I.loc,I.cell,I.free,I.freeC,λp hp=>(Cr.mp hp).elim (λz=>I.pin p (Eo _ z)) (h p),I.hok,I.len⟩
theorem zfj{N:List AQ}(hN:N.Nodup){i j:Nat}{x:AQ}(a:N[i]?=AA x)(b:N[j]?=AA x):i=j:=by
 let⟨h1,e1⟩:=BE.mp a;let⟨h2,e2⟩:=BE.mp b;exact(List.getElem_inj hN).mp (e1.trans e2.symm)
theorem zhR{M:Model}{A:Am}{E:AF->AJ->Prop}{i:Nat}{x:AQ}{v:V}{u:AF}{Q:Unit->AJ->Prop}(I:Inv X pins σ H s)(hN:X.N.Nodup)(hi:X.N[i]?=AA x)(hx:Loc X.env.scope x)(r:RelV v u)
  (h:∀s',Inv X pins (σ.set i (AA v)) H s'->(∃a,C1 a s.heap s'.heap/\(a=X.env.locals \/ X.env.cells.lookup x=AA a))->Q () s') (hf:X.fn x=AB \/ X.env.scope.names.lookup x=AA .local:=by first|exact .inl rfl|exact .inr rfl|assumption):A3 M A (storeName X.env x u) Q E s:=by
 let⟨m,hn,hl⟩:=id I.loc;have hcls:(X.env.scope.kind==.class || (X.env.scope.kind==.module&&X.env.locals != X.env.globals))=false:=by rw[I.ok.kind];rfl
 have hiσ:i<σ.length:=by rw[I.len];exact(BE.mp hi).1
 have cne:=I.cne;have tracked:∀{a:AI} {h':Ay},(∃o,s.heap.get? a=AA o/\H a=AC)->C1 a s.heap h'->HOk X.prog X.w H h':=λ{a h'} ha hs b ob e=>by
  let⟨_,_,hfree⟩:=ha;refine(I.hok b ob e).stay (λc w' hc q=>(hs.2 c ?_).trans q) (λ_ q=>q) λ_ _ q=>q
  rintro rfl
  rcases hc with rfl|hc
  .rw[hfree]at e;cases e
  .rw[hfree]at hc;cases hc
 rcases hx with hk|hk
 .refine wpAny_storeName_local hk hn (λh' hn' hs=>?_) hcls;let⟨oL,_,_,hoL,_⟩:=id hn;refine h _ ⟨I.ok,I.os,I.bare,⟨λb o e n hb hx=>?_,λb o e n hb hx=>?_,I.base.free,λb o e hx=>?_,I.base.tups,I.base.frzs,I.base.tbls⟩,⟨_,hn',λj y v' e1 e2 e3=>?_⟩,λy c e=>?_,I.free,I.freeC,λp hp=>?_,tracked ⟨oL,hoL,I.free⟩ hs,by simpa using I.len⟩ ⟨_,hs,.inl rfl⟩
  .exact(hs.2 b (Ah (A6 (AW e) I.ok.above))).trans (I.base.keep b o e n hb hx)
  .let⟨sl,e1⟩:=I.base.slot b o e n hb hx;exact⟨sl,(hs.2 b (Ah (A6 (AW e) I.ok.above))).trans e1⟩
  .let⟨o',e1⟩:=I.base.there b o e hx;exact⟨o',(hs.2 b (Ah (A6 (AW e) I.ok.above))).trans e1⟩
  .by_cases hj:j=i
   .subst hj;rw[hi]at e1;cases e1;rw[A8 hiσ]at e2
    cases e2
    exact⟨u,r,.inl ⟨hk,by simp⟩⟩
   .rw[AR (BI hj)]at e2;let⟨u',r',q⟩:=hl j y v' e1 e2 e3;refine⟨u',r',?_⟩;rcases q with⟨k,e⟩|⟨k,c,e,z⟩
    .refine .inl ⟨k,?_⟩;have:y≠x:=λe=>hj (zfj hN e1 (e ▸ hi));simp[this,e]
    .exact .inr ⟨k,c,e,z.sameBut hs (cne y c e)⟩
  .let⟨w',z⟩:=I.cell y c e;exact⟨w',z.sameBut hs (cne y c e)⟩
  .let⟨e,n,ne,nf,d⟩:=I.pin p hp;exact⟨(hs.2 p.1 ne).trans e,n,ne,nf,d⟩
 .have hfn:X.fn x=true:=by
   rcases hf with z|z
   .exact z
   .rw[z]at hk;cases hk
  let⟨c,hc⟩:=I.ok.has x (.inl hk);let⟨w',z⟩:=I.cell x c hc;refine wpAny_storeName_cell I.ok.kind hk hc z (λh' hc' hs=>?_);let⟨oc,hoc,hocd⟩:=id z;refine h {s with heap:=h'} ⟨I.ok,I.os,I.bare,⟨λb o e n hb hx=>?_,λb o e n hb hx=>?_,I.base.free,λb o e hx=>?_,I.base.tups,I.base.frzs,I.base.tbls⟩,⟨m,hn.sameBut hs (BI (cne x c hc)),λj y v' e1 e2 e3=>?_⟩,λy c' e=>?_,I.free,I.freeC,λp hp=>?_,tracked ⟨oc,hoc,I.freeC x c hc⟩ hs,by simpa using I.len⟩ ⟨c,hs,.inr hc⟩
  .exact(hs.2 b (Ah (A6 (AW e) (I.ok.cab x c hfn hc)))).trans (I.base.keep b o e n hb hx)
  .let⟨sl,e1⟩:=I.base.slot b o e n hb hx;exact⟨sl,(hs.2 b (Ah (A6 (AW e) (I.ok.cab x c hfn hc)))).trans e1⟩
  .let⟨o',e1⟩:=I.base.there b o e hx;exact⟨o',(hs.2 b (Ah (A6 (AW e) (I.ok.cab x c hfn hc)))).trans e1⟩
  .by_cases hj:j=i
   .subst hj;rw[hi]at e1;cases e1;rw[A8 hiσ]at e2
    cases e2
    exact⟨u,r,.inr ⟨.inl hk,c,hc,hc'⟩⟩
   .rw[AR (BI hj)]at e2;let⟨u',r',q⟩:=hl j y v' e1 e2 e3;refine⟨u',r',?_⟩;rcases q with q|⟨k,c',e,z'⟩
    .exact .inl q
    .refine .inr ⟨k,c',e,z'.sameBut hs ?_⟩
     rintro rfl
     exact hj (zfj hN e1 (I.ok.inj _ _ _ e hc ▸ hi))
  .by_cases hcc:c'=c
   .subst hcc;exact⟨_,hc'⟩
   .let⟨w2,z2⟩:=I.cell y c' e;exact⟨w2,z2.sameBut hs hcc⟩
  .let⟨e,n,ne,nf,d⟩:=I.pin p hp;refine⟨(hs.2 p.1 ?_).trans e,n,ne,nf,d⟩;intro q;rw[q,hoc]at e;have q':oc=p.2:=AY e;exact d w' (by rw[<-q'];exact hocd)
theorem zbu{M:Model}{A:Am}{E:AF->AJ->Prop}{i:Nat}{x:AQ}{v:V}{u:AF}{Q:Unit->AJ->Prop}(I:Inv X pins σ H s)(hN:X.N.Nodup)(hi:X.N[i]?=AA x)(hx:Loc X.env.scope x)(r:RelV v u)
  (h:∀s',Inv X pins (σ.set i (AA v)) H s'->Q () s') (hf:X.fn x=AB \/ X.env.scope.names.lookup x=AA .local:=by first|exact .inl rfl|exact .inr rfl|assumption):A3 M A (storeName X.env x u) Q E s:=
 zhR I hN hi hx r (λs' I' _=>h s' I') hf
theorem Inv.call'{s':AJ}{ch:List AI}(I:Inv X pins σ H s)(ho:s'.os=s.os)(u:Un (frs X.stack) ch H H' s.heap s'.heap)(hok:HOk X.prog X.w H' s'.heap)(hg:DR s'.gens)
  (hch:∀b∈ch,(b∈X.ex \/ X.s₀.heap.objs.size<=b)/\b≠X.env.locals/\(∀x c,X.env.cells.lookup x=AA c->c≠b)/\∀p∈X.pn++pins,p.1≠b):Inv X pins σ H' s':=by
 let⟨h',g',d',t',o'⟩:=s';have e:o'=s.os:=ho;subst e;exact I.call (g':=g') (t':=t') (d':=d') u hok hg hch
end
abbrev XK:=AF->Option AI->Hp->Prop
abbrev St:=List (Option V)
abbrev VK:=V->Hp->Prop
abbrev TE:=St->Hp->VK->Prop
abbrev TT:=St->Hp->(Bool->Hp->Prop)->Prop
abbrev TA:=St->Hp->(List V->Hp->Prop)->Prop
structure Ends where
 nx:St->Hp->Prop
 rt:VK
 bk:St->Hp->Prop:=λ_ _=>False
 ct:St->Hp->Prop:=λ_ _=>False
abbrev TS:=Ends->St->Hp->Prop
def EP(X:Cx)(pins:List (AI×Bs))(σ:St)(Q:VK)(u:AF)(s':AJ):Prop:=∃v H',Inv X pins σ H' s'/\RelV v u/\Q v H'
def TP(X:Cx)(pins:List (AI×Bs))(σ:St)(Q:Bool->Hp->Prop)(b:Bool)(s':AJ):Prop:=∃H',Inv X pins σ H' s'/\Q b H'
def AP(X:Cx)(pins:List (AI×Bs))(σ:St)(Q:List V->Hp->Prop)(us:List AF)(s':AJ):Prop:=∃vs H',Inv X pins σ H' s'/\Vals vs us/\Q vs H'
def SP(X:Cx)(pins:List (AI×Bs))(D:Ends)(f:Flow)(s':AJ):Prop:=
 match f with
 |.next=>∃σ' H',Inv X pins σ' H' s'/\D.nx σ' H'
 |.brk=>∃σ' H',Inv X pins σ' H' s'/\D.bk σ' H'
 |.cont=>∃σ' H',Inv X pins σ' H' s'/\D.ct σ' H'
 |.ret u=>∃v σ' H',Inv X pins σ' H' s'/\RelV v u/\D.rt v H'
def PE(X:Cx)(e:AS)(t:TE):Prop:=
 ∀(pins:List (AI×Bs)) (s:AJ) (σ:St) (H:Hp) (Q:VK),Inv X pins σ H s->t σ H Q->A3 (model X.prog X.w) X.A (eval e X.env) (EP X pins σ Q) X.xe s
def PT(X:Cx)(e:AS)(t:TT):Prop:=
 ∀(pins:List (AI×Bs)) (s:AJ) (σ:St) (H:Hp) (Q:Bool->Hp->Prop),Inv X pins σ H s->t σ H Q->A3 (model X.prog X.w) X.A (isTrue e X.env (eval e X.env)) (TP X pins σ Q) X.xe s
def PW(X:Cx)(e:AS)(t:TT):Prop:=
 ∀(whole:Gd AF) (pins:List (AI×Bs)) (s:AJ) (σ:St) (H:Hp) (Q:Bool->Hp->Prop),Inv X pins σ H s->t σ H Q->A3 (model X.prog X.w) X.A (isTrue e X.env whole) (TP X pins σ Q) X.xe s
theorem PW.pt{X:Cx}{e:AS}{t:TT}(h:PW X e t):PT X e t:=h _
def PA(X:Cx)(es:List AS)(t:TA):Prop:=
 ∀(pos:CH) (pins:List (AI×Bs)) (s:AJ) (σ:St) (H:Hp) (Q:List V->Hp->Prop),Inv X pins σ H s->t σ H Q->A3 (model X.prog X.w) X.A (spliced (backTo pos (starEach es X.env))) (AP X pins σ Q) X.xe s
def PS(X:Cx)(st:Bn)(t:TS):Prop:=
 ∀(pins:List (AI×Bs)) (s:AJ) (σ:St) (H:Hp) (D:Ends),Inv X pins σ H s->t D σ H->A3 (model X.prog X.w) X.A (exec st X.env) (SP X pins D) X.xe s
def PSs(X:Cx)(st:List Bn)(t:TS):Prop:=
 ∀(pins:List (AI×Bs)) (s:AJ) (σ:St) (H:Hp) (D:Ends),Inv X pins σ H s->t D σ H->A3 (model X.prog X.w) X.A (execs st X.env) (SP X pins D) X.xe s
theorem thn{α:Type}{t:Gd α}{Q Q':α->AJ->Prop}{M:Model}{A:Am}{E:AF->AJ->Prop}{s:AJ}(h:A3 M A t Q E s)(hQ:∀a s,Q a s->Q' a s):A3 M A t Q' E s:=CL h hQ λ_ _ x=>x
section
variable {X:Cx}
theorem bin{a b:AS}{ta tb:TE}(ha:PE X a ta)(hb:PE X b tb){pins:List (AI×Bs)}{s:AJ}{σ:St}{H:Hp}{R:V->V->Hp->Prop}(I:Inv X pins σ H s)(h:ta σ H λx H1=>tb σ H1 λy H2=>R x y H2)
  {α:Type} {Q:α->AJ->Prop} {f:AF->AF->Gd α}
  (hf:∀v u s2 x y H2,Inv X pins σ H2 s2->RelV x v->RelV y u->R x y H2->A3 (model X.prog X.w) X.A (f v u) Q X.xe s2):
  A3 (model X.prog X.w) X.A (eval a X.env) (λv s₁=>A3 (model X.prog X.w) X.A (eval b X.env) (λu s₂=>A3 (model X.prog X.w) X.A (f v u) Q X.xe s₂) X.xe s₁) X.xe s:=by
 refine thn (ha pins s σ H _ I h) λv s1 kq=>?_;let⟨x,H1,I1,r1,q1⟩:=kq;refine thn (hb pins s1 σ H1 _ I1 q1) λu s2 kq=>?_;let⟨y,H2,I2,r2,q2⟩:=kq;exact hf v u s2 x y H2 I2 r1 r2 q2
def ygy(i:Nat):TE:=λσ H Q=>∃v,σ[i]?=AA (AA v)/\Q v H
def tC(v:V):TE:=λ_ H Q=>Q v H
theorem zjj{i:Nat}{x:AQ}{pos:CH}(hN:X.N[i]?=AA x)(hv:Vis X.env.scope x)(hd:(x==("__debug__":AQ))=false:=by decide)(hcd:(x==("__classdict__":AQ))=false:=by decide):PE X (.Name x pos) (ygy i):=by
 intro pins s σ H Q I h;let⟨v,e,h⟩:=h;let⟨m,hn,hl⟩:=I.loc;let⟨u,r,l⟩:=hl i x v hN e hv;have fin:EP X pins σ Q u s:=⟨v,H,I,r,h⟩;rcases l with⟨hk,hm⟩|⟨hk,c,hc,hcell⟩
 .exact G0 (Ep I.ok.kind hk hn hm fin) hd
 .rcases hk with hk|hk
  .exact G0 (FD I.ok.kind hk hc hcell fin) hd
  .exact G0 (wpAny_loadName_free I.ok.kind hk hc hcell fin hcd) hd
theorem ycX{i j pos}:PE X (.Constant (.int i) j pos) (tC (.int i)):=λ_ _ _ H _ I h=>wpAny_Constant_int ⟨.int i,H,I.tok _,⟨_,rfl⟩,h⟩
theorem ydU{b j pos}:PE X (.Constant (.bool b) j pos) (tC (.bl b)):=λ_ _ _ H _ I h=>Constant_bool ⟨.bl b,H,I,rfl,h⟩
theorem yc3{j pos}:PE X (.Constant .none j pos) (tC .non):=λ_ _ _ H _ I h=>Constant_none ⟨.non,H,I,rfl,h⟩
theorem ycY{x j pos}:PE X (.Constant (.str x) j pos) (tC (.str x)):=λ_ _ _ H _ I h=>Calls.Constant_str ⟨.str x,H,I.tok _,⟨_,rfl⟩,h⟩
def Gl(X:Cx)(x:AQ):Prop:=X.env.kindOf x=AA .globalImplicit
theorem zco{E:AF->AJ->Prop}{pins:List (AI×Bs)}{s:AJ}{σ:St}{H:Hp}{x:AQ}{u:AF}{pos:CH}{Q:AF->AJ->Prop}(I:Inv X pins σ H s)(hg:Gl X x)(hm:X.mg x=AA u)(h:Q u s)
  (hd:(x==("__debug__":AQ))=false:=by decide):A3 (model X.prog X.w) X.A (eval (.Name x pos) X.env) Q E s:=
 Dd I.ok.kind hg (Calls.loadGlobal_global (by rw[I.ok.glob];exact I.mod.glob.keeps I.bk) hm h) hd
theorem zdq{E:AF->AJ->Prop}{pins:List (AI×Bs)}{s:AJ}{σ:St}{H:Hp}{x:AQ}{u:AF}{pos:CH}{Q:AF->AJ->Prop}(I:Inv X pins σ H s)(hg:Gl X x)(hm:X.mg x=AC)(hv:bootBuiltins x=AA u)(h:Q u s)
  (hn:x ≠ "__name__":=by decide) (hd:(x==("__debug__":AQ))=false:=by decide):A3 (model X.prog X.w) X.A (eval (.Name x pos) X.env) Q E s:=by
 let⟨mb,h1,h2⟩:=I.mod.blt;exact Dd I.ok.kind hg (Calls.loadGlobal_builtin (by rw[I.ok.glob];exact I.mod.glob.keeps I.bk) hm (by rw[I.ok.blt];exact h1.keeps I.bk) ((h2 x hn).trans hv) h) hd
theorem zcR{x:AQ}{v:V}{u:AF}{pos:CH}(hg:Gl X x)(hm:X.mg x=AA u)(r:RelV v u)(hd:(x==("__debug__":AQ))=false:=by decide):PE X (.Name x pos) (tC v):=
 λ_ _ _ H _ I h=>zco I hg hm ⟨v,H,I,r,h⟩ hd
theorem zky{x:AQ}{v:V}{u:AF}{pos:CH}(hg:Gl X x)(hm:X.mg x=AC)(hv:bootBuiltins x=AA u)(r:RelV v u)(hn:x ≠ "__name__":=by decide)(hd:(x==("__debug__":AQ))=false:=by decide):PE X (.Name x pos) (tC v):=
 λ_ _ _ H _ I h=>zdq I hg hm hv ⟨v,H,I,r,h⟩ hn hd
variable {a b:AS}{ta tb:TE}{pos:CH}
variable {tA tB':TT}{rest:List AS}
def yfh(t u:TT):TT:=λσ H Q=>t σ H λc H1=>if c=AB then u σ H1 Q else Q AD H1
def tOr(t u:TT):TT:=λσ H Q=>t σ H λc H1=>if c=AB then Q AB H1 else u σ H1 Q
def ygd(t:TT):TT:=λσ H Q=>t σ H λc H1=>Q (!c) H1
theorem zkp(ha:PT X a tA):PW X (.BoolOp .And [a] pos) tA:=by
 intro wh pins s σ H Q I h;refine isTrue_and (thn (ha pins s σ H Q I h) λc s1 e=>?_)
 cases c with
 |true=>exact isTrue_and_nil e
 |false=>exact e
theorem zlU(ha:PT X a tA):PW X (.BoolOp .Or [a] pos) tA:=by
 intro wh pins s σ H Q I h;refine isTrue_or (thn (ha pins s σ H Q I h) λc s1 e=>?_)
 cases c with
 |false=>exact isTrue_or_nil e
 |true=>exact e
theorem zlt(ha:PT X a tA)(hb:PW X (.BoolOp .And (b::rest) pos) tB'):PW X (.BoolOp .And (a::b::rest) pos) (yfh tA tB'):=by
 intro wh pins s σ H Q I h;refine isTrue_and (thn (ha pins s σ H _ I h) λc s1 kq=>?_);let⟨H1,I1,q1⟩:=kq
 cases c with
 |true=>exact hb wh pins s1 σ H1 Q I1 q1
 |false=>exact⟨H1,I1,q1⟩
theorem zoa(ha:PT X a tA)(hb:PW X (.BoolOp .Or (b::rest) pos) tB'):PW X (.BoolOp .Or (a::b::rest) pos) (tOr tA tB'):=by
 intro wh pins s σ H Q I h;refine isTrue_or (thn (ha pins s σ H _ I h) λc s1 kq=>?_);let⟨H1,I1,q1⟩:=kq
 cases c with
 |true=>exact⟨H1,I1,q1⟩
 |false=>exact hb wh pins s1 σ H1 Q I1 q1
theorem zmO(ha:PT X a tA):PT X (.UnaryOp .Not a pos) (ygd tA):=by
 intro pins s σ H Q I h;exact isTrue_not (ha pins s σ H (λc H1=>Q (!c) H1) I h)
def ydw(ta tb:TE):TE:=λσ H Q=>ta σ H λx H1=>∃c,x=.bl c/\if c=AB then tb σ H1 Q else Q (.bl AD) H1
def ye1(ta tb:TE):TE:=λσ H Q=>ta σ H λx H1=>∃c,x=.bl c/\if c=AB then Q (.bl AB) H1 else tb σ H1 Q
def ydx(ta:TE):TE:=λσ H Q=>ta σ H λx H1=>∃c,x=.bl c/\Q (.bl (!c)) H1
theorem zmZ{op}{t:TE}(h:PE X a t):PE X (.BoolOp op [a] pos) t:=λpins s σ H Q I hw=>BoolOp_one (h pins s σ H Q I hw)
theorem zl5(ha:PE X a ta)(hb:PE X (.BoolOp .And (b::rest) pos) tb):PE X (.BoolOp .And (a::b::rest) pos) (ydw ta tb):=by
 intro pins s σ H Q I h;refine BoolOp_and (thn (ha pins s σ H _ I h) λv s1 kq=>?_);let⟨x,H1,I1,r1,q1⟩:=kq;let⟨c,rfl,q1⟩:=q1
 cases r1
 refine BR ?_
 cases c with
 |true=>exact hb pins s1 σ H1 Q I1 q1
 |false=>exact⟨.bl AD,H1,I1,rfl,q1⟩
theorem znN(ha:PE X a ta)(hb:PE X (.BoolOp .Or (b::rest) pos) tb):PE X (.BoolOp .Or (a::b::rest) pos) (ye1 ta tb):=by
 intro pins s σ H Q I h;refine BoolOp_or (thn (ha pins s σ H _ I h) λv s1 kq=>?_);let⟨x,H1,I1,r1,q1⟩:=kq;let⟨c,rfl,q1⟩:=q1
 cases r1
 refine BR ?_
 cases c with
 |false=>exact hb pins s1 σ H1 Q I1 q1
 |true=>exact⟨.bl AB,H1,I1,rfl,q1⟩
theorem zmx(ha:PE X a ta):PE X (.UnaryOp .Not a pos) (ydx ta):=by
 intro pins s σ H Q I h;refine UnaryOp_ (thn (ha pins s σ H _ I h) λv s1 kq=>?_);let⟨x,H1,I1,r1,q1⟩:=kq;let⟨c,rfl,q1⟩:=q1
 cases r1
 exact not_of (BR ⟨.bl (!c),H1,I1,rfl,q1⟩)
def tIf(t:TT)(ta tb:TE):TE:=λσ H Q=>t σ H λc H1=>if c=AB then ta σ H1 Q else tb σ H1 Q
theorem zhY{c:AS}(hc:PT X c tA)(ha:PE X a ta)(hb:PE X b tb):PE X (.IfExp c a b pos) (tIf tA ta tb):=by
 intro pins s σ H Q I h;refine wpAny_IfExp (thn (hc pins s σ H _ I h) λd s1 kq=>?_);let⟨H1,I1,q1⟩:=kq
 cases d with
 |true=>exact ha pins s1 σ H1 Q I1 q1
 |false=>exact hb pins s1 σ H1 Q I1 q1
end
def SqL(K:AE)(H:Hp)(a:AI)(xs:List V):Prop:=
 Rd H a (.lst xs) \/
  ∃(o:Bs) (its:Array AF) (n:Nat),K.lookup a=AA o/\o.cls=.type "list"/\o.dict=AC/\o.data=.seq its n/\its.size<=sizeLine/\Vals xs its.toList
def SqT(K:AE)(H:Hp)(a:AI)(xs:List V):Prop:=
 Rd H a (.tup xs) \/
  ∃(o:Bs) (its:Array AF) (n:Nat),K.lookup a=AA o/\o.cls=.type "tuple"/\o.data=.seq its n/\its.size<=sizeLine/\Vals xs its.toList
def ygg:AF->Option V
 |.none=>AA .non
 |.bool b=>AA (.bl b)
 |.int i _=>AA (.int i)
 |.str x _=>AA (.str x)
 |.bytes b _=>AA (.byt b)
 |.float b _=>AA (.flt b)
 |.ref a=>AA (.ref a)
 |.type n=>AA (.ty n)
 |_=>AC
theorem RelV.abs{x:V}{u:AF}(r:RelV x u):ygg u=AA x:=by
 cases x with
 |non=>cases r;rfl
 |bl _=>cases r;rfl
 |int _=>let⟨t,rfl⟩:=r;rfl
 |str _=>let⟨t,rfl⟩:=r;rfl
 |byt _=>let⟨t,rfl⟩:=r;rfl
 |flt _=>let⟨t,rfl⟩:=r;rfl
 |ref _=>cases r;rfl
 |ty _=>cases r;rfl
theorem RelV.inj{x y:V}{u:AF}(r:RelV x u)(q:RelV y u):x=y:=AY (r.abs.symm.trans q.abs)
theorem Vals.inj:∀{xs ys:List V} {us:List AF},Vals xs us->Vals ys us->xs=ys
 |_,_,_,.nil,.nil=>rfl
 |_,_,_,.cons r t,.cons r' t'=>by rw[r.inj r',Vals.inj t t']
section
variable {X:Cx}{pins:List (AI×Bs)}{σ:St}{H:Hp}{s:AJ}{a:AI}{xs ys:List V}
theorem SqL.of{K:AE}(h:H a=AA (.lst xs)):SqL K H a xs:=.inl (.inl h)
theorem Inv.list(I:Inv X pins σ H s)(h:SqL X.K H a xs):∃its:List AF,Vals xs its/\PlainL s.heap a its.toArray/\xs.length<=sizeLine:=by
 rcases h with h|⟨o,its,n,hk,hc,hd,hs,hz,r⟩
 .let⟨z,its,n,r,e⟩:=h.ok I.hok;exact⟨its,r,⟨_,n,e,rfl,rfl,rfl⟩,z⟩
 .refine⟨its.toList,r,⟨o,n,I.kIn a o hk,hc,hd,by simpa using hs⟩,?_⟩;have e:=r.length;erw[Bt]at e;lia
theorem Inv.tuple(I:Inv X pins σ H s)(h:SqT X.K H a xs):∃its:List AF,Vals xs its/\HC s.heap a its.toArray/\xs.length<=sizeLine:=by
 rcases h with h|⟨o,its,n,hk,hc,hs,hz,r⟩
 .let⟨z,its,r,p⟩:=h.ok I.hok;exact⟨its,r,p,z⟩
 .refine⟨its.toList,r,⟨o,I.kIn a o hk,hc,n,by simpa using hs⟩,?_⟩;have e:=r.length;erw[Bt]at e;lia
theorem Inv.list_inj(I:Inv X pins σ H s)(h:SqL X.K H a xs)(h':SqL X.K H a ys):xs=ys:=by
 let⟨its,r,⟨o,n,e,_,_,d⟩,_⟩:=I.list h;let⟨its',r',⟨o',n',e',_,_,d'⟩,_⟩:=I.list h';rw[e]at e';cases e';rw[d]at d';injection d' with d1 _;have:its=its':=by simpa using congrArg Gj d1
 subst this;exact r.inj r'
theorem Inv.tuple_inj(I:Inv X pins σ H s)(h:SqT X.K H a xs)(h':SqT X.K H a ys):xs=ys:=by
 let⟨its,r,⟨o,e,_,n,d⟩,_⟩:=I.tuple h;let⟨its',r',⟨o',e',_,n',d'⟩,_⟩:=I.tuple h';rw[e]at e';cases e';rw[d]at d';injection d' with d1 _;have:its=its':=by simpa using congrArg Gj d1
 subst this;exact r.inj r'
end
section
variable {X:Cx}{pins:List (AI×Bs)}{σ:St}{H:Hp}{s:AJ}{E:AF->AJ->Prop}
end
section
variable {X:Cx}{st:Bn}{rest:List Bn}{t u:TS}{e:AS}{te:TE}{pos:CH}
def ydN:TS:=λD σ H=>D.nx σ H
def yfZ(t u:TS):TS:=λD σ H=>t {D with nx:=u D} σ H
theorem ycs:PSs X [] ydN:=λ_ _ σ H _ I h=>DY ⟨σ,H,I,h⟩
theorem zfP(h1:PS X st t)(h2:PSs X rest u):PSs X (st::rest) (yfZ t u):=by
 intro pins s σ H D I h;refine Fu (thn (h1 pins s σ H {D with nx:=u D} I h) λf s1 q=>?_)
 cases f with
 |next=>
  let⟨σ',H',I',q⟩:=q;exact h2 pins s1 σ' H' D I' q
 |ret v=>exact q
 |brk=>exact q
 |cont=>exact q
theorem zkf(h1:PS X st t):PSs X [st] t:=by
 intro pins s σ H D I h;refine Fu (thn (h1 pins s σ H D I h) λf s1 q=>?_)
 cases f with
 |next=>exact DY q
 |ret v=>exact q
 |brk=>exact q
 |cont=>exact q
theorem Inv.quiet{pins:List (AI×Bs)}{σ:St}{H:Hp}{s:AJ}(I:Inv X pins σ H s):interactive X.env=false:=by simp[interactive,I.ok.kind]
def ydE(te:TE):TS:=λD σ H=>te σ H λ_ H1=>D.nx σ H1
theorem zkG(he:PE X e te)(hs:swapsWith e AC pos.line X.env=pure false:=by rfl):PS X (.Expr e pos) (ydE te):=by
 intro pins s σ H D I h;exact wpAny_Expr_any (thn (he pins s σ H _ I h) λv s1 ⟨x,H1,I1,r1,q1⟩=>⟨σ,H1,I1,q1⟩) I.quiet hs
def yfS(te:TE):TS:=λD σ H=>te σ H D.rt
theorem zjG(he:PE X e te):PS X (.Return (AA e) pos) (yfS te):=by
 intro pins s σ H D I h;exact wpAny_Return_some (thn (he pins s σ H _ I h) λv s1 ⟨x,H1,I1,r1,q1⟩=>⟨x,σ,H1,I1,r1,q1⟩)
def ydv:TS:=λD _ H=>D.rt .non H
theorem ycw:PS X (.Return AC pos) ydv:=λ_ _ σ H _ I h=>wpAny_Return_none ⟨.non,σ,H,I,rfl,h⟩
def yfv(c:TT)(t u:TS):TS:=λD σ H=>c σ H λb H1=>if b=AB then t D σ H1 else u D σ H1
theorem znY{c:AS}{a b:List Bn}{tc:TT}(hc:PT X c tc)(ha:PSs X a t)(hb:PSs X b u):PS X (.If c a b pos) (yfv tc t u):=by
 intro pins s σ H D I h;refine wpAny_If (thn (hc pins s σ H _ I h) λd s1 kq=>?_);let⟨H1,I1,q1⟩:=kq
 cases d with
 |true=>exact ha pins s1 σ H1 D I1 q1
 |false=>exact hb pins s1 σ H1 D I1 q1
end
abbrev TG:=V->St->Hp->(St->Hp->Prop)->Prop
abbrev TGs:=List V->St->Hp->(St->Hp->Prop)->Prop
def PG(X:Cx)(target:AS)(t:TG):Prop:=
 ∀(pins:List (AI×Bs)) (s:AJ) (σ:St) (H:Hp) (v:V) (u:AF) (Q:St->Hp->Prop),Inv X pins σ H s->RelV v u->t v σ H Q ->
  A3 (model X.prog X.w) X.A (assign target X.env u) (λ_ s'=>∃σ' H',Inv X pins σ' H' s'/\Q σ' H') X.xe s
def PGs(X:Cx)(ts:List AS)(t:TGs):Prop:=
 ∀(pins:List (AI×Bs)) (s:AJ) (σ:St) (H:Hp) (vs:List V) (us:List AF) (Q:St->Hp->Prop),Inv X pins σ H s->Vals vs us->t vs σ H Q ->
  A3 (model X.prog X.w) X.A (assignInOrder ((assignEach ts X.env).map (·.2)) us) (λ_ s'=>∃σ' H',Inv X pins σ' H' s'/\Q σ' H') X.xe s
abbrev yei:=V->V->V->Hp->(Hp->Prop)->Prop
def yeI(X:Cx)(t:yei):Prop:=
 ∀(pins:List (AI×Bs)) (s:AJ) (σ:St) (H:Hp) (o i v:V) (ov iv u:AF) (Q:Hp->Prop),Inv X pins σ H s->RelV o ov->RelV i iv->RelV v u->t o i v H Q ->
  A3 (model X.prog X.w) X.A (setItem ov iv u) (λ_ s'=>∃H',Inv X pins σ H' s'/\Q H') X.xe s
abbrev TIp:=V->V->Hp->VK->Prop
def PIp(X:Cx)(op:DW)(t:TIp):Prop:=
 ∀(pins:List (AI×Bs)) (s:AJ) (σ:St) (H:Hp) (x y:V) (v u:AF) (Q:VK),Inv X pins σ H s->RelV x v->RelV y u->t x y H Q ->
  A3 (model X.prog X.w) X.A (inplaceOp op v u) (EP X pins σ Q) X.xe s
section
variable {X:Cx}{pos:CH}
def yc1(i:Nat):TG:=λv σ H Q=>Q (σ.set i (AA v)) H
theorem zhv{i:Nat}{x:AQ}(hN:X.N.Nodup)(hi:X.N[i]?=AA x)(hx:Loc X.env.scope x)(hf:X.fn x=AB \/ X.env.scope.names.lookup x=AA .local:=by first|exact .inl rfl|exact .inr rfl|assumption):PG X (.Name x pos) (yc1 i):=by
 intro pins s σ H v u Q I r h;exact wpAny_assign_Name (zbu I hN hi hx r (λs' I'=>⟨_,H,I',h⟩) hf)
def yfU:TGs:=λvs σ H Q=>vs=[]/\Q σ H
def ydX(t:TG)(u:TGs):TGs:=λvs σ H Q=>∃v r,vs=v::r/\t v σ H λσ' H'=>u r σ' H' Q
theorem yca:PGs X [] yfU:=by
 intro pins s σ H vs us Q I r h;let⟨e,h⟩:=h;subst e
 cases r
 exact F6 ⟨σ,H,I,h⟩
theorem ziP{e:AS}{es:List AS}{t:TG}{u:TGs}(h1:PG X e t)(h2:PGs X es u)
  (hs:(assignEach (e::es) X.env).map (·.2)=assign e X.env::(assignEach es X.env).map (·.2):=by rfl):PGs X (e::es) (ydX t u):=by
 intro pins s σ H vs us Q I r h;let⟨v,vr,e1,h⟩:=h;subst e1
 cases r with
 |cons r rr=>
  rw[hs];refine De (thn (h1 pins s σ H _ _ _ I r h) λ_ s1 kq=>?_);let⟨σ1,H1,I1,q1⟩:=kq;exact h2 pins s1 σ1 H1 _ _ Q I1 rr q1
def ye0(K:AE)(n:Nat)(t:TGs):TG:=λv σ H Q=>∃a xs,v=.ref a/\SqT K H a xs/\xs.length=n/\t xs σ H Q
theorem zmG{es:List AS}{k:Nat}{t:TGs}{n:Nat}(hc:X.calm=AB)(h:PGs X es t)
  (hn:(assignEach es X.env).length=n:=by rfl) (hst:(assignEach es X.env).findIdx? (·.1)=none:=by rfl):PG X (.Tuple es k pos) (ye0 X.K n t):=by
 intro pins s σ H v u Q I r hw;let⟨a,xs,e1,hq,hl,hw⟩:=hw;subst e1
 cases r
 let⟨its,rv,ht,hz⟩:=I.tuple hq;refine assign_Tuple_tuple (I.ok.hd hc) ht (by simp[hn,<-hl,rv.length]) hst λh' hx=>?_;have I1:Inv X pins σ H {s with heap:=h'}:=I.kept (t':=s.toks) λb o e=>hx b o (Ah (AW e)) e;exact h pins _ σ H xs _ Q I1 (by simpa using rv) hw
def yeQ(to ti:TE)(t:yei):TG:=λv σ H Q=>to σ H λo H1=>ti σ H1 λi H2=>t o i v H2 λH3=>Q σ H3
theorem zjv{o i:AS}{to ti:TE}{t:yei}(ho:PE X o to)(hi:PE X i ti)(hs:yeI X t)
  (ha:∀v,assign (.Subscript o i pos) X.env v=(do
   let ov <-holding [v] (eval o X.env)
   let iv <-holding [v,ov] (eval i X.env)
   standAt pos
   holding [v,ov,iv] (setItem ov iv v)
   release [v,ov,iv] []):=by intro _;rfl):PG X (.Subscript o i pos) (yeQ to ti t):=by
 intro pins s σ H v u Q I r h;rw[ha];refine AH (DS (thn (ho pins s σ H _ I h) λov s1 kq=>?_));let⟨x,H1,I1,r1,q1⟩:=kq;refine AH (DS (thn (hi pins s1 σ H1 _ I1 q1) λiv s2 kq=>?_));let⟨y,H2,I2,r2,q2⟩:=kq;refine AH (EI (AH (DS (thn (hs pins s2 σ H2 x y v ov iv u _ I2 r1 r2 r q2) λ_ s3 kq=>?_))));let⟨H3,I3,q3⟩:=kq;exact wpAny_release ⟨σ,H3,I3,q3⟩
def yez(te:TE)(g:TG):TS:=λD σ H=>te σ H λx H1=>g x σ H1 D.nx
theorem zjq{tg e:AS}{te:TE}{g:TG}(he:PE X e te)(hg:PG X tg g)(hs:swapsWithSole [tg] e pos.line X.env=pure false:=by rfl)(hw:swappedStores [tg] e X.env=pure none:=by rfl)
  (h1:(assignEach [tg] X.env).map (·.2)=[assign tg X.env]:=by rfl):PS X (.Assign [tg] e pos) (yez te g):=by
 intro pins s σ H D I h;refine wpAny_Assign_stores (thn (he pins s σ H _ I h) λv s1 kq=>?_) hs hw;let⟨x,H1,I1,r1,q1⟩:=kq;rw[h1];exact thn (hg pins s1 σ H1 x v _ I1 r1 q1) λ_ s2 q=>q
theorem zjD{i:Nat}{x:AQ}{e:AS}{te:TE}{pos':CH}(hN:X.N.Nodup)(hi:X.N[i]?=AA x)(hx:Loc X.env.scope x)(he:PE X e te)(hs:swapsWith e (AA (.Name x pos')) pos.line X.env=pure false:=by rfl)(hf:X.fn x=AB \/ X.env.scope.names.lookup x=AA .local:=by first|exact .inl rfl|exact .inr rfl|assumption):
  PS X (.Assign [.Name x pos'] e pos) (yez te (yc1 i)):=by
 intro pins s σ H D I h;refine wpAny_Assign_Name (thn (he pins s σ H _ I h) λv s1 kq=>?_) hs;let⟨y,H1,I1,r1,q1⟩:=kq;exact zbu I1 hN hi hx r1 (λs2 I2=>⟨_,H1,I2,q1⟩) hf
def yeR(i j:Nat)(ta:TA):TS:=λD σ H=>ta σ H λvs H1=>∃v w,vs=[v,w]/\D.nx ((σ.set i (AA v)).set j (AA w)) H1
theorem zmt{i j:Nat}{x y:AQ}{a b:AS}{ta:TA}{px py pt:CH}{kt k2 pt2}(hc:X.calm=AB)(hN:X.N.Nodup)(hi:X.N[i]?=AA x)(hj:X.N[j]?=AA y)(hij:i≠j)
  (hx:X.env.scope.names.lookup x=AA .local) (hy:X.env.scope.names.lookup y=AA .local) (ha:PA X [a,b] ta)
  (hw:swappedStores [.Tuple [.Name x px,.Name y py] kt pt] (.Tuple [a,b] k2 pt2) X.env=pure (AA [x,y]))
  (hs:swapsWithSole [.Tuple [.Name x px,.Name y py] kt pt] (.Tuple [a,b] k2 pt2) pos.line X.env=pure false:=by rfl):
  PS X (.Assign [.Tuple [.Name x px,.Name y py] kt pt] (.Tuple [a,b] k2 pt2) pos) (yeR i j ta):=by
 intro pins s σ H D I h;rw[exec_Assign_arm];refine AH (EI ?_);rw[hs];refine AH (AV ?_);rw[if_neg (by decide)];refine AH (Tuple_ (thn (ha _ pins s σ H _ I h) λus s1 kq=>?_));let⟨vs,H1,I1,r1,q1⟩:=kq;let⟨v,w,e1,q1⟩:=q1;subst e1;obtain⟨u1,u2,rfl,rv,rw'⟩:∃u1 u2,us=[u1,u2]/\RelV v u1/\RelV w u2:=by
  cases r1 with
  |cons p q=>
   cases q with
   |cons p' q'=>
    cases q'
    exact⟨_,_,rfl,p,p'⟩
 refine Bf ?_ (by show 2<=sizeLine;decide);have I2:Inv X pins σ H1 {s1 with heap:=s1.heap.push {cls:=.type "tuple",data:=.seq [u1,u2].toArray} }:=I1.kept (t':=s1.toks) λb o e=>AN _ e;rw[hw];refine AH (AV ?_);show A3 (model X.prog X.w) X.A (do rule "assign.swapped-stores";let items <-unpackItems (.ref s1.heap.objs.size) 2 AC;assignInOrder [λv=>bindName X.env y v,λv=>bindName X.env x v] items.reverse;pure Flow.next) _ _ _;refine AH (EV (AH (unpackItems_tuple (items:=#[u1,u2]) (I.ok.hd hc) (Fv s1.heap _) λh' hx'=>?_)));have I3:=I2.kept (h':=h') (t':=s1.toks) λb o e=>hx' b o (Ah (AW e)) e;show A3 _ _ (assignInOrder [λv=>bindName X.env y v,λv=>bindName X.env x v] [u2,u1] >>= λ_=>pure Flow.next) _ _ _;refine AH (De (wpAny_bindName (zbu I3 hN hj (.inl hy) rw' (λs2 I4=>?_) (.inr hy))));refine De (wpAny_bindName (zbu I4 hN hi (.inl hx) rv (λs3 I5=>F6 (AV ?_)) (.inr hx)));rw[Ge _ _ (BI hij)]at I5;exact⟨_,H1,I5,q1⟩
def yf1(i:Nat)(te:TE)(ti:TIp):TS:=λD σ H=>∃x,σ[i]?=AA (AA x)/\te σ H λy H1=>ti x y H1 λz H2=>D.nx (σ.set i (AA z)) H2
theorem zjC{i:Nat}{x:AQ}{e:AS}{te:TE}{op:DW}{ti:TIp}{pos':CH}(hN:X.N.Nodup)(hi:X.N[i]?=AA x)(hx:Loc X.env.scope x)(he:PE X e te)(ho:PIp X op ti)(hf:X.fn x=AB \/ X.env.scope.names.lookup x=AA .local:=by first|exact .inl rfl|exact .inr rfl|assumption):
  PS X (.AugAssign (.Name x pos') op e pos) (yf1 i te ti):=by
 intro pins s σ H D I h;let⟨v,e1,h⟩:=h;let⟨m,hn,hl⟩:=I.loc;have vis:Vis X.env.scope x:=by rcases hx with k|k;exact .inl k;exact .inr (.inl k)
 let⟨u,r,l⟩:=hl i x v hi e1 vis;refine wpAny_AugAssign_Name ?_;have go:A3 (model X.prog X.w) X.A (eval e X.env) (λw s₂=>A3 (model X.prog X.w) X.A (inplaceOp op u w) (λr s₃=>A3 (model X.prog X.w) X.A (storeName X.env x r) (λ_=>SP X pins D .next) X.xe s₃) X.xe s₂) X.xe s:=by
  refine thn (he pins s σ H _ I h) λw s1 kq=>?_;let⟨y,H1,I1,r1,q1⟩:=kq;refine thn (ho pins s1 σ H1 v y u w _ I1 r r1 q1) λz s2 kq=>?_;let⟨zv,H2,I2,r2,q2⟩:=kq;exact zbu I2 hN hi hx r2 (λs3 I3=>⟨_,H2,I3,q2⟩) hf
 rcases l with⟨hk,hm⟩|⟨hk,c,hc,hcell⟩
 .exact Ep I.ok.kind hk hn hm go
 .rcases hk with hk|hk
  .exact FD I.ok.kind hk hc hcell go
  .rcases hx with k|k
   .have:X.env.scope.names.lookup x=AA .free:=hk;rw[k]at this;cases this
   .have:X.env.scope.names.lookup x=AA .free:=hk;rw[k]at this;cases this
def ipI(f:Int->Int->Int):TIp:=λx y H Q=>∃i j,x=.int i/\y=.int j/\Q (.int (f i j)) H
theorem zls:PIp X .Add (ipI λi j=>i+j):=by
 intro pins s σ H x y v u Q I r1 r2 h;let⟨i,j,e1,e2,q⟩:=h;subst e1;subst e2;let⟨t,rfl⟩:=r1;let⟨t',rfl⟩:=r2;exact GW ⟨.int _,H,I.tok _,⟨_,rfl⟩,q⟩
end
section
variable {X:Cx}{pos:CH}
def ycV(c:TT)(tb:TS):TS:=λD σ H=>∃W:Nat->St->Hp->Prop,(∃m,W m σ H)/\∀m σ H,W m σ H ->
 c σ H λb H1=>if b=AB then ∃N:St->Hp->Prop,(∀σ' H',N σ' H'->∃m',m' < m/\W m' σ' H')/\tb {D with nx:=N,ct:=N,bk:=D.nx} σ H1 else D.nx σ H1
theorem zh7{c:AS}{body:List Bn}{tc:TT}{tb:TS}(hp:EL (model X.prog X.w) X.A X.env X.xe)(hc:PT X c tc)(hb:PSs X body tb):PS X (.While c body [] pos) (ycV tc tb):=by
 intro pins s σ H D I h;let⟨W,⟨m0,w0⟩,turn⟩:=h;refine wpAny_While (codeAny_whileLoop (λn s'=>∃σ' H',Inv X pins σ' H' s'/\W n σ' H') ?_ m0 ⟨σ,H,I,w0⟩)
 rintro n s1 ⟨σ1,H1,I1,w1⟩
 refine CF hp (thn (hc pins s1 σ1 H1 _ I1 (turn n σ1 H1 w1)) λb s2 kq=>?_);let⟨H2,I2,q2⟩:=kq
 cases b with
 |true=>
  let⟨N,hN,q2⟩:=q2;rw[if_pos rfl];refine CF hp (thn (hb pins s2 σ1 H2 _ I2 q2) λf s3 q3=>?_)
  cases f with
  |next=>
   let⟨σ3,H3,I3,n3⟩:=q3;let⟨m',hm,w3⟩:=hN σ3 H3 n3;exact⟨m',hm,σ3,H3,I3,w3⟩
  |cont=>
   let⟨σ3,H3,I3,n3⟩:=q3;let⟨m',hm,w3⟩:=hN σ3 H3 n3;exact⟨m',hm,σ3,H3,I3,w3⟩
  |brk=>exact q3
  |ret v=>exact q3
 |false=>
  rw[if_neg Av];exact DY ⟨σ1,H2,I2,q2⟩
end
structure It where
 go:Nat->Hp->Prop
 yld:Nat->Hp->V->Hp->Prop
 stop:Nat->Hp->Prop
def ybf(X:Cx)(pins:List (AI×Bs))(H:Hp)(b:AI):Prop:=
 H b=AC/\b≠X.env.locals/\b∉X.fs/\(b∈X.ex \/ X.s₀.heap.objs.size<=b)/\(∀x c,X.env.cells.lookup x=AA c->c≠b)/\∀p∈X.pn++pins,p.1≠b
theorem Inv.fpOk{X:Cx}{pins:List (AI×Bs)}{σ:St}{H H':Hp}{s:AJ}{b:AI}(I:Inv X pins σ H s)(hb:s.heap.objs.size<=b)(hn:H' b=AC):ybf X pins H' b:=by
 refine⟨hn,EW (A6 I.lt hb),I.nofs hb,.inr (BQ I.sz hb),λx c e z=>?_,λp hp z=>?_⟩
 .let⟨v,q⟩:=I.cell x c e;exact absurd (A6 q.lt (by rw[z];exact hb)) (Cn _)
 .exact absurd (A6 (AW (I.pin p hp).1) (by rw[z];exact hb)) (Cn _)
structure Turn(P:A7)(w:Ag)(K:AE)(tg:AS)(J:It)(fp:List AI)(it:AI)(tn:Nat->Ay->Prop):Prop where
 mem:it∈fp
 obj:∀i h,tn i h->∀b∈fp,∃o,h.get? b=AA o/\∀v,o.data ≠ .cell v
 keep:∀i h h',tn i h->(∀b∈fp,∀o,h.get? b=AA o->h'.get? b=AA o)->tn i h'
 item:∀(X:Cx),X.prog=P->X.w=w->X.K=K->X.calm=AB->∀(i:Nat) (pins:List (AI×Bs)) (s:AJ) (σ:St) (H:Hp) (E:AF->AJ->Prop),Inv X pins σ H s->(∀b∈fp,ybf X pins H b)->tn i s.heap->J.go i H ->
  A3 (model P w) X.A (pyNext (.ref it)) (λr s1=>∃u,r=AA u /\
   A3 (model P w) X.A (letOwnedTupleGo tg (.ref it) u) (λ_ s2=>∃x H',Inv X pins σ H' s2/\RelV x u/\J.yld i H x H'/\tn (i+1) s2.heap/\∀b∈fp,H' b=AC) E s1) E s
 done:∀(X:Cx),X.prog=P->X.w=w->X.K=K->X.calm=AB->∀(i:Nat) (pins:List (AI×Bs)) (s:AJ) (σ:St) (H:Hp) (E:AF->AJ->Prop),Inv X pins σ H s->(∀b∈fp,ybf X pins H b)->tn i s.heap->J.stop i H ->
  A3 (model P w) X.A (pyNext (.ref it)) (λr s1=>r=AC/\Inv X pins σ H s1) E s
 self:∀(A:Am) (i:Nat) (s:AJ) (Q:AF->AJ->Prop) (E:AF->AJ->Prop),tn i s.heap->Q (.ref it) s->A3 (model P w) A (pyIter (.ref it)) Q E s
abbrev TI:=St->Hp->(It->Hp->Prop)->Prop
def PIE(X:Cx)(pins:List (AI×Bs))(σ:St)(tg:AS)(R:It->Hp->Prop)(itv:AF)(s2:AJ):Prop:=
 ∃(it:AI) (fp:List AI) (tn:Nat->Ay->Prop) (J:It) (H':Hp),itv=.ref it/\Inv X pins σ H' s2/\Turn X.prog X.w X.K tg J fp it tn/\tn 0 s2.heap/\(∀b∈fp,ybf X pins H' b)/\R J H'
def PI(X:Cx)(tg iter:AS)(wi:TI):Prop:=
 ∀(pins:List (AI×Bs)) (s:AJ) (σ:St) (H:Hp) (R:It->Hp->Prop),Inv X pins σ H s->wi σ H R ->
  A3 (model X.prog X.w) X.A (eval iter X.env) (λv s1=>A3 (model X.prog X.w) X.A (pyIter v) (PIE X pins σ tg R) X.xe s1) X.xe s
theorem zlc{M:Model}{A:Am}{E:AF->AJ->Prop}{s:AJ}{tg:AS}{it:AI}{u:AF}{o:Bs}{n:String}{vs:Array AF}{Q:Unit->AJ->Prop}(ho:s.heap.get? it=AA o)(hc:o.cls=.type n)(hd:o.data=.fields vs)
  (hn:["enumerate","zip","dict_itemiterator","dict_reverseitemiterator","odict_iterator","itertools.zip_longest","itertools.pairwise"].contains n=AD) (hQ:Q () s):A3 M A (letOwnedTupleGo tg (.ref it) u) Q E s:=by
 unfold letOwnedTupleGo
 cases tg<;>first
  |exact AV hQ
  | (cases u<;>first
    |exact AV hQ
    | (refine AH (wpAny_load ho ?_)
       rw[hc,hd];show A3 M A (if (["enumerate","zip","dict_itemiterator","dict_reverseitemiterator","odict_iterator","itertools.zip_longest","itertools.pairwise"].contains n&&vs[0]? == AA (rawInt _))=AB then _ else _) Q E s;rw[if_neg (by intro h;rw[hn,G1]at h;cases h)];exact AV hQ))
def Itl(K:AE)(a:AI):It:=
 ⟨λi H=>∃xs x,SqL K H a xs/\xs[i]?=AA x,λi H x H'=>H'=H/\∀xs,SqL K H a xs->xs[i]?=AA x,λi H=>∃xs,SqL K H a xs/\xs.length<=i⟩
def Itt(K:AE)(a:AI):It:=
 ⟨λi H=>∃xs x,SqT K H a xs/\xs[i]?=AA x,λi H x H'=>H'=H/\∀xs,SqT K H a xs->xs[i]?=AA x,λi H=>∃xs,SqT K H a xs/\xs.length<=i⟩
def Itr(lo:Int)(n:Nat):It:=⟨λi _=>i<n,λi H x H'=>H'=H/\x=.int (lo+i),λi _=>n<=i⟩
theorem zhB{P:A7}{w:Ag}{K:AE}{tg:AS}(a it:AI):Turn P w K tg (Itl K a) [it] it (λi h=>h.IsListIter it a i) where
 mem:=by simp
 obj:=λi h st b hb=>by
  have e:b=it:=by simpa using hb
  subst e;let⟨o,e,c,d⟩:=st;exact⟨o,e,λv z=>by rw[d]at z;cases z⟩
 keep:=λi h h' st k=>st.at λo e=>k it (by simp) o e
 item:=by
  intro X hP hw hK hc i pins s σ H E I hf st hg;subst hP hw hK;let⟨xs,x,hq,hx⟩:=hg;let⟨its,rv,p,hz⟩:=I.list hq;let⟨u,hu,ru⟩:=rv.get hx;let⟨f0,f1,f2,f3,f4,f5⟩:=hf it (by simp);refine wpAny_pyNext_list_item st p.isList (x:=u) (by simpa using hu) λh' st' sb=>?_;have I1:Inv X pins σ H {s with heap:=h'}:=I.turned (t':=s.toks) (λb o hb e=>(sb.2 b hb).trans e) f0 f1 f3 f4 f5;let⟨o,e,c,d⟩:=id st';exact⟨u,rfl,zlc (s:={s with heap:=h'}) e c d (by decide) ⟨x,H,I1,ru,⟨rfl,λys hy=>by rw[I.list_inj hy hq];exact hx⟩,st',λb hb=>(hf b hb).1⟩⟩
 done:=by
  intro X hP hw hK hc i pins s σ H E I hf st hg;subst hP hw hK;let⟨xs,hq,hx⟩:=hg;let⟨its,rv,p,hz⟩:=I.list hq;let⟨f0,f1,f2,f3,f4,f5⟩:=hf it (by simp);have hl:=rv.length;exact wpAny_pyNext_list_end (I.ok.hd hc) st p.isList (by simp;lia) λh' eb=>⟨rfl,I.turned (t':=s.toks) (λb o hb e=>eb b o hb e) f0 f1 f3 f4 f5⟩
 self:=λ_ _ _ _ _ st h=>wpAny_pyIter_listiter st h
theorem zfZ{P:A7}{w:Ag}{K:AE}{tg:AS}(a it:AI):Turn P w K tg (Itt K a) [it] it (λi h=>h.IsTupleIter it a i) where
 mem:=by simp
 obj:=λi h st b hb=>by
  have e:b=it:=by simpa using hb
  subst e;let⟨o,e,c,d⟩:=st;exact⟨o,e,λv z=>by rw[d]at z;cases z⟩
 keep:=λi h h' st k=>st.at λo e=>k it (by simp) o e
 item:=by
  intro X hP hw hK hc i pins s σ H E I hf st hg;subst hP hw hK;let⟨xs,x,hq,hx⟩:=hg;let⟨its,rv,p,hz⟩:=I.tuple hq;let⟨u,hu,ru⟩:=rv.get hx;let⟨f0,f1,f2,f3,f4,f5⟩:=hf it (by simp);refine wpAny_pyNext_tuple_item st (show s.heap.IsTuple a its.toArray from p) (x:=u) (by simpa using hu) λh' st' sb=>?_;have I1:Inv X pins σ H {s with heap:=h'}:=I.turned (t':=s.toks) (λb o hb e=>(sb.2 b hb).trans e) f0 f1 f3 f4 f5;let⟨o,e,c,d⟩:=id st';exact⟨u,rfl,zlc (s:={s with heap:=h'}) e c d (by decide) ⟨x,H,I1,ru,⟨rfl,λys hy=>by rw[I.tuple_inj hy hq];exact hx⟩,st',λb hb=>(hf b hb).1⟩⟩
 done:=by
  intro X hP hw hK hc i pins s σ H E I hf st hg;subst hP hw hK;let⟨xs,hq,hx⟩:=hg;let⟨its,rv,p,hz⟩:=I.tuple hq;let⟨f0,f1,f2,f3,f4,f5⟩:=hf it (by simp);have hl:=rv.length;exact wpAny_pyNext_tuple_end (I.ok.hd hc) st (show s.heap.IsTuple a its.toArray from p) (by simp;lia) λh' eb=>⟨rfl,I.turned (t':=s.toks) (λb o hb e=>eb b o hb e) f0 f1 f3 f4 f5⟩
 self:=λ_ _ _ _ _ st h=>wpAny_pyIter_tupleiter st h
theorem zgd{P:A7}{w:Ag}{K:AE}{tg:AS}(it:AI)(lo:Int)(n:Nat):Turn P w K tg (Itr lo n) [it] it (λi h=>IsRangeIter h it (lo+(i:Nat)*1) ((n:Int)-(i:Nat)) 1) where
 mem:=by simp
 obj:=λi h st b hb=>by
  have e:b=it:=by simpa using hb
  subst e;exact⟨_,st,λv z=>by
   have z':Data.fields _=Data.cell v:=z
   cases z'⟩
 keep:=λi h h' st k=>k it (by simp) _ st
 item:=by
  intro X hP hw hK hc i pins s σ H E I hf st hg;subst hP hw hK;let⟨f0,f1,f2,f3,f4,f5⟩:=hf it (by simp);have W:=Walks.range (prog:=X.prog) (w:=X.w) (I.ok.hd hc) it lo 1 n;refine W.item i s _ _ hg st λv h' tk hv st' kk=>?_;let⟨t,rfl⟩:=hv;have I1:Inv X pins σ H {s with heap:=h',toks:=tk}:=I.turned (λb o hb e=>kk b o (by simpa using hb) e) f0 f1 f3 f4 f5;refine⟨_,rfl,zlc (s:={s with heap:=h',toks:=tk}) (n:="range_iterator") st' rfl rfl (by decide) ⟨.int (lo+i),H,I1,⟨t,?_⟩,⟨rfl,rfl⟩,st',λb hb=>(hf b hb).1⟩⟩;rw[C9]
 done:=by
  intro X hP hw hK hc i pins s σ H E I hf st hg;subst hP hw hK;let⟨f0,f1,f2,f3,f4,f5⟩:=hf it (by simp);exact wpAny_pyNext_range_end (I.ok.hd hc) st (by have:n<=i:=hg;lia) λh' eb=>⟨rfl,I.turned (t':=s.toks) (λb o hb e=>eb b o hb e) f0 f1 f3 f4 f5⟩
 self:=λ_ _ _ _ _ st h=>wpAny_pyIter_rangeiter st h
section
variable {X:Cx}{tg:AS}
theorem ziF{pins:List (AI×Bs)}{σ:St}{H:Hp}{s:AJ}{R:It->Hp->Prop}{E:AF->AJ->Prop}{lo hi:Int}{t u v:HQ}{tk:Nat}(I:Inv X pins σ H s)(h1:-(2^62)<=lo)(h2:lo<2^62)(h3:-(2^62)<=hi)(h4:hi<2^62)
  (q:R (Itr lo (hi-lo).toNat) H):A3 (model X.prog X.w) X.A (pyIter (.ref s.heap.objs.size)) (PIE X pins σ tg R) E {s with heap:=s.heap.push {cls:=.type "range",data:=.fields #[.int lo t,.int hi u,.int 1 v]},toks:=tk}:=by
 refine wpAny_pyIter_range (IsRange.new ..) (small_one h1 h2 h3 h4) ?_;have I1:Inv X pins σ H {s with heap:=s.heap.push {cls:=.type "range",data:=.fields #[.int lo t,.int hi u,.int 1 v]},toks:=tk}:=I.kept λb o e=>AN _ e;refine⟨(s.heap.push {cls:=.type "range",data:=.fields #[.int lo t,.int hi u,.int 1 v]}).objs.size,[(s.heap.push {cls:=.type "range",data:=.fields #[.int lo t,.int hi u,.int 1 v]}).objs.size],_,_,H,rfl,
  I1.kept (t':=tk) λb o e=>AN _ e,zgd _ lo (hi-lo).toNat,?_,λb hb=>?_,q⟩
 .have e1:lo+((0:Nat):Int)*1=lo:=by simp
  have e2:(((hi-lo).toNat:Nat):Int)-((0:Nat):Int)=Gg lo hi 1:=by rw[rangeSize_one];split<;>lia
  show IsRangeIter _ _ (lo+((0:Nat):Int)*1) ((((hi-lo).toNat:Nat):Int)-((0:Nat):Int)) 1;rw[e1,e2];exact A0 _ rfl
 .have e:b=(s.heap.push {cls:=.type "range",data:=.fields #[.int lo t,.int hi u,.int 1 v]}).objs.size:=by simpa using hb
  subst e;exact I1.fpOk (AU _) (I1.hok.fresh (AU _))
def ydM(ta:TA):TI:=λσ H R=>ta σ H λvs H1=>∃j:Int,vs=[.int j]/\-(2^62)<=j/\j<2^62/\R (Itr 0 j.toNat) H1
theorem zhH{a:AS}{ta:TA}{p pos:CH}(hg:Gl X "range")(hm:X.mg "range"=AC)(ha:PA X [a] ta)(hs:starEach [a] X.env=[(AD,eval a X.env)]:=by rfl):PI X tg (.Call (.Name "range" p) [a] [] pos) (ydM ta):=by
 intro pins s σ H R I h;refine Call_ (zdq I hg hm boot_range (Bu (thn (ha pos pins s σ H _ I h) λus s1 kq=>?_) hs rfl));let⟨vs,H1,I1,r1,q1⟩:=kq;let⟨j,e,q1,q2,q⟩:=q1;subst e
 cases r1 with
 |cons r rr=>
  cases rr
  let⟨t,rfl⟩:=r;exact call_range_1 (ziF I1 (by lia) (by lia) q1 q2 (by simpa using q))
def ygi(wi:TI)(g:TG)(tb:TS):TS:=λD σ H=>wi σ H λJ H1=>∃W:Nat->Nat->St->Hp->Prop,(∃m,W 0 m σ H1)/\∀i m σ H,W i m σ H ->
 (J.stop i H/\D.nx σ H) \/ (J.go i H/\∃N:St->Hp->Prop,(∀σ' H',N σ' H'->∃m',m' < m/\W (i+1) m' σ' H')/\∀x H',J.yld i H x H'->g x σ H' λσ2 H2=>tb {D with nx:=N,ct:=N,bk:=D.nx} σ2 H2)
def ya7(fp:List AI)(h:Ay):List (AI×Bs):=fp.filterMap λb=>(h.get? b).map λo=>(b,o)
theorem za0{fp:List AI}{h:Ay}{b:AI}{o:Bs}(hb:b∈fp)(e:h.get? b=AA o):(b,o)∈ya7 fp h:=Dh.mpr ⟨b,hb,by rw[e];rfl⟩
theorem zgF{fp:List AI}{h:Ay}{p:AI×Bs}(hp:p∈ya7 fp h):p.1∈fp/\h.get? p.1=AA p.2:=by
 let⟨b,hb,e⟩:=Dh.mp hp
 cases q:h.get? b with
 |none=>rw[q]at e;cases e
 |some o=>
  rw[q]at e;have e':(b,o)=p:=AY e;subst e';exact⟨hb,q⟩
theorem Inv.pinned{pins:List (AI×Bs)}{σ:St}{H:Hp}{s:AJ}{fp:List AI}(I:Inv X pins σ H s)(hf:∀b∈fp,ybf X pins H b)(ho:∀b∈fp,∃o,s.heap.get? b=AA o/\∀v,o.data ≠ .cell v):Inv X (pins++ya7 fp s.heap) σ H s:=
 I.pins_of λp hp=>(Cr.mp hp).elim (λz=>I.pin p (BB _ z)) λz=>by
  let⟨hb,e⟩:=zgF z;let⟨f0,f1,f2,_⟩:=hf p.1 hb;let⟨o,e',d⟩:=ho p.1 hb;rw[e]at e';cases e';exact⟨e,f0,f1,f2,d⟩
theorem Inv.unpinned{pins pl:List (AI×Bs)}{σ:St}{H:Hp}{s:AJ}(I:Inv X (pins++pl) σ H s):Inv X pins σ H s:=I.pins_of λp hp=>I.pin p (BB _ (Eo _ hp))
theorem zlo{iter:AS}{body:List Bn}{wi:TI}{g:TG}{tb:TS}{pos:CH}(hp:EL (model X.prog X.w) X.A X.env X.xe)(hc:X.calm=AB)(hi:PI X tg iter wi)(hg:PG X tg g)(hb:PSs X body tb)
  (hs:∀x,foldedSetIterable iter X.env x=pure x:=by intro _;rfl):PS X (.For tg iter body [] pos) (ygi wi g tb):=by
 intro pins s σ H D I h;refine wpAny_For (thn (hi pins s σ H _ I h) λv s1 h1=>thn h1 λitv s2 h2=>?_) hs;let⟨it,fp,tn,J,H2,e,I2,T,st2,f2,W,⟨m0,w0⟩,turn⟩:=h2;subst e;have stat:∀{H':Hp},(∀b∈fp,H' b=AC)->∀b∈fp,ybf X pins H' b:=λhn b hb=>⟨hn b hb,(f2 b hb).2⟩;refine codeAny_forLoop_any (λn s'=>∃i σ' H',Inv X pins σ' H' s'/\tn i s'.heap/\(∀b∈fp,H' b=AC)/\W i n σ' H') ?_ m0 ⟨0,σ,H2,I2,st2,λb hb=>(f2 b hb).1,w0⟩
 rintro n s3 ⟨i,σ3,H3,I3,st3,fr3,w3⟩
 rcases turn i n σ3 H3 w3 with⟨stop,qn⟩|⟨go,N,hN,step⟩
 .refine CF hp (thn (T.done X rfl rfl rfl hc i pins s3 σ3 H3 X.xe I3 (stat fr3) st3 stop) λr s4 kq=>?_);let⟨hr,I4⟩:=kq;subst hr;exact DY ⟨σ3,H3,I4,qn⟩
 .refine CF hp (thn (T.item X rfl rfl rfl hc i pins s3 σ3 H3 X.xe I3 (stat fr3) st3 go) λr s4 kq=>?_);let⟨u,hr,h4⟩:=kq;subst hr;refine CF hp (thn h4 λ_ s5 kq=>?_);let⟨x,H5,I5,r5,y5,st5,fr5⟩:=kq;have I5':=I5.pinned (stat fr5) (T.obj _ _ st5);refine CF hp (thn (hg _ s5 σ3 H5 x u _ I5' r5 (step x H5 y5)) λ_ s6 kq=>?_);let⟨σ6,H6,I6,q6⟩:=kq;refine CF hp (thn (hb _ s6 σ6 H6 _ I6 q6) λf s7 q7=>?_);have again:∀{σ7:St} {H7:Hp},Inv X (pins++ya7 fp s5.heap) σ7 H7 s7->N σ7 H7->∃m,m<n/\∃i σ' H',Inv X pins σ' H' s7/\tn i s7.heap/\(∀b∈fp,H' b=AC)/\W i m σ' H':=λ{σ7 H7} I7 n7=>by
   let⟨m',hm,w7⟩:=hN σ7 H7 n7;refine⟨m',hm,i+1,σ7,H7,I7.unpinned,T.keep _ _ _ st5 λb hb o e=>(I7.pin (b,o) (BB _ (BB _ (za0 hb e)))).1,λb hb=>?_,w7⟩;let⟨o,e,d⟩:=T.obj _ _ st5 b hb;exact(I7.pin (b,o) (BB _ (BB _ (za0 hb e)))).2.1
  cases f with
  |next=>let⟨σ7,H7,I7,n7⟩:=q7;exact again I7 n7
  |cont=>let⟨σ7,H7,I7,n7⟩:=q7;exact again I7 n7
  |brk=>let⟨σ7,H7,I7,q7⟩:=q7;exact⟨σ7,H7,I7.unpinned,q7⟩
  |ret v=>let⟨x7,σ7,H7,I7,r7,q7⟩:=q7;exact⟨x7,σ7,H7,I7.unpinned,r7,q7⟩
end
abbrev R2:=V->V->Hp->VK->Prop
def OpR(X:Cx)(f:AF->AF->Gd AF)(r:R2):Prop:=
 ∀(pins:List (AI×Bs)) (s:AJ) (σ:St) (H:Hp) (x y:V) (v u:AF) (Q:VK),Inv X pins σ H s->RelV x v->RelV y u->r x y H Q ->
  A3 (model X.prog X.w) X.A (f v u) (EP X pins σ Q) X.xe s
def UnR(X:Cx)(f:AF->Gd AF)(r:V->Hp->VK->Prop):Prop:=
 ∀(pins:List (AI×Bs)) (s:AJ) (σ:St) (H:Hp) (x:V) (v:AF) (Q:VK),Inv X pins σ H s->RelV x v->r x H Q ->
  A3 (model X.prog X.w) X.A (f v) (EP X pins σ Q) X.xe s
def yab(X:Cx)(f:AF)(r:List V->Hp->VK->Prop):Prop:=
 ∀(pins:List (AI×Bs)) (s:AJ) (σ:St) (H:Hp) (xs:List V) (us:List AF) (Q:VK),Inv X pins σ H s->Vals xs us->r xs H Q ->
  A3 (model X.prog X.w) X.A (call f us) (EP X pins σ Q) X.xe s
def yf0(X:Cx)(r:V->Hp->(Bool->Hp->Prop)->Prop):Prop:=
 ∀(pins:List (AI×Bs)) (s:AJ) (σ:St) (H:Hp) (x:V) (v:AF) (Q:Bool->Hp->Prop),Inv X pins σ H s->RelV x v->r x H Q ->
  A3 (model X.prog X.w) X.A (truthy v) (TP X pins σ Q) X.xe s
def tOp(r:R2)(ta tb:TE):TE:=λσ H Q=>ta σ H λx H1=>tb σ H1 λy H2=>r x y H2 Q
def tUn(r:V->Hp->VK->Prop)(ta:TE):TE:=λσ H Q=>ta σ H λx H1=>r x H1 Q
def rI(C:Int->Int->Prop)(g:Int->Int->V):R2:=λx y H Q=>∃i j,x=.int i/\y=.int j/\C i j/\Q (g i j) H
def rI0(g:Int->Int->V):R2:=λx y H Q=>∃i j,x=.int i/\y=.int j/\Q (g i j) H
def rU(g:Int->V):V->Hp->VK->Prop:=λx H Q=>∃i,x=.int i/\Q (g i) H
section
variable {X:Cx}{a b c:AS}{ta tb tc:TE}{pos:CH}
theorem yeh(ha:PE X a ta)(hb:PE X b tb){pins:List (AI×Bs)}{s:AJ}{σ:St}{H:Hp}{R:V->V->Hp->Prop}(I:Inv X pins σ H s)
  (h:ta σ H λx H1=>tb σ H1 λy H2=>R x y H2) {Q:AF->AJ->Prop} {f:AF->AF->Gd AF}
  (hf:∀v u s2 x y H2,Inv X pins σ H2 s2->RelV x v->RelV y u->R x y H2->A3 (model X.prog X.w) X.A (f v u) Q X.xe s2):
  A3 (model X.prog X.w) X.A (eval a X.env) (λv s₁=>A3 (model X.prog X.w) X.A (eval b X.env) (λu s₂=>A3 (model X.prog X.w) X.A (f v u) Q X.xe s₂) X.xe s₁) X.xe s:=by
 refine thn (ha pins s σ H _ I h) λv s1 kq=>?_;let⟨x,H1,I1,r1,q1⟩:=kq;refine thn (hb pins s1 σ H1 _ I1 q1) λu s2 kq=>?_;let⟨y,H2,I2,r2,q2⟩:=kq;exact hf v u s2 x y H2 I2 r1 r2 q2
theorem znO{op:DW}{r:R2}(ho:OpR X (binaryOp op) r)(ha:PE X a ta)(hb:PE X b tb):PE X (.BinOp a op b pos) (tOp r ta tb):=by
 intro pins s σ H Q I h;exact wpAny_BinOp (yeh ha hb I h λv u s2 x y H2 I2 rx ry q=>ho pins s2 σ H2 x y v u Q I2 rx ry q)
theorem znL{op:UnaryOp}{r:V->Hp->VK->Prop}(ho:UnR X (unaryOp op) r)(ha:PE X a ta):PE X (.UnaryOp op a pos) (tUn r ta):=by
 intro pins s σ H Q I h;exact UnaryOp_ (thn (ha pins s σ H _ I h) λv s1 ⟨x,H1,I1,r1,q1⟩=>ho pins s1 σ H1 x v Q I1 r1 q1)
theorem opI{f:AF->AF->Gd AF}{C:Int->Int->Prop}{g:Int->Int->Int}
  (rule:∀(i j:Int) (t u:HQ) (s:AJ) (Q:AF->AJ->Prop) (E:AF->AJ->Prop),C i j->Q (.int (g i j) s.toks) {s with toks:=s.toks+1}->A3 (model X.prog X.w) X.A (f (.int i t) (.int j u)) Q E s):
  OpR X f (rI C λi j=>.int (g i j)):=by
 intro pins s σ H x y v u Q I rx ry h;let⟨i,j,rfl,rfl,hc,q⟩:=h;let⟨t,rfl⟩:=rx;let⟨t',rfl⟩:=ry;exact rule i j t t' s _ _ hc ⟨.int (g i j),H,I.tok _,⟨_,rfl⟩,q⟩
theorem ycP{f:AF->AF->Gd AF}{g:Int->Int->Int}
  (rule:∀(i j:Int) (t u:HQ) (s:AJ) (Q:AF->AJ->Prop) (E:AF->AJ->Prop),Q (.int (g i j) s.toks) {s with toks:=s.toks+1}->A3 (model X.prog X.w) X.A (f (.int i t) (.int j u)) Q E s):
  OpR X f (rI0 λi j=>.int (g i j)):=by
 intro pins s σ H x y v u Q I rx ry h;let⟨i,j,rfl,rfl,q⟩:=h;let⟨t,rfl⟩:=rx;let⟨t',rfl⟩:=ry;exact rule i j t t' s _ _ ⟨.int (g i j),H,I.tok _,⟨_,rfl⟩,q⟩
theorem ydl{f:AF->AF->Gd AF}{g:Int->Int->Bool}
  (rule:∀(i j:Int) (t u:HQ) (s:AJ) (Q:AF->AJ->Prop) (E:AF->AJ->Prop),Q (.bool (g i j)) s->A3 (model X.prog X.w) X.A (f (.int i t) (.int j u)) Q E s):
  OpR X f (rI0 λi j=>.bl (g i j)):=by
 intro pins s σ H x y v u Q I rx ry h;let⟨i,j,rfl,rfl,q⟩:=h;let⟨t,rfl⟩:=rx;let⟨t',rfl⟩:=ry;exact rule i j t t' s _ _ ⟨.bl (g i j),H,I,rfl,q⟩
def ydq(i j:Int):Prop:=0<=j/\j<=1000000/\i.natAbs<2^64
def ycF(i j:Int):Prop:=(-(2^64)<i/\i<2^64) \/ (-(2^64)<j/\j<2^64)
theorem ycF.ok{i j:Int}(h:ycF i j):IntMulOk i j:=by
 rcases h with⟨h1,h2⟩|⟨h1,h2⟩
 .exact .of_left (intBits_le_64 h1 h2)
 .exact .of_right (intBits_le_64 h1 h2)
theorem zgc(k:Nat):(0:Int)<=2^k:=by
 rw[two_pow_cast];exact Int.natCast_nonneg _
theorem zmY:OpR X (binaryOp .Add) (rI0 λi j=>.int (i+j)):=ycP λ_ _ _ _ _ _ _ q=>add_int q
theorem zlz:OpR X (binaryOp .Sub) (rI0 λi j=>.int (i-j)):=ycP λ_ _ _ _ _ _ _ q=>sub_int q
theorem zlQ:OpR X (binaryOp .Mult) (rI ycF λi j=>.int (i*j)):=opI λ_ _ _ _ _ _ _ hc q=>mul_int q hc.ok
theorem zm6:OpR X (binaryOp .Mod) (rI (λ_ j=>0<j) λi j=>.int (i%j)):=opI λi j _ _ _ _ _ hc q=>by
 have h1:(0:Int)<j:=hc;exact mod_int' (by lia) (by rw[Int.fmod_eq_emod_of_nonneg i (by lia)];exact q)
theorem zmB:OpR X (binaryOp .Pow) (rI ydq λi j=>.int (i^j.toNat)):=opI λ_ _ _ _ _ _ _ hc q=>pow_int_small hc.1 hc.2.1 hc.2.2 q
theorem zmD:OpR X (binaryOp .LShift) (rI ydq λi j=>.int (i*2^j.toNat)):=opI λ_ _ _ _ _ _ _ hc q=>lshift_int_small hc.1 hc.2.1 hc.2.2 q
theorem zlG:OpR X (binaryOp .RShift) (rI (λ_ j=>0<=j) λi j=>.int (i/2^j.toNat)):=opI λi j _ _ _ _ _ hc q=>
 rshift_int hc (by rw[Di i (zgc _)];exact q)
theorem zmM:OpR X (binaryOp .BitAnd) (rI0 λi j=>.int (Ab i j)):=ycP λ_ _ _ _ _ _ _ q=>and_int q
theorem znZ:OpR X (binaryOp .BitOr) (rI0 λi j=>.int (BD i j)):=ycP λ_ _ _ _ _ _ _ q=>or_int q
theorem zl0:OpR X (binaryOp .BitXor) (rI0 λi j=>.int (Ax i j)):=ycP λ_ _ _ _ _ _ _ q=>xor_int q
theorem unI{f:AF->Gd AF}{g:Int->Int}
  (rule:∀(i:Int) (t:HQ) (s:AJ) (Q:AF->AJ->Prop) (E:AF->AJ->Prop),Q (.int (g i) s.toks) {s with toks:=s.toks+1}->A3 (model X.prog X.w) X.A (f (.int i t)) Q E s):
  UnR X f (rU λi=>.int (g i)):=by
 intro pins s σ H x v Q I rx h;let⟨i,rfl,q⟩:=h;let⟨t,rfl⟩:=rx;exact rule i t s _ _ ⟨.int (g i),H,I.tok _,⟨_,rfl⟩,q⟩
theorem zlK:UnR X (unaryOp .USub) (rU λi=>.int (-i)):=unI λ_ _ _ _ _ q=>neg_int q
theorem zg0:OpR X (binaryOp .Add) (λx y H Q=>∃i k,x=.int i/\y=.bl k/\Q (.int (i+b2i k)) H):=by
 intro pins s σ H x y v u Q I rx ry h;let⟨i,k,rfl,rfl,q⟩:=h;let⟨t,rfl⟩:=rx
 cases ry
 exact add_int_bool ⟨.int (i+b2i k),H,I.tok _,⟨_,rfl⟩,q⟩
end
section
variable {X:Cx}{a b c:AS}{ta tb tc:TE}{pos:CH}
theorem zgW{pins:List (AI×Bs)}{σ:St}{H:Hp}{s:AJ}{Q:VK}{k k':Bool}(I:Inv X pins σ H s)(q:Q (.bl k) H)(e:k=k'):EP X pins σ Q (.bool k') s:=by
 subst e;exact⟨.bl k,H,I,rfl,q⟩
theorem znU:OpR X (compareOp .Lt) (rI0 λi j=>.bl (decide (i<j))):=ydl λ_ _ _ _ _ _ _ q=>lt_int q
theorem zof:OpR X (compareOp .LtE) (rI0 λi j=>.bl (decide (i<=j))):=ydl λ_ _ _ _ _ _ _ q=>le_int q
theorem zoh:OpR X (compareOp .Gt) (rI0 λi j=>.bl (decide (j<i))):=ydl λ_ _ _ _ _ _ _ q=>gt_int q
theorem zn7:OpR X (compareOp .GtE) (rI0 λi j=>.bl (decide (j<=i))):=ydl λ_ _ _ _ _ _ _ q=>ge_int q
theorem zha:OpR X (compareOp .Lt) (λx y H Q=>∃i j,x=.str i/\y=.str j/\Q (.bl (decide (i.cps.toList<j.cps.toList))) H):=by
 intro pins s σ H x y v u Q I rx ry h;let⟨i,j,rfl,rfl,q⟩:=h;let⟨t,rfl⟩:=rx;let⟨t',rfl⟩:=ry;exact lt_str (zgW I q rfl)
theorem zgY:OpR X (compareOp .In) (λx y H Q=>∃i j,x=.str i/\y=.str j/\Q (.bl (!(EM j i 0 j.length 1).isEmpty)) H):=by
 intro pins s σ H x y v u Q I rx ry h;let⟨i,j,rfl,rfl,q⟩:=h;let⟨t,rfl⟩:=rx;let⟨t',rfl⟩:=ry;exact in_str (zgW I q rfl)
theorem zgR{op:FN}{r:R2}(ho:OpR X (compareOp op) r)(ha:PE X a ta)(hb:PE X b tb)(hm:behindInMarks op b=AD):PE X (.Compare a [op] [b] pos) (tOp r ta tb):=by
 intro pins s σ H Q I h;exact wpAny_Compare1 (yeh ha hb I h λv u s2 x y H2 I2 rx ry q=>ho pins s2 σ H2 x y v u Q I2 rx ry q) hm
def yc5(t:TE):TT:=λσ H Q=>t σ H λx H'=>∃k,x=.bl k/\Q k H'
theorem zki{op:FN}{r:R2}(ho:OpR X (compareOp op) r)(ha:PE X a ta)(hb:PE X b tb)(hm:behindInMarks op b=AD):PT X (.Compare a [op] [b] pos) (yc5 (tOp r ta tb)):=by
 intro pins s σ H Q I h;refine wpAny_isTrue_Compare1 (thn (ha pins s σ H _ I h) λv s1 ⟨x,H1,I1,r1,q1⟩=>thn (hb pins s1 σ H1 _ I1 q1) λu s2 ⟨y,H2,I2,r2,q2⟩=>
  thn (ho pins s2 σ H2 x y v u _ I2 r1 r2 q2) λc s3 ⟨z,H3,I3,r3,k,e,q3⟩=>?_) hm
 subst e
 cases r3
 exact BR ⟨H3,I3,q3⟩
def yb9(r r':R2)(ta tb tc:TE):TE:=λσ H Q=>ta σ H λx H1=>tb σ H1 λy H2=>r x y H2 λz H3=>∃k,z=.bl k /\
 (if k=AB then tc σ H3 λw' H4=>r' y w' H4 Q else Q (.bl AD) H3)
theorem zid{op op':FN}{r r':R2}(ho:OpR X (compareOp op) r)(ho':OpR X (compareOp op') r')(ha:PE X a ta)(hb:PE X b tb)(hc:PE X c tc)
  (hm:lastMarks [op,op'] [b,c]=false:=by ac_rfl):PE X (.Compare a [op,op'] [b,c] pos) (yb9 r r' ta tb tc):=by
 intro pins s σ H Q I h;refine Compare_chain (thn (ha pins s σ H _ I h) λv s1 ⟨x,H1,I1,r1,q1⟩=>chain_link (thn (hb pins s1 σ H1 _ I1 q1) λu s2 ⟨y,H2,I2,r2,q2⟩=>
  thn (ho pins s2 σ H2 x y v u _ I2 r1 r2 q2) λd s3 ⟨z,H3,I3,r3,k,e,q3⟩=>?_)) hm
 subst e
 cases r3
 refine BR ?_
 cases k with
 |false=>exact ite_ff ⟨.bl AD,H3,I3,rfl,q3⟩
 |true=>exact ite_tt (chain_last (thn (hc pins s3 σ H3 _ I3 q3) λw' s4 ⟨z',H4,I4,r4,q4⟩=>ho' pins s4 σ H4 y z' u w' Q I4 r2 r4 q4))
theorem zh8{op op':FN}{r r':R2}(ho:OpR X (compareOp op) r)(ho':OpR X (compareOp op') r')(ha:PE X a ta)(hb:PE X b tb)(hc:PE X c tc)
  (hm:lastMarks [op,op'] [b,c]=false:=by ac_rfl):PT X (.Compare a [op,op'] [b,c] pos) (yc5 (yb9 r r' ta tb tc)):=by
 intro pins s σ H Q I h;refine isTrue_chain (thn (ha pins s σ H _ I h) λv s1 ⟨x,H1,I1,r1,q1⟩=>test_link (thn (hb pins s1 σ H1 _ I1 q1) λu s2 ⟨y,H2,I2,r2,q2⟩=>
  thn (ho pins s2 σ H2 x y v u _ I2 r1 r2 q2) λd s3 ⟨z,H3,I3,r3,k,e,q3⟩=>?_)) hm
 subst e
 cases r3
 refine BR ?_
 cases k with
 |false=>
  let⟨k',e',q'⟩:=q3
  cases e'
  exact ite_ff ⟨H3,I3,q'⟩
 |true=>
  refine ite_tt (test_last (thn (hc pins s3 σ H3 _ I3 q3) λw' s4 kq=>?_));let⟨z',H4,I4,r4,q4⟩:=kq;refine thn (ho' pins s4 σ H4 y z' u w' _ I4 r2 r4 q4) λd' s5 kq=>?_;let⟨z2,H5,I5,r5,k2,e2,q5⟩:=kq;subst e2
  cases r5
  exact BR ⟨H5,I5,q5⟩
def ydQ(K:AE)(x:V)(H:Hp)(k:Bool):Prop:=
 match x with
 |.non=>k=AD
 |.bl b=>k=b
 |.int i=>k=(i != 0)
 |.str y=>y.length<=sizeLine/\k=((y.length:Int) != 0)
 |.byt y=>y.size<=sizeLine/\k=((y.size:Int) != 0)
 |.ref p=>(∃xs,SqL K H p xs/\k=!xs.isEmpty) \/ (∃xs,SqT K H p xs/\k=!xs.isEmpty) \/ ∃kvs,H p=AA (.dK kvs)/\k=!kvs.isEmpty
 |_=>False
theorem zf2{κ:Type}{kvs:List (κ×V)}{vs:List (κ×AF)}(r:KV kvs vs):(!vs.isEmpty)=!kvs.isEmpty:=by
 cases r<;>rfl
theorem zdm{xs:List V}{its:List AF}(r:Vals xs its):(!its.toArray.isEmpty)=!xs.isEmpty:=by
 cases r<;>simp
theorem yaI:(sizeLine:Nat)<2^63:=by rw[DX];decide
theorem zmb:yf0 X (λx H Q=>∃k,ydQ X.K x H k/\Q k H):=by
 intro pins s σ H x v Q I rx h;let⟨k,e,q⟩:=h;have hl:=yaI;have hs:sizeLine=16777216:=DX
 cases x with
 |non=>
  cases rx
  have e':k=false:=e;subst e';exact truthy_none ⟨H,I,q⟩
 |bl b=>
  cases rx
  have e':k=b:=e;subst e';exact BR ⟨H,I,q⟩
 |int i=>
  let⟨t,rfl⟩:=rx;have e':k=(i != 0):=e;subst e';exact PySem.P.truthy_int ⟨H,I,q⟩
 |str y=>
  let⟨t,rfl⟩:=rx;obtain⟨hy,e'⟩:y.length<=sizeLine/\k=((y.length:Int) != 0):=e;subst e';exact PySem.P.truthy_str (by lia) ⟨H,I.tok _,q⟩
 |byt y=>
  let⟨t,rfl⟩:=rx;obtain⟨hy,e'⟩:y.size<=sizeLine/\k=((y.size:Int) != 0):=e;subst e';exact PySem.W.truthy_bytes (by lia) ⟨H,I.tok _,q⟩
 |ref p=>
  cases rx
  have e':(∃xs,SqL X.K H p xs/\k=!xs.isEmpty) \/ (∃xs,SqT X.K H p xs/\k=!xs.isEmpty) \/ ∃kvs,H p=AA (.dK kvs)/\k=!kvs.isEmpty:=e;rcases e' with⟨xs,hx,e'⟩|⟨xs,hx,e'⟩|⟨kvs,hx,e'⟩
  .subst e';let⟨its,r,pl,hz⟩:=I.list hx;have hlen:=r.length;exact wpAny_truthy_list pl.isList (by erw[AZ];lia) ⟨H,I.tok _,by rw[zdm r];exact q⟩
  .subst e';let⟨its,r,pl,hz⟩:=I.tuple hx;have hlen:=r.length;exact truthy_tuple pl (by erw[AZ];lia) ⟨H,I.tok _,by rw[zdm r];exact q⟩
  .subst e';obtain⟨hz,hS,vs,r,m⟩:kvs.length<=sizeLine/\(p==sysModules)=AD/\∃vs,KV kvs vs/\s.heap.DictOf (yL X.prog X.w) p vs:=I.hok p _ hx;have hlen:kvs.length=vs.length:=EH r;exact wpAny_truthy_dict hS m (by lia) ⟨H,I.tok _,by rw[zf2 r];exact q⟩
 |_=>exact(show False from e).elim
theorem ziW(ha:PE X a ta)(he:∀whole,isTrue a X.env whole=(do let v <-whole;standAt a.pos;holding [v] (truthy v))):
  PT X a (λσ H Q=>ta σ H λx H'=>∃k,ydQ X.K x H' k/\Q k H'):=by
 intro pins s σ H Q I h;exact isTrue_plain (thn (ha pins s σ H _ I h) λv s1 ⟨x,H1,I1,r1,q1⟩=>zmb pins s1 σ H1 x v Q I1 r1 q1) (he _)
theorem zf4:OpR X (binaryOp .Add) (λx y H Q=>∃i j,x=.str i/\y=.str j/\i.length+j.length<=sizeLine/\Q (.str (i++j)) H):=by
 intro pins s σ H x y v u Q I rx ry h;let⟨i,j,rfl,rfl,hz,q⟩:=h;let⟨t,rfl⟩:=rx;let⟨t',rfl⟩:=ry;exact add_str (λt' tk=>⟨.str (i++j),H,I.tok _,⟨_,rfl⟩,q⟩) hz
theorem vals1{x:V}{us:List AF}(r:Vals [x] us):∃u,us=[u]/\RelV x u:=by
 cases r with
 |cons r1 r2=>cases r2;exact⟨_,rfl,r1⟩
theorem vals2{x y:V}{us:List AF}(r:Vals [x,y] us):∃u w',us=[u,w']/\RelV x u/\RelV y w':=by
 cases r with
 |cons r1 r2=>
  cases r2 with
  |cons r3 r4=>cases r4;exact⟨_,_,rfl,r1,r3⟩
theorem zi2:yab X (.builtin "abs") (λxs H Q=>∃i,xs=[.int i]/\Q (.int (if i<0 then -i else i)) H):=by
 intro pins s σ H xs us Q I r h;let⟨i,rfl,q⟩:=h;let⟨u,rfl,t,rfl⟩:=vals1 r;exact call_abs_int λu tk=>⟨.int (if i<0 then -i else i),H,I.tok _,⟨_,rfl⟩,q⟩
theorem zhr(hc:X.calm=AB):yab X (.builtin "max") (λxs H Q=>∃i j,xs=[.int i,.int j]/\Q (.int (if j > i then j else i)) H):=by
 intro pins s σ H xs us Q I r h;let⟨i,j,rfl,q⟩:=h;let⟨u,w',rfl,⟨t,rfl⟩,⟨t',rfl⟩⟩:=vals2 r;refine max_two_ints (I.ok.hd hc) λh' tk k=>⟨_,H,I.kept k,?_,q⟩
 by_cases hj:j > i
 .rw[if_pos hj,if_pos hj];exact⟨_,rfl⟩
 .rw[if_neg hj,if_neg hj];exact⟨_,rfl⟩
theorem zeL:yab X (.type "int") (λxs H Q=>(∃i,xs=[.int i]/\Q (.int i) H) \/ ∃k,xs=[.bl k]/\Q (.int (if k then 1 else 0)) H):=by
 intro pins s σ H xs us Q I r h;rcases h with⟨i,rfl,q⟩|⟨k,rfl,q⟩
 .let⟨u,rfl,t,rfl⟩:=vals1 r;exact call_int_int ⟨.int i,H,I,⟨_,rfl⟩,q⟩
 .let⟨u,rfl,r1⟩:=vals1 r
  cases r1
  exact call_int_bool ⟨.int (if k then 1 else 0),H,I.tok _,⟨_,rfl⟩,q⟩
end
structure ycb(h:Ay)(x dx C:AI)(mA:AQ->Option AF):Prop where
 obj:h.get? x=AA (Bp C dx)
 ns:h.Ns1 dx mA
 ne:dx≠x
theorem zgt{h:Ay}{dx:AI}{mA:AQ->Option AF}(n:h.Ns1 dx mA):∃od,h.get? dx=AA od/\∀name,Dj name od=AA (mA name):=by
 let⟨o,es,ep,ho,hd,hk,_,hm⟩:=n;refine⟨o,ho,λname=>?_⟩;have e:=hm name;unfold nsFind findBy at e;rw[<-Array.find?_toList]at e;unfold Dj;rw[hd];dsimp only;split
 .rename_i y q;rw[q]at e;exact congrArg AA e
 .rename_i q;rw[q]at e;have a:es.toList.any (·.refKey)=false:=by
   rw[List.any_eq_false];intro y hy;let⟨z,t,hkey⟩:=hk y (Array.mem_toList_iff.mp hy);simp[DictEntry.refKey,hkey]
  have a':¬es.toList.any (·.refKey)=true:=by rw[a];exact Av
  rw[if_neg a'];exact congrArg AA e
theorem ycb.look{h:Ay}{x dx C:AI}{mA:AQ->Option AF}(I:ycb h x dx C mA):∃od,PySem.W.InstAt h x (Bp C dx) C (AA od)/\∀name,Dj name od=AA (mA name):=
 let ⟨od,ho,hl⟩:=zgt I.ns
 ⟨od,⟨I.obj,rfl,rfl,ho⟩,hl⟩
section
variable {prog:A7}{w:Ag}{A:Am}{E:AF->AJ->Prop}{s:AJ}{K:AE}{x dx C f:AI}{mA:AQ->Option AF}{name:AQ}{v:AF}
theorem zkR{expr:Bool}{Q:AF->AJ->Prop}(X:K.In s.heap)(I:ycb s.heap x dx C mA)(hg:Ch K C name=AB)(hh:DA K C=AB)
  (ha:As K (.ref C) name=AA AC) (hv:mA name=AA v) (hv':Fw v=AB) (h:Q v {s with toks:=s.toks+1}):
  A3 (model prog w) A (getAttr (.ref x) name expr) Q E s:=by
 let⟨od,J,hl⟩:=I.look;exact PySem.W.get_value X J (D6 hg).1 (PySem.W.findObj_own hh ha rfl (by rw[hl,hv])) hv' h
theorem zi3{pl:Gd Bool}{Q:AF×List AF->AJ->Prop}(X:K.In s.heap)(I:ycb s.heap x dx C mA)(hg:Ch K C name=AB)
  (hf:As K (.ref C) name=AA (AA (.ref f))) (ht:Ci K (.ref f)=AB) (hv:mA name=AC) (h:Q (.ref f,[.ref x]) s):
  A3 (model prog w) A (getMethod (.ref x) name pl) Q E s:=by
 let⟨od,J,hl⟩:=I.look;exact PySem.W.method_fn X J (D6 hg).1 (D6 hg).2 hf (beq_iff_eq.mp ht) (by show (Dj name od).map (·.isSome)=AA AD;rw[hl,hv];rfl) h
theorem zkE{ns:List AQ}{Q:Unit->AJ->Prop}(X:K.In s.heap)(I:ycb s.heap x dx C mA)
  (hs:As K (.ref C) "__setattr__"=AA (AA (.builtin "object.__setattr__"))) (hp:EA K C=AB) (ht:Ef K C name=AA AC) (hh:DA K C=AB)
  (hw:F4 mA ns) (hsz:ns.length<=sizeLine)
  (h:∀h',ycb h' x dx C (λy=>if y=name then AA v else mA y)->C1 dx s.heap h'->Q () {s with heap:=h',toks:=s.toks+2}):
  A3 (model prog w) A (setAttr (.ref x) name v) Q E s:=by
 let⟨od,J,hl⟩:=I.look;refine PySem.W.set_plain X J hs (PySem.W.osa_open (s:={s with toks:=s.toks+1}) (r:=AC) X J hp ht λb=>?_);let⟨cd,hc,hd'⟩:=PySem.W.any_some hh;have hx:s.heap.get? x=AA ⟨.ref C,AA dx,.plain,#[]⟩:=I.obj;refine AH (AV (AH (AH (wpAny_loadPart hx (AH (HI (s:={s with toks:=s.toks+1}) (PySem.W.looks_clsIn X hc) ?_))))));rw[hd'];refine AV (a:=AA dx) (AH (AV (AH ?_)));refine wpAny_nsSet1 (s:={s with toks:=s.toks+1}) I.ns λh' hn2 hs2=>?_;let⟨oD,esD,epD,hoD,hdD,hcD⟩:=hn2.count (HN name v hw);refine AH (wpAny_lookBehind hoD (by rw[hdD];exact pastItsLine_dict (BQ hcD (by rw[AT];lia))) ?_);exact AV (h _ ⟨(hs2.2 _ (BI I.ne)).trans I.obj,hn2,I.ne⟩ hs2)
theorem zi8{R:G2->AJ->Prop}{vs:List AF}{kw:List (AQ×AF)}(X:K.In s.heap)(hm:DZ K C=AB)
  (hi:As K (.ref C) "__init__"=AA (AA (.ref f))) (hf:PySem.W.typeIn K (.ref f)=AA (.type "function"))
  (h:codeAny (model prog w) (A.under (.builtin "type.__call__" ⟨.ref C::vs,kw⟩)) (.call (.ref f) ⟨.ref (s.heap.objs.size+1)::vs,kw⟩) (PySem.W.InitBack (s.heap.objs.size+1) R)
   {s with heap:=(s.heap.push B0).push (Bp C s.heap.objs.size)}):
  codeAny (model prog w) A (.call (.ref C) ⟨vs,kw⟩) R s:=by
 let⟨hh,g,d,t,os⟩:=s;exact PySem.W.make_core (PySem.W.makes_of X hm) (PySem.W.looks_findIn X hi) (λself=>PySem.W.bind_fn X self hf) (.inl rfl) h
end
def yaR(f:AQ)(v:V):List (AQ×V)->List (AQ×V)
 |[]=>[(f,v)]
 |(g,x)::r=>if g=f then(g,v)::r else(g,x)::yaR f v r
theorem zcA(f g:AQ)(v:V):∀fs:List (AQ×V),(yaR f v fs).lookup g=if g=f then AA v else fs.lookup g
 |[]=>by
  show Bw g [(f,v)]=_
  by_cases h:g=f
  .have hb:(g==f)=true:=beq_iff_eq.mpr h;erw[Bw,hb,if_pos h]
  .have hb:(g==f)=false:=beq_eq_false_iff_ne.mpr h;erw[Bw,hb,if_neg h]
 |(k,x)::r=>by
  have ih:=zcA f g v r;rw[show yaR f v ((k,x)::r)=(if k=f then(k,v)::r else(k,x)::yaR f v r)from rfl]
  by_cases hk:k=f
  .rw[if_pos hk]
   by_cases h:g=k
   .have hb:(g==k)=true:=beq_iff_eq.mpr h;erw[Bw,hb,if_pos (h.trans hk)]
   .have hb:(g==k)=false:=beq_eq_false_iff_ne.mpr h;erw[Bw,hb,if_neg (λe:g=f=>h (e.trans hk.symm))]
  .rw[if_neg hk]
   by_cases h:g=k
   .have hb:(g==k)=true:=beq_iff_eq.mpr h;erw[Bw,hb,if_neg (λe:g=f=>hk (h.symm.trans e))]
   .have hb:(g==k)=false:=beq_eq_false_iff_ne.mpr h;erw[Bw,hb];exact ih
theorem zcT(f:AQ)(v:V):∀fs:List (AQ×V),f∈(yaR f v fs).map (·.1)/\∀g,g∈fs.map (·.1)->g∈(yaR f v fs).map (·.1)
 |[]=>⟨by simp[yaR],λg h=>by simp at h⟩
 |(k,x)::r=>by
  let⟨i1,i2⟩:=zcT f v r;rw[show yaR f v ((k,x)::r)=(if k=f then(k,v)::r else(k,x)::yaR f v r)from rfl]
  by_cases hk:k=f
  .rw[if_pos hk];subst hk;exact⟨by simp,λg h=>by simpa using h⟩
  .rw[if_neg hk];refine⟨?_,λg h=>?_⟩
   .rw[AO];exact AX _ i1
   .rw[AO]at h ⊢;rcases Ad.mp h with e|e
    .exact Ad.mpr (.inl e)
    .exact AX _ (i2 g e)
theorem zcV(f:AQ)(v:V):∀fs:List (AQ×V),(yaR f v fs).length<=fs.length+1
 |[]=>by simp[yaR]
 |(k,x)::r=>by
  have ih:=zcV f v r;rw[show yaR f v ((k,x)::r)=(if k=f then(k,v)::r else(k,x)::yaR f v r)from rfl]
  by_cases hk:k=f
  .rw[if_pos hk,AT,AT];lia
  .rw[if_neg hk,AT,AT];lia
theorem ybb.some_of{v:V}{o:Option AF}(r:ybb (AA v) o):∃u,o=AA u/\RelV v u:=by
 cases o with
 |none=>exact(show False from r).elim
 |some u=>exact⟨u,rfl,r⟩
theorem ybb.none_of{o:Option AF}(r:ybb AC o):o=none:=by
 cases o with
 |none=>rfl
 |some u=>exact(show False from r).elim
theorem zhc{v:V}{u:AF}(r:RelV v u):Fw u=true:=by
 cases v with
 |non=>cases (show u=Bz from r);rfl
 |bl b=>cases (show u=Da b from r);rfl
 |int i=>let⟨t,e⟩:=(show ∃t,u=EK i t from r);cases e;rfl
 |str x=>let⟨t,e⟩:=(show ∃t,u=Ft x t from r);cases e;rfl
 |byt b=>let⟨t,e⟩:=(show ∃t,u=HA b t from r);cases e;rfl
 |flt b=>let⟨t,e⟩:=(show ∃t,u=HB b t from r);cases e;rfl
 |ref a=>cases (show u=Af a from r);rfl
 |ty n=>cases (show u=FX n from r);rfl
section
variable {P:A7}{w:Ag}{H H':Hp}{h h':Ay}{a C dx:AI}{fs fs':List (AQ×V)}
theorem ze1(hok:HOk P w H h)(e:H a=AA (.ins C dx fs)):∃mA,ycb h a dx C mA/\(∀f,ybb (fs.lookup f) (mA f))/\F4 mA (fs.map (·.1))/\fs.length<=1000/\H dx=AA (.own a):=by
 let⟨d,z,ne,ob,mA,n,r,q⟩:=(show yP P w H h a (.ins C dx fs)from hok a _ e);exact⟨mA,⟨ob,n,ne⟩,r,q,z,d⟩
end
structure Cls(K:AE)(C:AI):Prop where
 pg:Ch K C Fx=AB
 hd:DA K C=AB
 po:EA K C=AB
 sa:As K (.ref C) "__setattr__"=AA (AA (.builtin "object.__setattr__"))
theorem Cls.get{K:AE}{C:AI}(c:Cls K C)(f:AQ):Ch K C f=true:=c.pg
def yam(K:AE)(C:AI)(f:AQ):Prop:=As K (.ref C) f=AA AC
theorem yam.taker{K:AE}{C:AI}{f:AQ}(n:yam K C f):Ef K C f=AA none:=by
 unfold Ef;rw[show As K (.ref C) f=AA AC from n];rfl
structure Con(K:AE)(C:AI)(f:AQ)(v:V)(u:AF):Prop where
 at_:As K (.ref C) f=AA (AA u)
 rel:RelV v u
 get:PySem.W.specialIn K u "__get__"=AA AC
 cp:PySem.W.copiedNames.contains f=AD
structure Meth(K:AE)(C:AI)(m:AQ)(f:AI):Prop where
 at_:As K (.ref C) m=AA (AA (.ref f))
 fn:Ci K (.ref f)=AB
 kp:An K (.ref f)=AB
section
variable {X:Cx}{pins:List (AI×Bs)}{σ:St}{H:Hp}{s:AJ}{a C dx:AI}{fs:List (AQ×V)}{f:AQ}{v:V}{A:Am}{E:AF->AJ->Prop}
theorem zdl{b:Bool}{Q:AF->AJ->Prop}(I:Inv X pins σ H s)(e:H a=AA (.ins C dx fs))(c:Cls X.K C)(n:yam X.K C f)(l:fs.lookup f=AA v)
  (h:∀u s',Inv X pins σ H s'->RelV v u->Q u s'):A3 (model X.prog X.w) A (getAttr (.ref a) f b) Q E s:=by
 let⟨mA,O,r,_,_,_⟩:=ze1 I.hok e;let⟨u,hu,ru⟩:=ybb.some_of (v:=v) (o:=mA f) (by rw[<-l];exact r f);exact zkR I.kIn O (c.get f) c.hd n hu (zhc ru) (h u _ (I.tok _) ru)
theorem zc9{m:AQ}{g:AI}{pl:Gd Bool}{Q:AF×List AF->AJ->Prop}(I:Inv X pins σ H s)(e:H a=AA (.ins C dx fs))(c:Cls X.K C)(k:Meth X.K C m g)(l:fs.lookup m=AC)
  (h:Q (.ref g,[.ref a]) s):A3 (model X.prog X.w) A (getMethod (.ref a) m pl) Q E s:=by
 let⟨mA,O,r,_,_,_⟩:=ze1 I.hok e;have hn:mA m=none:=ybb.none_of (by rw[<-l];exact r m);exact zi3 I.kIn O (c.get m) k.at_ k.fn hn h
theorem zdf{y:V}{u:AF}{Q:Unit->AJ->Prop}(I:Inv X pins σ H s)(e:H a=AA (.ins C dx fs))(c:Cls X.K C)(n:yam X.K C f)(hl:fs.length<1000)(ry:RelV y u)
  (h:∀s',Inv X pins σ (upd H a (.ins C dx (yaR f y fs))) s'->Q () s'):A3 (model X.prog X.w) A (setAttr (.ref a) f u) Q E s:=by
 let⟨mA,O,r,wi,_,ho⟩:=ze1 I.hok e;have hz:(fs.map (·.1)).length<=sizeLine:=by rw[BK,DX];lia
 refine zkE I.kIn O c.sa c.po n.taker c.hd wi hz λh' O' sb=>h _ ?_;have hd:∃o,h'.get? dx=AA o:=let ⟨o,_,_,e',_⟩:=O'.ns;⟨o,e'⟩
 refine I.write (x:=a) (e:=dx) (by rw[e];exact C2) (.inr ho) (λb q hb z=>(sb.2 b hb).trans z) hd ?_;refine⟨by rw[zh O.ne];exact ho,?_,O.ne,O'.obj,_,O'.ns,λg=>?_,λg hg=>?_⟩
 .have:=zcV f y fs;lia
 .show ybb ((yaR f y fs).lookup g) (if g=f then AA u else mA g);rw[zcA]
  by_cases q:g=f
  .rw[if_pos q,if_pos q];exact ry
  .rw[if_neg q,if_neg q];exact r g
 .by_cases q:g=f
  .rw[q];exact(zcT f y fs).1
  .refine(zcT f y fs).2 g (wi g λz=>hg ?_);show (if g=f then AA u else mA g)=AC;rw[if_neg q];exact z
theorem Inv.made(I:Inv X pins σ H s):Inv X pins σ (upd (upd H s.heap.objs.size (.own (s.heap.objs.size+1))) (s.heap.objs.size+1) (.ins C s.heap.objs.size []))
  {s with heap:=(s.heap.push B0).push (Bp C s.heap.objs.size)}:=by
 have e1:(s.heap.push B0).get? s.heap.objs.size=AA B0:=A0 s.heap rfl;have e2:((s.heap.push B0).push (Bp C s.heap.objs.size)).get? (s.heap.objs.size+1)=AA (Bp C s.heap.objs.size):=by
  have:=A0 (s.heap.push B0) (o:=Bp C s.heap.objs.size) rfl
  rwa [Bl]at this
 have e3:(s.heap.push B0).Ns s.heap.objs.size (λ_=>AC):=⟨B0,#[],_,e1,rfl,(λe he=>absurd he (by simp)),λ_=>rfl⟩;have I1:=I.laid (a:=s.heap.objs.size) (o:=.own (s.heap.objs.size+1)) (h':=s.heap.push B0) (t':=s.toks) (λb u q=>AN _ q) (AU _) ⟨_,e1⟩;refine I1.laid (a:=s.heap.objs.size+1) (o:=.ins C s.heap.objs.size []) (t':=s.toks) (λb u q=>AN _ q) (Gk (Bl _ _)) ?_;have ne:s.heap.objs.size≠s.heap.objs.size+1:=Ah (Fy _);refine⟨by rw[zh ne,zp],Cy _,ne,e2,λ_=>AC,(Heap.Ns1.of_empty e3).at λo q=>AN _ q,λ_=>C2,λy hy=>absurd rfl hy⟩
theorem zkF{prog:A7}{w:Ag}{env:Env}{e:AS}{f:AQ}{pos:CH}{s:AJ}{Q:AF->AJ->Prop}(hb:attributeBase e f env (eval e env)=eval e env)
  (h:A3 (model prog w) A (eval e env) (λo s₁=>A3 (model prog w) A (getAttr o f AB) Q E s₁) E s):A3 (model prog w) A (eval (.Attribute e f pos) env) Q E s:=
 Attribute_any_ h (by rw[arm_eval_Attribute,hb])
end
def ygD(K:AE)(ta:TE)(f:AQ):TE:=λσ H Q=>ta σ H λx H1=>∃a C dx fs v,x=.ref a/\H1 a=AA (.ins C dx fs)/\Cls K C/\yam K C f/\fs.lookup f=AA v/\Q v H1
def yf7(K:AE)(ta tv:TE)(f:AQ):TS:=λD σ H=>tv σ H λy H1=>ta σ H1 λx H2=>∃a C dx fs,x=.ref a/\H2 a=AA (.ins C dx fs)/\Cls K C/\yam K C f/\fs.length<1000 /\
 D.nx σ (upd H2 a (.ins C dx (yaR f y fs)))
def yeF(X:Cx)(op:DW)(rd:V->V->Hp->VK->Prop):Prop:=
 ∀(pins:List (AI×Bs)) (s:AJ) (σ:St) (H:Hp) (x y:V) (u v:AF) (Q:VK),Inv X pins σ H s->RelV x u->RelV y v->rd x y H Q->A3 (model X.prog X.w) X.A (inplaceOp op u v) (EP X pins σ Q) X.xe s
def yck(K:AE)(ta tv:TE)(rd:V->V->Hp->VK->Prop)(f:AQ):TS:=λD σ H=>ta σ H λx H1=>∃a C dx fs v,x=.ref a/\H1 a=AA (.ins C dx fs)/\Cls K C/\yam K C f/\fs.lookup f=AA v /\
 tv σ H1 λy H2=>rd v y H2 λz H3=>∃dx' fs',H3 a=AA (.ins C dx' fs')/\fs'.length<1000/\D.nx σ (upd H3 a (.ins C dx' (yaR f z fs')))
section
variable {X:Cx}{o e value:AS}{f:AQ}{pos pos' tpos:CH}{ta tv:TE}
theorem zm3(he:PE X e ta)(hb:attributeBase e f X.env (eval e X.env)=eval e X.env):PE X (.Attribute e f pos) (ygD X.K ta f):=by
 intro pins s σ H Q I h;refine zkF hb (thn (he pins s σ H _ I h) λu s1 kq=>?_);let⟨x,H1,I1,rx,a,C,dx,fs,v,ex,ea,c,n,l,q⟩:=kq;subst ex;obtain rfl:u=Af a:=rx;exact zdl I1 ea c n l λu' s2 I2 ru=>⟨v,H1,I2,ru,q⟩
theorem zm0(ha:PE X o ta)(hv:PE X value tv)(hs:swapsWith value (AA (.Attribute o f pos')) pos.line X.env=pure AD):PS X (.Assign [.Attribute o f pos'] value pos) (yf7 X.K ta tv f):=by
 intro pins s σ H D I h;refine plainObj_wpAny_Assign_Attribute (thn (hv pins s σ H _ I h) λu s1 kq=>?_) hs;let⟨y,H1,I1,ry,q⟩:=kq;refine thn (ha pins s1 σ H1 _ I1 q) λov s2 kq=>?_;let⟨x,H2,I2,rx,a,C,dx,fs,ex,ea,c,n,l,q2⟩:=kq;subst ex;obtain rfl:ov=Af a:=rx;exact zdf I2 ea c n l ry λs3 I3=>⟨σ,_,I3,q2⟩
theorem zhU{op:DW}{rd:V->V->Hp->VK->Prop}(ha:PE X o ta)(hv:PE X value tv)(hop:yeF X op rd):PS X (.AugAssign (.Attribute o f tpos) op value pos) (yck X.K ta tv rd f):=by
 intro pins s σ H D I h;refine wpAny_AugAssign_AttributeAny (thn (ha pins s σ H _ I h) λov s1 kq=>?_);let⟨x,H1,I1,rx,a,C,dx,fs,v,ex,ea,c,n,l,q⟩:=kq;subst ex;obtain rfl:ov=Af a:=rx;refine zdl I1 ea c n l λu s2 I2 ru=>thn (hv pins s2 σ H1 _ I2 q) λw3 s3 kq=>?_;let⟨y,H2,I3,ry,q3⟩:=kq;refine thn (hop pins s3 σ H2 v y u w3 _ I3 ru ry q3) λw4 s4 kq=>?_;let⟨z,H3,I4,rz,dx',fs',ea',l',q4⟩:=kq;exact zdf I4 ea' c n l' rz λs5 I5=>⟨σ,_,I5,q4⟩
def yfk:V->V->Hp->VK->Prop:=λx y H Q=>∃i j,x=.int i/\y=.int j/\Q (.int (i+j)) H
theorem zmU:yeF X .Add yfk:=by
 rintro pins s σ H x y u v Q I rx ry ⟨i,j,rfl,rfl,q⟩
 let⟨t,rfl⟩:=(show ∃t,u=EK i t from rx);let⟨t',rfl⟩:=(show ∃t',v=EK j t' from ry);exact GW ⟨.int (i+j),H,I.tok _,⟨_,rfl⟩,q⟩
end
section
variable {X:Cx}{pins:List (AI×Bs)}{σ:St}{H:Hp}{s:AJ}{A:Am}{E:AF->AJ->Prop}{Q:AF->AJ->Prop}{c:AF}{b:Bool}
end
structure yan(k:Nat)(A:Am):Prop where
 hd:A.handled=AC
 dp:A.depth+3*k+5<recursionLimit
 un:A.units+16*k+200<cLine
theorem yan.mono{j k:Nat}{A:Am}(r:yan k A)(h:j<=k):yan j A:=⟨r.hd,by have:=r.dp;lia,by have:=r.un;lia⟩
theorem yan.deeper{k:Nat}{A:Am}(r:yan (k+1) A)(env:Env):yan k (A.deeper env):=
 ⟨r.hd,by have:=r.dp;show A.depth+1+3*k+5<_;lia,by have:=r.un;show A.units+3+16*k+200<_;lia⟩
theorem zf6{A:Am}{C:AI}{us:List AF}{kw:List (AQ×AF)}:(A.under (.builtin "type.__call__" ⟨.ref C::us,kw⟩)).depth=A.depth+1:=by
 first|rfl|simp[F7,Code.weight,Code.isCreation,Code.isGuard,Code.isCaller,HD,F8,guardIds]
theorem zfX{A:Am}{C:AI}{us:List AF}{kw:List (AQ×AF)}:(A.under (.builtin "type.__call__" ⟨.ref C::us,kw⟩)).units=A.units+1:=by
 first|rfl|simp[F7,Code.cUnits,HD,F8]
theorem yan.make{k:Nat}{A:Am}(r:yan (k+1) A)(C:AI)(us:List AF)(kw:List (AQ×AF)):yan k (A.under (.builtin "type.__call__" ⟨.ref C::us,kw⟩)):=
 ⟨r.hd,by have:=r.dp;rw[zf6];lia,by have:=r.un;rw[zfX];lia⟩
theorem yan.depth{k:Nat}{A:Am}(r:yan k A):A.depth<recursionLimit:=by have:=r.dp;lia
theorem yan.units{k:Nat}{A:Am}(r:yan k A):A.units+64<cLine:=by have:=r.un;lia
def ycQ:TA:=λ_ H Q=>Q [] H
def ycM(ta:TE)(tr:TA):TA:=λσ H Q=>ta σ H λx H1=>tr σ H1 λxs H2=>Q (x::xs) H2
section
variable {X:Cx}{e:AS}{es:List AS}{te:TE}{t:TA}{pos:CH}
theorem yba:PA X [] ycQ:=λ_ _ _ _ H Q I h=>F9 ⟨[],H,I,.nil,h⟩
theorem zbd(ha:PE X e te)(hr:PA X es t)(hs:starEach (e::es) X.env=(AD,eval e X.env)::starEach es X.env:=by rfl):PA X (e::es) (ycM te t):=by
 intro pos pins s σ H Q I h;rw[hs];show A3 _ _ (spliced ((AD,eval e X.env)::backTo pos (starEach es X.env))) _ _ s;refine Dl (thn (ha pins s σ H _ I h) λu s1 kq=>?_);let⟨x,H1,I1,r1,q1⟩:=kq;exact thn (hr pos pins s1 σ H1 _ I1 q1) λus s2 ⟨xs,H2,I2,r2,q2⟩=>⟨x::xs,H2,I2,.cons r1 r2,q2⟩
def ygh(t:TA):TE:=λσ H Q=>t σ H λxs H1=>xs.length<=sizeLine/\∀p,H1 p=AC->Q (.ref p) (upd H1 p (.tup xs))
def yfC(t:TA):TE:=λσ H Q=>t σ H λxs H1=>xs.length<=sizeLine/\∀p,H1 p=AC->Q (.ref p) (upd H1 p (.lst xs))
theorem zll{x1}(h:PA X es t):PE X (.Tuple es x1 pos) (ygh t):=by
 intro pins s σ H Q I hq;refine wpAny_Tuple_spliced (thn (h pos pins s σ H _ I hq) λus s1 kq=>?_);let⟨xs,H1,I1,r,z,q⟩:=kq;refine ⟨by rw[<-r.length];exact z,?_⟩;have hf:H1 s1.heap.objs.size=none:=I1.hok.fresh (AU _);refine⟨.ref s1.heap.objs.size,upd H1 s1.heap.objs.size (.tup xs),I1.laid (t':=s1.toks) (λb u e=>AN _ e) (AU _) ?_,rfl,q _ hf⟩;exact⟨z,us,r,⟨_,A0 _ rfl,rfl,_,rfl⟩⟩
theorem zjE(h:PA X es t):PE X (.List es pos) (yfC t):=by
 intro pins s σ H Q I hq;refine wpAny_List_spliced (thn (h pos pins s σ H _ I hq) λus s1 kq=>?_);let⟨xs,H1,I1,r,z,q⟩:=kq;refine ⟨by rw[<-r.length];exact z,?_⟩;have hf:H1 s1.heap.objs.size=none:=I1.hok.fresh (AU _);refine⟨.ref s1.heap.objs.size,upd H1 s1.heap.objs.size (.lst xs),I1.laid (t':=s1.toks) (λb u e=>AN _ e) (AU _) ?_,rfl,q _ hf⟩;exact⟨z,us,0,r,A0 _ rfl⟩
end
abbrev Sp:=List V->Hp->VK->XK->Prop
abbrev CXT:=List Env->Hp->AJ->XK->AF->AJ->Prop
structure ycu(P:A7)(w:Ag)(K:AE)(mg:AQ->Option AF)(base:Ay)(A:Am)(outer:List Env)(s:AJ)(H:Hp):Prop where
 frames:A.frames=AA outer
 mod:Mod K mg base
 bs:∀b o,base.get? b=AA o->s.heap.get? b=AA o/\H b=AC
 bsz:base.objs.size<=s.heap.objs.size
 funs:s.heap.FunFrames base outer
 frf:∀b∈frs outer,H b=AC
 hok:HOk P w H s.heap
 bare:DR s.gens
def CE(outer:List Env)(P:A7)(w:Ag)(H:Hp)(s:AJ)(Q:VK)(u:AF)(s':AJ):Prop:=
 ∃v H',s'.os=s.os/\DR s'.gens/\Un (frs outer) [] H H' s.heap s'.heap/\HOk P w H' s'.heap/\RelV v u/\Q v H'
def CR(CX:CXT)(outer:List Env)(P:A7)(w:Ag)(H:Hp)(s:AJ)(Q:VK)(E:XK)(r:G2)(s':AJ):Prop:=
 match r with
 |.ok (.ret u)=>CE outer P w H s Q u s'
 |.ok _=>False
 |.error e=>CX outer H s E e s'
structure yaE(P:A7)(w:Ag)(K:AE)(mg:AQ->Option AF)(base:Ay)(CX:CXT)(k:Nat)(f:AI)(fd:Az)(ps:List AQ)(sp:Sp):Prop where
 len:∀vs H Q E,sp vs H Q E->vs.length=ps.length
 run:∀(A:Am) (outer:List Env) (s:AJ) (H:Hp) (args:Args) (us:List AF) (vs:List V) (Q:VK) (E:XK),yan k A->ycu P w K mg base A outer s H->Ez s fd args (ps.zip us)->Vals vs us->sp vs H Q E ->
  codeAny (model P w) A (.call (.ref f) args) (CR CX outer P w H s Q E) s
theorem yaE.imp{P:A7}{w:Ag}{K:AE}{mg:AQ->Option AF}{base:Ay}{CX:CXT}{k:Nat}{f:AI}{fd:Az}{ps:List AQ}{sp sp':Sp}(F:yaE P w K mg base CX k f fd ps sp)
  (h:∀vs H Q E,sp' vs H Q E->sp vs H Q E):yaE P w K mg base CX k f fd ps sp':=
 ⟨λvs H Q E q=>F.len vs H Q E (h _ _ _ _ q),λA outer s H args us vs Q E hr he hb hv hs=>F.run A outer s H args us vs Q E hr he hb hv (h _ _ _ _ hs)⟩
theorem ycu.make{P:A7}{w:Ag}{K:AE}{mg:AQ->Option AF}{base:Ay}{A:Am}{outer:List Env}{s:AJ}{H:Hp}(e:ycu P w K mg base A outer s H)(C:AI)(us:List AF)(kw:List (AQ×AF)):
  ycu P w K mg base (A.under (.builtin "type.__call__" ⟨.ref C::us,kw⟩)) outer s H:=⟨by first|exact e.frames|(simpa [F7,Code.envs,F8,pushEnvs] using e.frames),e.mod,e.bs,e.bsz,e.funs,e.frf,e.hok,e.bare⟩
section
variable {X:Cx}{pins:List (AI×Bs)}{σ:St}{H:Hp}{s s':AJ}
theorem Inv.env0(I:Inv X pins σ H s):ycu X.prog X.w X.K X.mg X.base X.A X.stack s H:=
 ⟨I.ok.frames,I.ok.mod,I.bs,BQ I.ok.bsz I.sz,I.stack,I.stkFree,I.hok,I.bare⟩
theorem Inv.after{Q:VK}{u:AF}(I:Inv X pins σ H s)(h:CE X.stack X.prog X.w H s Q u s'):EP X pins σ Q u s':=by
 let⟨v,H',os,bare,un,hok,r,q⟩:=h;let⟨hh,g,d,t,os'⟩:=s';obtain rfl:os'=s.os:=os;exact⟨v,H',I.call (h':=hh) (g':=g) (d':=d) (t':=t) (ch:=[]) un hok bare (λb z=>absurd z (by simp)),r,q⟩
end
def ydD(C:AI)(sp:Sp)(dvs:List V)(E:XK)(t:TA):TE:=λσ H Q=>t σ H λvs H1=>∀x dx,H1 x=AC->H1 dx=AC->dx≠x ->
 sp (.ref x::(vs++dvs)) (upd (upd H1 dx (.own x)) x (.ins C dx [])) (λv H2=>v=.non/\Q (.ref x) H2) E
def Binds(K:AE)(fd:Az)(ps:List AQ)(ds:List AF):Prop:=
 ∀(s:AJ) (us:List AF),K.In s.heap->(us++ds).length=ps.length->Ez s fd ⟨us,[]⟩ (ps.zip (us++ds))
theorem Binds.all{K:AE}{fd:Az}{ps:List AQ}(h:∀us:List AF,us.length=ps.length->bindArgs fd ⟨us,[]⟩=pure (ps.zip us)):Binds K fd ps []:=λs us _ hl=>by
 rw[CG]at hl ⊢;exact .of_eq (h us hl)
def ybo(CX:CXT)(X:Cx)(E:XK):Prop:=∀(pins:List (AI×Bs)) (σ:St) (H:Hp) (s:AJ) (e:AF) (s':AJ),Inv X pins σ H s->CX X.stack H s E e s'->X.xe e s'
section
variable {X:Cx}{CX:CXT}{k:Nat}{f C:AI}{fd:Az}{ps:List AQ}{sp:Sp}{dvs:List V}{ds:List AF}{E:XK}{x m:AQ}{p pos apos:CH}{e o:AS}{es:List AS}{ta:TE}{t:TA}
structure Mk(K:AE)(C f:AI):Prop where
 makes:DZ K C=AB
 init:As K (.ref C) "__init__"=AA (AA (.ref f))
 fn:Ci K (.ref f)=AB
 kp:An K (.ref C)=AB
theorem ziI{pins:List (AI×Bs)}{σ:St}{H:Hp}{s:AJ}{Q:VK}{us:List AF}{vs:List V}(M:Mk X.K C f)(F:yaE X.prog X.w X.K X.mg X.base CX k f fd ps sp)(hr:yan (k+1) X.A)(hb:Binds X.K fd ps ds)(hd:Vals dvs ds)
  (hx:ybo CX X E) (I:Inv X pins σ H s) (r:Vals vs us)
  (h:∀x dx,H x=AC->H dx=AC->dx≠x->sp (.ref x::(vs++dvs)) (upd (upd H dx (.own x)) x (.ins C dx [])) (λv H2=>v=.non/\Q (.ref x) H2) E):
  A3 (model X.prog X.w) X.A (call (.ref C) us) (EP X pins σ Q) X.xe s:=by
 have hq:=h (s.heap.objs.size+1) s.heap.objs.size (I.hok.fresh (Ca _)) (I.hok.fresh (AU _)) (Ah (Fy _));have I2:=Inv.made (C:=C) I;have r2:Vals (V.ref (s.heap.objs.size+1)::(vs++dvs)) (Af (s.heap.objs.size+1)::(us++ds)):=.cons rfl (r.append hd);have hl:(Af (s.heap.objs.size+1)::us++ds).length=ps.length:=by
  have e:=r2.length;rw[F.len _ _ _ _ hq]at e;exact e.symm
 refine G3 (zi8 (f:=f) I.kIn M.makes M.init (beq_iff_eq.mp M.fn) (D7 (F.run _ X.stack _ _ ⟨Af (s.heap.objs.size+1)::us,[]⟩ (Af (s.heap.objs.size+1)::(us++ds)) _ _ E (hr.make C us [])
  (I2.env0.make C us []) (hb _ (Af (s.heap.objs.size+1)::us) I2.kIn hl) r2 hq) λr s' hq'=>?_))
 cases r with
 |error e=>exact hx pins σ _ _ e s' I2 hq'
 |ok fl=>
  cases fl with
  |ret u=>
   let⟨v,H',I3,rv,ev,q3⟩:=I2.after hq';subst ev;exact⟨rv,⟨V.ref (s.heap.objs.size+1),H',I3,rfl,q3⟩⟩
  |next=>exact Bg hq'
  |brk=>exact Bg hq'
  |cont=>exact Bg hq'
theorem zk5(M:Mk X.K C f)(F:yaE X.prog X.w X.K X.mg X.base CX k f fd ps sp)(hr:yan (k+1) X.A)(hg:Gl X x)(hm:X.mg x=AA (.ref C))(hb:Binds X.K fd ps ds)(hd:Vals dvs ds)(hx:ybo CX X E)
  (ha:PA X (e::es) t) (hdb:(x==("__debug__":AQ))=false:=by decide) (he:starEach (e::es) X.env=(AD,eval e X.env)::starEach es X.env:=by rfl) (hpl:(backTo pos (starEach es X.env)).any (·.1)=false:=by rfl):
  PE X (.Call (.Name x p) (e::es) [] pos) (ydD C sp dvs E t):=by
 intro pins s σ H Q I h;refine BT (zco I hg hm ?_ hdb);refine Cw (h₀:=X.base) I.ok.mod.kin M.kp (thn (ha pos pins s σ H _ I h) λus s1 kq=>?_) he hpl;let⟨vs,H1,I1,r,q⟩:=kq;refine ⟨I1.kIn,?_⟩;exact ziI M F hr hb hd hx I1 r q
end
def PK(X:Cx)(kws:List CQ)(t:TA):Prop:=
 ∀(pos:CH) (pins:List (AI×Bs)) (s:AJ) (σ:St) (H:Hp) (Q:List V->Hp->Prop),Inv X pins σ H s->t σ H Q->A3 (model X.prog X.w) X.A (evalAll ((backToKw pos (keywordEach kws X.env)).map (·.2))) (AP X pins σ Q) X.xe s
section
variable {X:Cx}{CX:CXT}{k:Nat}{f C:AI}{fd:Az}{ps ks:List AQ}{sp:Sp}{E:XK}{x m:AQ}{p pos apos kpos:CH}{e o:AS}{es:List AS}{kws:List CQ}{te ta:TE}{t tk:TA}{nm:Option AQ}
theorem yda:PK X [] ycQ:=λ_ _ _ _ H Q I h=>wpAny_evalAll_nil ⟨[],H,I,.nil,h⟩
theorem zkY(ha:PE X e te)(hr:PK X kws t):PK X (⟨nm,e,kpos⟩ :: kws) (ycM te t):=by
 intro pos pins s σ H Q I h;show A3 _ _ (evalAll ((do let v <-eval e X.env;standAt pos;pure v)::(backToKw pos (keywordEach kws X.env)).map (·.2))) _ _ s;refine wpAny_evalAll_cons (AH (thn (ha pins s σ H _ I h) λu s1 kq=>?_));let⟨x,H1,I1,r1,q1⟩:=kq;refine AH (EI (AV ?_));exact thn (hr pos pins s1 σ H1 _ I1 q1) λus s2 ⟨xs,H2,I2,r2,q2⟩=>⟨x::xs,H2,I2,.cons r1 r2,q2⟩
structure ybr(K:AE)(fd:Az)(ps ks:List AQ)(g:List AF->List AF->List AF)(gV:List V->List V->List V):Prop where
 to:∀(s:AJ) (us ws:List AF),K.In s.heap->(g us ws).length=ps.length->Ez s fd ⟨us,ks.zip ws⟩ (ps.zip (g us ws))
 rel:∀{vs:List V} {us:List AF} {zs:List V} {ws:List AF},Vals vs us->Vals zs ws->Vals (gV vs zs) (g us ws)
variable {g:List AF->List AF->List AF}{gV:List V->List V->List V}
end
structure ya4(N P:List AQ)(sc:Bc):Prop where
 kind:sc.kind=.function
 co:sc.isCoroutine=AD
 gen:sc.isGenerator=AD
 nd:N.Nodup
 pre:N.take P.length=P
 par:∀x∈P,sc.names.lookup x=AA .local \/ sc.names.lookup x=AA .cell
 nofree:∀y∈sc.names,y.2 ≠ .free
theorem zel{kindOf:AQ->Option DB}{x:AQ}:∀{binds:List (AQ×AF)} {m:AQ->Option AF},(∀v,(x,v)∉binds)->bindL kindOf binds m x=m x
 |[],_,_=>rfl
 |(n,v)::r,m,h=>by
  unfold bindL;rw[zel λw hw=>h w (AX _ hw)];split
  .have:x≠n:=by rintro rfl;exact h v BA
   simp[this]
  .rfl
theorem zeR{kindOf:AQ->Option DB}{x:AQ}:∀{binds:List (AQ×AF)} {m:AQ->Option AF},(∀v,(x,v)∉binds)->bindC kindOf binds m x=m x
 |[],_,_=>rfl
 |(n,v)::r,m,h=>by
  unfold bindC;rw[zeR λw hw=>h w (AX _ hw)];split
  .rfl
  .have:x≠n:=by rintro rfl;exact h v BA
   simp[this]
theorem zeg{kindOf:AQ->Option DB}{x:AQ}{v:AF}:∀{P:List AQ} {vs:List AF} {i:Nat} {m:AQ->Option AF},P.Nodup->P[i]?=AA x->vs[i]?=AA v->kindOf x=AA .local ->
  bindL kindOf (P.zip vs) m x=AA v
 |[],_,_,_,_,h,_,_=>by simp at h
 |_::_,[],_,_,_,_,h,_=>by simp at h
 |p::P,w::vs,0,m,nd,h1,h2,hk=>by
  simp at h1 h2;subst h1;subst h2;show bindL kindOf ((p,w)::P.zip vs) m p=_;unfold bindL;rw[zel λv hv=>(D0.mp nd).1 (Eg hv).1,if_pos hk];simp
 |p::P,w::vs,i+1,m,nd,h1,h2,hk=>by
  show bindL kindOf ((p,w)::P.zip vs) m x=_;unfold bindL;exact zeg (i:=i) (D0.mp nd).2 (by simpa using h1) (by simpa using h2) hk
theorem zeS{kindOf:AQ->Option DB}{x:AQ}{v:AF}:∀{P:List AQ} {vs:List AF} {i:Nat} {m:AQ->Option AF},P.Nodup->P[i]?=AA x->vs[i]?=AA v->kindOf x≠AA .local ->
  bindC kindOf (P.zip vs) m x=AA v
 |[],_,_,_,_,h,_,_=>by simp at h
 |_::_,[],_,_,_,_,h,_=>by simp at h
 |p::P,w::vs,0,m,nd,h1,h2,hk=>by
  simp at h1 h2;subst h1;subst h2;show bindC kindOf ((p,w)::P.zip vs) m p=_;unfold bindC;rw[zeR λv hv=>(D0.mp nd).1 (Eg hv).1,if_neg hk];simp
 |p::P,w::vs,i+1,m,nd,h1,h2,hk=>by
  show bindC kindOf ((p,w)::P.zip vs) m x=_;unfold bindC;exact zeS (i:=i) (D0.mp nd).2 (by simpa using h1) (by simpa using h2) hk
def start(N:List AQ)(vs:List V):St:=vs.map AA++Ac (N.length-vs.length) AC
def yaM(CX:CXT)(P:A7)(w:Ag)(K:AE)(mg:AQ->Option AF)(base:Ay)(N:List AQ)(qual:AQ)(scope:Bc)(f:AI)(cd:AF)(A:Am)(outer:List Env)(s:AJ)(H:Hp)(E:XK):Cx where
 prog:=P
 w:=w
 K:=K
 mg:=mg
 base:=base
 A:=A.deeper (envOfC qual scope s.heap.objs.size f cd)
 N:=N
 s₀:=s
 H₀:=H
 env:=envOfC qual scope s.heap.objs.size f cd
 outer:=outer
 stack:=envOfC qual scope s.heap.objs.size f cd::outer
 ex:=[]
 calm:=AB
 fn:=λ_=>AB
 pn:=[]
 xe:=λe s'=>A3 (model P w) (A.deeper (envOfC qual scope s.heap.objs.size f cd)) («leaving» (envOfC qual scope s.heap.objs.size f cd) e) (λ_ s''=>CX outer H s E e s'') (λe' s''=>CX outer H s E e' s'') s'
theorem zfR{sc:Bc}{n:Nat}{x:AQ}(h:sc.names.lookup x=AA .cell):∃c,(cellsFrom n sc.names []).lookup x=AA c:=by
 have q:=EX sc.names n [] (.inl h);exact Aq.mp q
theorem zhb{CX:CXT}{P:A7}{w:Ag}{K:AE}{mg:AQ->Option AF}{base:Ay}{N ps:List AQ}{qual:AQ}{scope:Bc}{f:AI}{cd:AF}{A:Am}{outer:List Env}{s s1:AJ}{H:Hp}{E:XK}{us:List AF}{vs:List V}
  (S:ya4 N ps scope) (hd:A.handled=AC) (e0:ycu P w K mg base A outer s H) (hl:vs.length=ps.length) (r:Vals vs us)
  (x:InCallC s s.heap.objs.size (bindL (envOfC qual scope s.heap.objs.size f cd).kindOf (ps.zip us) λ_=>AC) (cellsFrom (s.heap.objs.size+1) scope.names []) (bindC (envOfC qual scope s.heap.objs.size f cd).kindOf (ps.zip us) λ_=>AC) s1):
  Inv (yaM CX P w K mg base N qual scope f cd A outer s H E) [] (start N vs) H s1:=by
 have hpl:ps.length<=N.length:=by have:=congrArg CY S.pre;rw[EN]at this;lia
 let⟨h1,tk,rfl,hk⟩:=x.done;have noA:∀b:AI,b∉(yaM CX P w K mg base N qual scope f cd A outer s H E).ex:=λb z=>absurd (show b∈([]:List AI)from z) (by simp);refine⟨⟨e0.mod,S.kind,rfl,rfl,AU _,λy z c h1 h2=>?_,λy hy=>?_,λy c _ h=>?_,λ_=>hd,Around.frames_deeper e0.frames,.inr ⟨rfl,rfl⟩,λb z=>absurd z (noA b),e0.bs,e0.bsz,λb _ _=>noA b,λb z=>absurd z (noA b),e0.funs,e0.frf⟩,
  rfl,e0.bare,Un.kept hk,⟨_,x.toInCall.ns,λi y v h1 h2 h3=>?_⟩,λy c h=>⟨_,x.cell y c h⟩,e0.hok.fresh (AU _),λy c h=>?_,λp hp=>absurd (show p∈([]:List (AI×Bs))from hp) (by simp),e0.hok.kept hk,?_⟩
 .exact name_of_addr x.apart (CS h1) (CS h2)
 .have hy:scope.names.lookup y=AA .cell \/ scope.names.lookup y=AA .free:=hy;rcases hy with hy|hy
  .exact zfR hy
  .exact absurd rfl (S.nofree _ (CS hy))
 .exact F5 (x.above y c (CS h))
 .have hi:i<vs.length:=by
   unfold start at h2
   by_cases hi:i<vs.length
   .exact hi
   .rw[Al (by simpa using hi)]at h2;rw[EO]at h2;split at h2<;>cases h2
  have ha:vs[i]?=AA v:=by
   unfold start at h2;rw[Ae (by simpa using hi),Bo]at h2
   cases e:vs[i]? with
   |none=>rw[e]at h2;cases h2
   |some a=>rw[e]at h2;cases h2;rfl
  let⟨u,hu,rv⟩:=r.get ha;have hp:ps[i]?=AA y:=by
   rw[<-S.pre,List.getElem?_take_of_lt (by lia)];exact h1
  have ndP:ps.Nodup:=by rw[<-S.pre];exact S.nd.sublist (List.take_sublist _ _)
  refine⟨u,rv,?_⟩;rcases S.par y (A4 hp)with k|k
  .exact .inl ⟨k,zeg ndP hp hu k⟩
  .let⟨c,e⟩:=zfR (n:=s.heap.objs.size+1) k;refine .inr ⟨.inl k,c,e,?_⟩;have q:=x.cell y c e;rw[zeS ndP hp hu (by show scope.names.lookup y≠_;rw[k];decide)]at q;exact q
 .exact e0.hok.fresh (F5 (x.above y c (CS h)))
 .unfold start;show _=N.length;rw[Bi,BK,List.length_replicate];lia
theorem znI{CX:CXT}{P:A7}{w:Ag}{K:AE}{mg:AQ->Option AF}{base:Ay}{k:Nat}{f:AI}{name qual:AQ}{params:Arguments}{body:List Bn}{scope:Bc}{dV kV doc pm cdv ct oc:AF}{an od:Option AI}
  {osl:Array (Option AF)} {N ps:List AQ} {sp:Sp} (lk:K.lookup f=AA ⟨oc,od,.func (BX name qual params body scope dV kV doc pm an cdv ct),osl⟩) (hcd:CA K cdv qual=AB) (S:ya4 N ps scope)
  (len:∀vs H Q E,sp vs H Q E->vs.length=ps.length)
  (hbody:∀(A:Am) (outer:List Env) (s:AJ) (H:Hp) (vs:List V) (Q:VK) (E:XK),yan k (A.deeper (envOfC qual scope s.heap.objs.size f cdv))->sp vs H Q E ->
   ∃t,PSs (yaM CX P w K mg base N qual scope f cdv A outer s H E) body t/\t {nx:=λ_ H'=>Q .non H',rt:=Q} (start N vs) H):
  yaE P w K mg base CX (k+1) f (BX name qual params body scope dV kV doc pm an cdv ct) ps sp:=by
 refine⟨len,λA outer s H args us vs Q E hr e0 hb r hsp=>?_⟩;have hl:=len _ _ _ _ hsp;have KX:K.In s.heap:=e0.mod.kin.keeps λb o e=>(e0.bs b o e).1;have lim:s.heap.NoLimit:=e0.mod.nolimit.keeps λb o e=>(e0.bs b o e).1;have hkind:∀y∈ps.zip us,scope.names.lookup y.1=AA .local \/ (scope.names.lookup y.1=AA .cell/\((cellsFrom (s.heap.objs.size+1) scope.names []).lookup y.1).isSome=AB):=λ⟨n,v⟩ hy=>by
  rcases S.par n (Eg hy).1 with q|q
  .exact .inl q
  .exact .inr ⟨q,EX _ _ _ (.inl q)⟩
 refine codeAny_call_function hr.depth (KX _ _ lk) rfl S.co S.gen rfl (PySem.W.codeRec_of KX hcd) (hb _ _ _ _ ?_);refine wpAny_newFunctionEnv_cells S.kind hkind λenv he s1 x=>?_;subst he;refine⟨lim.keeps x.toInCall.keep,codeAny_func ?_⟩;let⟨t,ht,hq⟩:=hbody A outer s H vs Q E (hr.deeper _) hsp;have I:Inv (yaM CX P w K mg base N qual scope f cdv A outer s H E) [] (start N vs) H s1:=zhb S hr.hd e0 hl r x;refine CL (ht [] s1 (start N vs) H _ I hq) (λfl s' hs=>?_) λe s' hs=>hs;have fin:∀{σ':St} {H':Hp} {v:V} {u:AF},Inv (yaM CX P w K mg base N qual scope f cdv A outer s H E) [] σ' H' s'->RelV v u->Q v H'->CE outer P w H s Q u s':=
  λ{σ' H' v u} J rv q=>⟨v,H',J.os,J.bare,J.base,J.hok,rv,q⟩
 cases fl with
 |ret u=>
  let⟨v,σ',H',J,rv,q⟩:=hs;exact fin J rv q
 |next=>
  let⟨σ',H',J,q⟩:=hs;exact fin (v:=V.non) (u:=Bz) J rfl q
 |brk=>
  let⟨_,_,_,q⟩:=hs;exact Bg q
 |cont=>
  let⟨_,_,_,q⟩:=hs;exact Bg q
section
variable {X:Cx}{x:AQ}{p pos:CH}{e:AS}{es:List AS}{t:TA}{id T:String}{r:List V->Hp->VK->Prop}
def tCB(r:List V->Hp->VK->Prop)(t:TA):TE:=λσ H Q=>t σ H λvs H1=>r vs H1 Q
theorem zfJ(hc:yab X (.builtin id) r)(hg:Gl X x)(hm:X.mg x=AC)(hv:bootBuiltins x=AA (.builtin id))(ha:PA X (e::es) t)(hn:x ≠ "__name__":=by decide)(hdb:(x==("__debug__":AQ))=false:=by decide)
  (he:starEach (e::es) X.env=(AD,eval e X.env)::starEach es X.env:=by rfl) (hpl:(backTo pos (starEach es X.env)).any (·.1)=false:=by rfl):PE X (.Call (.Name x p) (e::es) [] pos) (tCB r t):=by
 intro pins s σ H Q I h;refine BT (zdq I hg hm hv ?_ hn hdb);exact Fz (thn (ha pos pins s σ H _ I h) λus s1 ⟨vs,H1,I1,r1,q1⟩=>hc pins s1 σ H1 vs us Q I1 r1 q1) he hpl
theorem zgH(hc:yab X (.type T) r)(hg:Gl X x)(hm:X.mg x=AC)(hv:bootBuiltins x=AA (.type T))(ha:PA X (e::es) t)(hn:x ≠ "__name__":=by decide)(hdb:(x==("__debug__":AQ))=false:=by decide)
  (he:starEach (e::es) X.env=(AD,eval e X.env)::starEach es X.env:=by rfl) (hpl:(backTo pos (starEach es X.env)).any (·.1)=false:=by rfl):PE X (.Call (.Name x p) (e::es) [] pos) (tCB r t):=by
 intro pins s σ H Q I h;refine BT (zdq I hg hm hv ?_ hn hdb);exact Bu (thn (ha pos pins s σ H _ I h) λus s1 ⟨vs,H1,I1,r1,q1⟩=>hc pins s1 σ H1 vs us Q I1 r1 q1) he hpl
end
end L2
namespace HT
open PySem PyProof.Rows
section
open PySem.SeqAt
open PySem.AutoSeq1 (wpAny_loadPart')
open PySem.MeetsSeq PySem.MeetsSeq2 PySem.MeetsSeq3
end
section
variable {prog:A7}{w:Ag}{A:Am}{E:AF->AJ->Prop}{s:AJ}
theorem cat_tup{t b:AI}{vs ws:List AF}{Q:AF->AJ->Prop}(ht:HC s.heap t vs.toArray)(hb:HC s.heap b ws.toArray)(hv:vs≠[])
  (h1:ws=[]->Q (.ref t) s) (h2:ws≠[]->Q (.ref s.heap.objs.size) {s with heap:=s.heap.push {cls:=.type "tuple",data:=.seq (vs++ws).toArray} })
  (hsz:vs.length+ws.length<=sizeLine):A3 (model prog w) A (binaryOp .Add (.ref t) (.ref b)) Q E s:=by
 let⟨⟨cls,dd,data,sl⟩,ho,hc,n,hd⟩:=id ht;let⟨⟨cls2,dd2,data2,sl2⟩,ho2,hc2,n2,hd2⟩:=id hb;simp only at hc hd hc2 hd2;subst hc hd hc2 hd2;have e:vs.toArray++ws.toArray=(vs++ws).toArray:=by simp
 by_cases hw:ws=[]
 .exact Fa ⟨_,ho,rfl⟩ ⟨_,ho2,rfl⟩ EQ FO DC Cz (Co _ _)
   (tuple_addW1 t b vs.toArray ws.toArray n n2 dd dd2 sl sl2 (by simpa using hv) (by simp[hw])) ⟨ho,ho2,h1 hw⟩
 .refine Fa ⟨_,ho,rfl⟩ ⟨_,ho2,rfl⟩ EQ FO DC Cz (Co _ _)
   (tuple_addW2 t b vs.toArray ws.toArray n n2 dd dd2 sl sl2 (by simpa using hv) (by simpa using hw) (by rw[AZ,AZ];exact hsz)) ⟨ho,ho2,?_⟩
  rw[e];exact h2 hw
def sIx(n d:Nat):Option Int->Nat
 |none=>d
 |some v=>if v<0 then(v+(n:Int)).toNat else min v.toNat n
theorem sIx_le(n d:Nat)(hd:d<=n)(o:Option Int):sIx n d o<=n:=by
 cases o with
 |none=>exact hd
 |some v=>
  show (if v<0 then(v+(n:Int)).toNat else min v.toNat n)<=n
  by_cases hv:v<0
  .rw[if_pos hv];lia
  .rw[if_neg hv];exact Nat.min_le_right _ _
theorem zgM(v:Int)(n d:Nat):(if v<0 then max (v+(n:Int)) 0 else min v (n:Int))=((sIx n d (AA v):Nat):Int):=by
 show (if v<0 then max (v+(n:Int)) 0 else min v (n:Int))=(((if v<0 then(v+(n:Int)).toNat else min v.toNat n):Nat):Int)
 by_cases hv:v<0
 .simp only[if_pos hv];lia
 .simp only[if_neg hv];lia
theorem zfW(lo hi:Option Int)(n:Nat):Ck lo hi 1 (n:Int)=(((sIx n 0 lo:Nat):Int),((sIx n n hi:Nat):Int)):=by
 have h1:¬((1:Int)<0):=by lia
 unfold Ck;erw[h1,if_false];refine Prod.ext ?_ ?_
 .cases lo with
  |none=>rfl
  |some v=>exact zgM v n 0
 .cases hi with
  |none=>rfl
  |some v=>exact zgM v n n
theorem zgg(i j:Nat):CD (i:Int) (j:Int) 1=j-i:=by
 unfold CD;have h1:(1:Int) > 0:=by lia
 erw[h1,if_true,Gm];split<;>lia
theorem zdb{v:AF}{o:Option Int}{Q:Option Int->AJ->Prop}(p:EY v o)(h:Q o s):A3 (model prog w) A (GR v) Q E s:=by
 cases p with
 |none=>exact slicePart_none h
 |int i t=>exact slicePart_int h
theorem sliceApplied_gen{sl:AI}{vl vu:AF}{lo hi:Option Int}{n:Nat}{Q:Int×Int×Nat->AJ->Prop}(hs:s.heap.IsSliceOf sl vl vu .none)(pl:EY vl lo)(pu:EY vu hi)
  (h:Q (((sIx n 0 lo:Nat):Int),1,sIx n n hi-sIx n 0 lo) s):A3 (model prog w) A (Dm (.ref sl) (pure (n:Int))) Q E s:=by
 let⟨os,hos,hcs,hds⟩:=id hs;unfold Dm Gb;refine AH (AH (BM hos hds (x:=vl) rfl (AH (BM hos hds (x:=vu) rfl (AH (BM hos hds (x:=.none) rfl (AV ?_)))))));refine AH (slicePart_none ?_);show A3 _ _ (if ((1:Int)==0)=AB then _ else _) _ _ s;rw[if_neg (by decide)];refine AH (zdb pl (AH (zdb pu (AH (AV ?_)))));show A3 _ _ (match Ck lo hi 1 (n:Int)with|(lo,hi)=>pure (lo,(1:Int),CD lo hi 1)) _ _ s;rw[zfW lo hi n];show A3 _ _ (pure (((sIx n 0 lo:Nat):Int),(1:Int),CD ((sIx n 0 lo:Nat):Int) ((sIx n n hi:Nat):Int) 1)) _ _ s;rw[zgg];exact AV h
theorem ziz(xs:Array AF)(i k:Nat):((C0 k).filterMap λ(m:Nat)=>xs[((i:Int)+(m:Int)*1).toNat]?).toArray=((xs.toList.drop i).take k).toArray:=by
 have e:(λ(m:Nat)=>xs[((i:Int)+(m:Int)*1).toNat]?)=λm=>xs[i+m]?:=by
  funext m
  have:((i:Int)+(m:Int)*1).toNat=i+m:=by lia
  rw[this]
 rw[e];have:=pick_run xs i k;rw[List.filterMap_map]at this;have e2:((λx=>xs[x]?) ∘ λx=>i+x)=λm=>xs[i+m]?:=rfl;rw[e2]at this;rw[this]
theorem getItem_tuple_cut{t sl:AI}{items:Array AF}{vl vu:AF}{lo hi:Option Int}{Q:AF->AJ->Prop}(ht:HC s.heap t items)(hs:s.heap.IsSliceOf sl vl vu .none)(pl:EY vl lo)(pu:EY vu hi)
  (hw:¬(sIx items.size 0 lo=0/\sIx items.size items.size hi=items.size))
  (h:Q (.ref s.heap.objs.size) {s with heap:=s.heap.push {cls:=.type "tuple",data:=.seq ((items.toList.drop (sIx items.size 0 lo)).take (sIx items.size items.size hi-sIx items.size 0 lo)).toArray} })
  (hsz:items.size<=sizeLine):A3 (model prog w) A (getItem (.ref t) (.ref sl)) Q E s:=by
 have htake:sizeOk (.seq ((items.toList.drop (sIx items.size 0 lo)).take (sIx items.size items.size hi-sIx items.size 0 lo)).toArray):=by
  show ((items.toList.drop (sIx items.size 0 lo)).take (sIx items.size items.size hi-sIx items.size 0 lo)).toArray.size<=sizeLine;rw[AZ,EN,GA,Bt];lia
 have hj:sIx items.size items.size hi<=items.size:=sIx_le _ _ (AU _) hi;let⟨os,hos,hcs,hds⟩:=id hs;have hTs:s.TypeIs (.ref sl) "slice":=⟨os,hos,hcs⟩;unfold getItem
 try with_reducible refine DS ?_
 first|refine AH (AV ?_)|skip
 refine AH (Fb ht.typeIs (by decide) ?_);refine AH (B8 (name:=AG "__getitem__") ht.typeIs BC
  (CT BC ht.typeIs FE ?_ (FZ _ _)))
 show A3 _ _ (Dn (.ref t) >>= _) _ _ s;refine AH (FA ht ?_);refine AH (Fc hTs ?_);rw[if_pos (by decide)];refine AH (sliceApplied_gen hs pl pu ?_);have hno:¬((((sIx items.size 0 lo:Nat):Int)==0&&(1:Int)==1&&(sIx items.size items.size hi-sIx items.size 0 lo)==items.size)=AB):=by
  intro q;rw[AK,AK]at q;have q1:((sIx items.size 0 lo:Nat):Int)=0:=eq_of_beq q.1.1;have q2:sIx items.size items.size hi-sIx items.size 0 lo=items.size:=eq_of_beq q.2;exact hw ⟨by lia,by lia⟩
 show A3 _ _ (if (((sIx items.size 0 lo:Nat):Int)==0&&(1:Int)==1&&(sIx items.size items.size hi-sIx items.size 0 lo)==items.size)=AB then _ else _) _ _ s;rw[if_neg hno,ziz]
 first
  |exact AH (m:=CM _) (Bf (AV ⟨_,rfl,AV h⟩) htake)
  |exact AH (m:=CM _) (Bf (AH (AV (AV ⟨_,rfl,AV h⟩))) htake)
  |exact AH (AH (m:=CM _) (Bf (AV (AV ⟨_,rfl,AV h⟩)) htake))
  |exact AH (AH (m:=CM _) (Bf (AV ⟨_,rfl,AV h⟩) htake))
end
end HT
namespace L2
open PySem PySem.Spec PyProof.Rows
abbrev TO:=St->Hp->(Option Int->Hp->Prop)->Prop
def PO(X:Cx)(e:Option AS)(t:TO):Prop:=
 ∀(pins:List (AI×Bs)) (s:AJ) (σ:St) (H:Hp) (Q:Option Int->Hp->Prop),Inv X pins σ H s->t σ H Q ->
  A3 (model X.prog X.w) X.A (evalPart e X.env) (λu s'=>∃o H',Inv X pins σ H' s'/\EY u o/\Q o H') X.xe s
def ycg:TO:=λ_ H Q=>Q AC H
theorem zf3{ns:List Int}:∀{us:List AF},Vals (ns.map V.int) us->FB us ns:=by
 induction ns with
 |nil=>intro us r;rw[Ar]at r;cases r;exact .nil
 |cons n ns ih=>
  intro us r;rw[AO]at r
  cases r with
  |cons r1 r2=>
   let⟨t,e⟩:=r1;subst e;exact .cons n t (ih r2)
section
variable {X:Cx}{e:AS}{te:TE}{lo hi:Option AS}{tl th:TO}{pos p2:CH}
theorem zj8:PO X AC ycg:=by
 intro pins s σ H Q I h;rw[evalPart_none];exact AV ⟨AC,H,I,.none,h⟩
def SlR(X:Cx)(r:V->Option Int->Option Int->Hp->VK->Prop):Prop:=
 ∀(pins:List (AI×Bs)) (s:AJ) (σ:St) (H:Hp) (x:V) (v vl vu:AF) (lo hi:Option Int) (sl:AI) (Q:VK),Inv X pins σ H s->RelV x v->s.heap.IsSliceOf sl vl vu .none->EY vl lo->EY vu hi->r x lo hi H Q ->
  ∃T id,typeLookup (.type T) "__getitem__"=pure (AA (.builtin id))/\s.TypeIs v T/\A3 (model X.prog X.w) X.A (getItem v (.ref sl)) (EP X pins σ Q) X.xe s
def tSl(r:V->Option Int->Option Int->Hp->VK->Prop)(te:TE)(tl th:TO):TE:=λσ H Q=>te σ H λx H1=>tl σ H1 λl H2=>th σ H2 λu H3=>r x l u H3 Q
theorem zig{r:V->Option Int->Option Int->Hp->VK->Prop}(hr:SlR X r)(he:PE X e te)(hl:PO X lo tl)(hu:PO X hi th):PE X (.Subscript e (.Slice lo hi AC p2) pos) (tSl r te tl th):=by
 intro pins s σ H Q I h;refine G4 (thn (he pins s σ H _ I h) λv s1 kq=>?_);let⟨x,H1,I1,r1,q1⟩:=kq;refine wpAny_Slice (thn (hl pins s1 σ H1 _ I1 q1) λvl s2 kq=>?_);let⟨l,H2,I2,pl,q2⟩:=kq;refine thn (hu pins s2 σ H2 _ I2 q2) λvu s3 kq=>?_;let⟨u,H3,I3,pu,q3⟩:=kq;rw[evalPart_none];refine AV ?_;have I4:Inv X pins σ H3 {s3 with heap:=s3.heap.push {cls:=.type "slice",data:=.fields #[vl,vu,.none]} }:=I3.kept (t':=s3.toks) λb ob q=>AN _ q;let⟨T,id,hT,ht,hg⟩:=hr pins {s3 with heap:=s3.heap.push {cls:=.type "slice",data:=.fields #[vl,vu,.none]} } σ H3 x v vl vu l u s3.heap.objs.size Q I4 r1 (HJ ..) pl pu q3;show A3 (model X.prog X.w) X.A (subscriptTail e (.Slice lo hi AC p2) v (.ref s3.heap.objs.size)) (EP X pins σ Q) X.xe {s3 with heap:=s3.heap.push {cls:=.type "slice",data:=.fields #[vl,vu,.none]} };exact tail_any (ops:=[.ref s3.heap.objs.size,v]) ht hT hg (by ac_rfl)
def yb4(xs:List V)(lo hi:Option Int):List V:=(xs.drop (HT.sIx xs.length 0 lo)).take (HT.sIx xs.length xs.length hi-HT.sIx xs.length 0 lo)
theorem zcz(xs:List V)(lo hi:Option Int):(yb4 xs lo hi).length<=xs.length:=by
 unfold yb4;rw[EN,GA];lia
def ye7(K:AE):V->Option Int->Option Int->Hp->VK->Prop:=λx lo hi H Q=>∃a xs,x=.ref a/\SqT K H a xs /\
 ¬(HT.sIx xs.length 0 lo=0/\HT.sIx xs.length xs.length hi=xs.length)/\∀p,H p=AC->Q (.ref p) (upd H p (.tup (yb4 xs lo hi)))
theorem zmC:SlR X (ye7 X.K):=by
 intro pins s σ H x v vl vu lo hi sl Q I rx hs pl pu h;let⟨a,xs,rfl,hx,hw,q⟩:=h
 cases rx
 let⟨its,r,ht,hz⟩:=I.tuple hx;have hlen:its.toArray.size=xs.length:=by rw[AZ];exact r.length.symm
 refine⟨"tuple",_,BC.lookup,ht.typeIs,?_⟩;refine HT.getItem_tuple_cut ht hs pl pu (by rw[hlen];exact hw) ?_ (by rw[hlen];exact hz);rw[hlen];refine⟨.ref s.heap.objs.size,_,I.laid (t':=s.toks) (o:=.tup (yb4 xs lo hi)) (λb ob q=>AN _ q) (AU _) ?_,rfl,q _ (I.hok.fresh (AU _))⟩;exact⟨BQ (zcz xs lo hi) hz,_,(r.drop (HT.sIx xs.length 0 lo)).take (HT.sIx xs.length xs.length hi-HT.sIx xs.length 0 lo),Fv _ _⟩
def yep(K:AE):R2:=λx y H Q=>∃a b xs ys,x=.ref a/\y=.ref b/\SqT K H a xs/\SqT K H b ys/\xs≠[]/\xs.length+ys.length<=sizeLine /\
 (ys=[]->Q (.ref a) H)/\(ys≠[]->∀p,H p=AC->Q (.ref p) (upd H p (.tup (xs++ys))))
theorem Vals.nil_iff{xs:List V}{us:List AF}(r:Vals xs us):us=[] ↔ xs=[]:=by
 cases r with
 |nil=>simp
 |cons _ _=>simp
theorem zkJ:OpR X (binaryOp .Add) (yep X.K):=by
 intro pins s σ H x y v u Q I rx ry h;let⟨a,b,xs,ys,rfl,rfl,ha,hb,hx,hz,q1,q2⟩:=h
 cases rx
 cases ry
 let⟨its,r1,p1,_⟩:=I.tuple ha;let⟨its2,r2,p2,_⟩:=I.tuple hb;refine HT.cat_tup p1 p2 (λz=>hx (r1.nil_iff.mp z)) (λz=>⟨.ref a,H,I,rfl,q1 (r2.nil_iff.mp z)⟩) (λz=>?_) (by rw[<-r1.length,<-r2.length];exact hz);refine⟨.ref s.heap.objs.size,_,I.laid (t':=s.toks) (o:=.tup (xs++ys)) (λb ob q=>AN _ q) (AU _) ?_,rfl,q2 (λw=>z (r2.nil_iff.mpr w)) _ (I.hok.fresh (AU _))⟩;exact⟨by rw[Bi];exact hz,_,r1.append r2,Fv _ _⟩
end
def ixN(n:Nat)(i:Int):Option Nat:=if 0<=i then(if i<n then AA i.toNat else AC)else if -(n:Int)<=i then AA (i+n).toNat else AC
def atI{α:Type}(xs:List α)(i:Int):Option α:=(ixN xs.length i).bind λj=>xs[j]?
theorem zhn{n:Nat}{i:Int}{j:Nat}(h:ixN n i=AA j):seqIndex? i n=AA j/\j<n/\-(n:Int)<=i/\i<n:=by
 unfold ixN at h
 by_cases h0:0<=i
 .rw[if_pos h0]at h
  by_cases h1:i<n
  .rw[if_pos h1]at h;have e:i.toNat=j:=AY h;exact⟨by rw[GN h0 h1,e],by lia,by lia,h1⟩
  .rw[if_neg h1]at h;cases h
 .rw[if_neg h0]at h
  by_cases h1:-(n:Int)<=i
  .rw[if_pos h1]at h;have e:(i+n).toNat=j:=AY h;exact⟨by rw[seqIndex_neg (by lia) h1,e],by lia,h1,by lia⟩
  .rw[if_neg h1]at h;cases h
theorem zfc{α:Type}{xs:List α}{i:Int}{v:α}(h:atI xs i=AA v):∃j,seqIndex? i xs.length=AA j/\xs[j]?=AA v/\j<xs.length/\-(xs.length:Int)<=i/\i<xs.length:=by
 unfold atI at h
 cases e:ixN xs.length i with
 |none=>rw[e]at h;cases h
 |some j=>
  rw[e]at h;let⟨h1,h2,h3,h4⟩:=zhn e;exact⟨j,h1,h,h2,h3,h4⟩
def ybj(b:AS):Prop:=∀o i,subscripted b AD o i=operate [o,i] (getItem o i)
def IxR(X:Cx)(r:R2):Prop:=
 ∀(value slice:AS) (pins:List (AI×Bs)) (s:AJ) (σ:St) (H:Hp) (x y:V) (v u:AF) (Q:VK),Inv X pins σ H s->RelV x v->RelV y u->r x y H Q ->
  subscripted slice AD v u=operate [v,u] (getItem v u)->A3 (model X.prog X.w) X.A (subscriptTail value slice v u) (EP X pins σ Q) X.xe s
def MtR(X:Cx)(id:String)(r:V->List V->Hp->VK->Prop):Prop:=
 ∀(pins:List (AI×Bs)) (s:AJ) (σ:St) (H:Hp) (x:V) (xs:List V) (v:AF) (us:List AF) (Q:VK),Inv X pins σ H s->RelV x v->Vals xs us->r x xs H Q ->
  A3 (model X.prog X.w) X.A (call (.builtin id) (v::us)) (EP X pins σ Q) X.xe s
section
variable {X:Cx}{a b:AS}{ta tb:TE}{pos:CH}
theorem IxR.or{r r':R2}(h:IxR X r)(h':IxR X r'):IxR X (λx y H Q=>r x y H Q \/ r' x y H Q):=by
 intro value slice pins s σ H x y v u Q I rx ry q hs;rcases q with q|q
 .exact h value slice pins s σ H x y v u Q I rx ry q hs
 .exact h' value slice pins s σ H x y v u Q I rx ry q hs
theorem znW{r:R2}(hr:IxR X r)(ha:PE X a ta)(hb:PE X b tb)(hs:ybj b):PE X (.Subscript a b pos) (tOp r ta tb):=by
 intro pins s σ H Q I h;exact G4 (yeh ha hb I h λv u s2 x y H2 I2 rx ry q=>hr a b pins s2 σ H2 x y v u Q I2 rx ry q (hs _ _))
def yeB(K:AE):R2:=λx y H Q=>∃p xs i v,x=.ref p/\y=.int i/\SqL K H p xs/\atI xs i=AA v/\Q v H
def yeu(K:AE):R2:=λx y H Q=>∃p xs i v,x=.ref p/\y=.int i/\SqT K H p xs/\atI xs i=AA v/\Q v H
def yey:R2:=λx y H Q=>∃z i c,x=.str z/\y=.int i/\z.length<=sizeLine/\atI z.cps.toList i=AA c/\Q (.str ⟨#[c]⟩) H
theorem yco:IxR X (yeB X.K):=by
 intro value slice pins s σ H x y v u Q I rx ry h hs;let⟨p,xs,i,z,rfl,rfl,hq,he,q⟩:=h
 cases rx
 let⟨t,rfl⟩:=ry;let⟨its,r,pl,hz⟩:=I.list hq;let⟨j,h1,h2,h3,h4,h5⟩:=zfc he;let⟨w,ew,rw'⟩:=r.get h2;have hl:=r.length;have hn:=yaI;have fin:EP X pins σ Q w s:=⟨z,H,I,rw',q⟩
 by_cases h0:0<=i
 .have hj:i.toNat=j:=by
   rw[GN h0 h5]at h1;exact AY h1
  exact item_listR pl.isList h0 (by lia) (by rw[hj];simpa using ew) fin hs
 .have hj:(i+(its.toArray.size:Int)).toNat=j:=by
   rw[seqIndex_neg (by lia) h4]at h1;rw[AZ,<-hl];exact AY h1
  exact EZ (x:=w) pl.isList.typeIs Fd.lookup
   (wpAny_getItem_list_neg (Q:=λr s'=>r=w/\EP X pins σ Q r s') pl.isList (by lia) (by rw[AZ]<;>lia) (by lia) (by rw[hj];simpa using ew) ⟨rfl,fin⟩) hs
theorem ydi:IxR X (yeu X.K):=by
 intro value slice pins s σ H x y v u Q I rx ry h hs;let⟨p,xs,i,z,rfl,rfl,hq,he,q⟩:=h
 cases rx
 let⟨t,rfl⟩:=ry;let⟨its,r,pl,hz⟩:=I.tuple hq;let⟨j,h1,h2,h3,h4,h5⟩:=zfc he;let⟨w,ew,rw'⟩:=r.get h2;have hl:=r.length;have hn:=yaI;have fin:EP X pins σ Q w s:=⟨z,H,I,rw',q⟩;exact EZ (x:=w) pl.typeIs BC.lookup
  (getItem_tuple (j:=j) (Q:=λr s'=>r=w/\EP X pins σ Q r s') pl (by lia) (by lia) (by rw[AZ,<-hl];exact h1) (by simpa using ew) ⟨rfl,fin⟩) hs
theorem zl7:IxR X yey:=by
 intro value slice pins s σ H x y v u Q I rx ry h hs;let⟨z,i,c,rfl,rfl,hz,he,q⟩:=h;let⟨t,rfl⟩:=rx;let⟨t',rfl⟩:=ry;let⟨j,h1,h2,h3,h4,h5⟩:=zfc he;have hl:z.cps.toList.length=z.length:=by simp[Str.length]
 rw[hl]at h1 h4 h5;have hn:=yaI;exact tail_any (G5 s z t) slot_str_getitem.lookup (getItem_str (c:=c) (by
  have e1:decide (i < -(2^63:Int))=false:=decide_eq_false (by lia);have e2:decide (i ≥ 2^63)=false:=decide_eq_false (by lia);rw[e1,e2,Gf]) (by rw[h1];simpa using h2) ⟨.str ⟨#[c]⟩,H,I.tok _,⟨_,rfl⟩,q⟩) hs
def rIx(K:AE):R2:=λx y H Q=>yeB K x y H Q \/ yeu K x y H Q \/ yey x y H Q
theorem zfF:IxR X (rIx X.K):=yco.or (ydi.or zl7)
theorem zgf(its:List AF)(n j:Nat)(u:AF):E8 (·.setIfInBounds j u) {cls:=.type "list",data:=.seq its.toArray n}={cls:=.type "list",data:=.seq (its.set j u).toArray n}:=by
 simp[E8]
theorem Inv.lst{pins:List (AI×Bs)}{σ:St}{H:Hp}{s:AJ}{p:AI}{xs:List V}(I:Inv X pins σ H s)(h:H p=AA (.lst xs)):
  ∃(its:List AF) (n:Nat),Vals xs its/\s.heap.get? p=AA {cls:=.type "list",data:=.seq its.toArray n}/\xs.length<=sizeLine:=by
 let⟨z,its,n,r,e⟩:=I.hok p _ h;exact⟨its,n,r,e,z⟩
theorem Inv.lstUpd{pins:List (AI×Bs)}{σ:St}{H:Hp}{s:AJ}{p:AI}{xs ys:List V}{its its':List AF}{n n':Nat}{f:Bs->Bs}(I:Inv X pins σ H s)(h:H p=AA (.lst xs))
  (ho:s.heap.get? p=AA {cls:=.type "list",data:=.seq its.toArray n}) (hf:f {cls:=.type "list",data:=.seq its.toArray n}={cls:=.type "list",data:=.seq its'.toArray n'}) (r:Vals ys its') (hz:ys.length<=sizeLine) (t:Nat):
  Inv X pins σ (upd H p (.lst ys)) {s with heap:=s.heap.update p f,toks:=t}:=by
 have e:(s.heap.update p f).get? p=AA {cls:=.type "list",data:=.seq its'.toArray n'}:=by
  rw[Ek f ho (by rw[hf]<;>rfl),hf]
 refine I.write (x:=p) (e:=p) (by rw[h];trivial) (.inl rfl) (λb u hb q=>(DD _ _ (BI hb)).trans q) ⟨_,e⟩ ?_;exact⟨hz,its',n',r,e⟩
def ycG:V->V->V->Hp->(Hp->Prop)->Prop:=λo i v H Q=>∃p xs k j,o=.ref p/\i=.int k/\H p=AA (.lst xs)/\ixN xs.length k=AA j/\Q (upd H p (.lst (xs.set j v)))
theorem zfT:yeI X ycG:=by
 intro pins s σ H o i v ov iv u Q I ro ri rv h;let⟨p,xs,k,j,rfl,rfl,hp,hj,q⟩:=h
 cases ro
 let⟨t,rfl⟩:=ri;let⟨its,n,r,ho,hz⟩:=I.lst hp;let⟨h1,h2,h3,h4⟩:=zhn hj;have hl:=r.length;have hn:=yaI;have I':Inv X pins σ (upd H p (.lst (xs.set j v))) {s with heap:=s.heap.update p (E8 (·.setIfInBounds j u))}:=
  I.lstUpd hp ho (zgf its n j u) (r.set rv j) (by rw[BW];exact hz) s.toks
 by_cases h0:0<=k
 .have hk:k.toNat=j:=by
   rw[GN h0 h4]at h1;exact AY h1
  exact PySem.W.ki_setAt ho h0 (by lia) (by rw[AZ,<-hl];exact h4) (by rw[hk];exact⟨_,I',q⟩)
 .have hk:(k+(its.toArray.size:Int)).toNat=j:=by
   rw[seqIndex_neg (by lia) h3]at h1;rw[AZ,<-hl];exact AY h1
  exact PySem.W.ki_setBack ho (by lia) (by rw[AZ,<-hl];exact h3) (by lia) (by rw[hk];exact⟨_,I',q⟩)
theorem zet(lo hi:Option Int)(n:Nat):(sliceBounds lo hi AC n).1=((HT.sIx n 0 lo:Nat):Int)/\(sliceBounds lo hi AC n).2.1=((HT.sIx n n hi:Nat):Int)/\(sliceBounds lo hi AC n).2.2=1:=by
 refine⟨?_,?_,rfl⟩
 .cases lo with
  |none=>simp[sliceBounds,HT.sIx]
  |some i=>
   erw[sliceBounds,HT.sIx,GB,show (1:Int) > 0 by decide,if_true]
   by_cases h:i<0
   .simp only[h,if_true]<;>lia
   .simp only[h,if_false]<;>lia
 .cases hi with
  |none=>simp[sliceBounds,HT.sIx]
  |some i=>
   erw[sliceBounds,HT.sIx,GB,show (1:Int) > 0 by decide,if_true]
   by_cases h:i<0
   .simp only[h,if_true]<;>lia
   .simp only[h,if_false]<;>lia
theorem zdy(its:List AF)(lo hi:Option Int):slicePick its.toArray lo hi AC=((its.drop (HT.sIx its.length 0 lo)).take (HT.sIx its.length its.length hi-HT.sIx its.length 0 lo)).toArray:=by
 let⟨h1,h2,h3⟩:=zet lo hi its.toArray.size;unfold slicePick;rw[h1,h2,h3];erw[sliceRange_one,pick_run,AZ]<;>rfl
def ygF(K:AE):V->Option Int->Option Int->Hp->VK->Prop:=λx lo hi H Q=>∃a xs,x=.ref a/\SqL K H a xs/\∀p,H p=AC->Q (.ref p) (upd H p (.lst (yb4 xs lo hi)))
theorem zhW:SlR X (ygF X.K):=by
 intro pins s σ H x v vl vu lo hi sl Q I rx hs pl pu h;let⟨a,xs,rfl,hx,q⟩:=h
 cases rx
 let⟨its,r,ht,hz⟩:=I.list hx;have hlen:=r.length;refine⟨"list",_,Fd.lookup,ht.isList.typeIs,?_⟩;refine wpAny_getItem_list_slice ht.isList hs pl pu .none (by simp) ?_ (by rw[AZ]<;>lia);rw[zdy,<-hlen];refine⟨.ref s.heap.objs.size,_,I.laid (t':=s.toks) (o:=.lst (yb4 xs lo hi)) (λb ob q=>AN _ q) (AU _) ?_,rfl,q _ (I.hok.fresh (AU _))⟩;exact⟨BQ (zcz xs lo hi) hz,_,0,(r.drop (HT.sIx xs.length 0 lo)).take (HT.sIx xs.length xs.length hi-HT.sIx xs.length 0 lo),A0 _ rfl⟩
def yaQ:V->Bool
 |.non=>AB
 |.bl _=>AB
 |.int _=>AB
 |.str _=>AB
 |_=>AD
def eqV:V->V->Bool
 |.non,.non=>AB
 |.bl a,.bl b=>a==b
 |.bl a,.int b=>(if a then 1 else 0)==b
 |.int a,.bl b=>a==(if b then 1 else 0)
 |.int a,.int b=>a==b
 |.str a,.str b=>a==b
 |_,_=>AD
theorem zlE{A:Am}{s:AJ}{y x:V}{u v:AF}(ry:RelV y u)(rx:RelV x v)(fy:yaQ y=AB)(fx:yaQ x=AB):HK A s u v (eqV y x):=by
 cases y with
 |non=>
  cases ry
  cases x with
  |non=>cases rx;exact SeqAt.EqAt.same _
  |bl b=>cases rx;exact SeqAt.EqAt.none_bool b
  |int b=>let⟨t,rfl⟩:=rx;exact SeqAt.EqAt.none_int b t
  |str b=>let⟨t,rfl⟩:=rx;exact SeqAt.EqAt.none_str b t
  |_=>exact absurd (show AD=AB from fx) Av
 |bl a=>
  cases ry
  cases x with
  |non=>cases rx;exact SeqAt.EqAt.bool_none a
  |bl b=>cases rx;exact SeqAt.EqAt.bool_bool a b
  |int b=>let⟨t,rfl⟩:=rx;exact SeqAt.EqAt.bool_int a b t
  |str b=>let⟨t,rfl⟩:=rx;exact SeqAt.EqAt.bool_str a b t
  |_=>exact absurd (show AD=AB from fx) Av
 |int a=>
  let⟨t',rfl⟩:=ry
  cases x with
  |non=>cases rx;exact SeqAt.EqAt.int_none a t'
  |bl b=>cases rx;exact SeqAt.EqAt.int_bool a t' b
  |int b=>let⟨t,rfl⟩:=rx;exact SeqAt.EqAt.int_int a t' b t
  |str b=>let⟨t,rfl⟩:=rx;exact FV a t' b t
  |_=>exact absurd (show AD=AB from fx) Av
 |str a=>
  let⟨t',rfl⟩:=ry
  cases x with
  |non=>cases rx;exact SeqAt.EqAt.str_none a t'
  |bl b=>cases rx;exact SeqAt.EqAt.str_bool a t' b
  |int b=>let⟨t,rfl⟩:=rx;exact FW a t' b t
  |str b=>let⟨t,rfl⟩:=rx;exact SeqAt.EqAt.str_str a t' b t
  |_=>exact absurd (show AD=AB from fx) Av
 |_=>exact absurd (show AD=AB from fy) Av
def eqU(x:V)(u:AF):Bool:=match u with
 |.none=>eqV .non x
 |.bool b=>eqV (.bl b) x
 |.int i _=>eqV (.int i) x
 |.str z _=>eqV (.str z) x
 |_=>AD
theorem zjy{x y:V}{u:AF}(r:RelV y u)(f:yaQ y=AB):eqU x u=eqV y x:=by
 cases y with
 |non=>cases r;rfl
 |bl b=>cases r;rfl
 |int i=>let⟨t,rfl⟩:=r;rfl
 |str z=>let⟨t,rfl⟩:=r;rfl
 |_=>exact absurd (show AD=AB from f) Av
theorem ze5{x:V}:∀{xs:List V} {us:List AF},Vals xs us->xs.all yaQ=AB->us.any (eqU x)=xs.any λy=>eqV y x
 |_,_,.nil,_=>rfl
 |y::xs,u::us,.cons r t,f=>by
  rw[B5,AK]at f;rw[BH,BH,zjy r f.1,ze5 t f.2]
theorem zdZ{A:Am}{s:AJ}{x:V}{v:AF}(rx:RelV x v)(fx:yaQ x=AB):∀{xs:List V} {us:List AF},Vals xs us->xs.all yaQ=AB->∀u∈us,HK A s u v (eqU x u)
 |_,_,.nil,_=>λu hu=>by cases hu
 |y::xs,u::us,.cons r t,f=>λu' hu=>by
  rw[B5,AK]at f;rcases Ad.mp hu with rfl|hu
  .rw[zjy r f.1];exact zlE r rx f.1 fx
  .exact zdZ rx fx t f.2 u' hu
def inV(x:V)(xs:List V):Bool:=xs.any λy=>eqV y x
def rIn(K:AE)(neg:Bool):R2:=λx y H Q=>∃p xs,y=.ref p/\(SqL K H p xs \/ SqT K H p xs)/\yaQ x=AB/\xs.all yaQ=AB/\Q (.bl (if neg then !inV x xs else inV x xs)) H
theorem zeG:OpR X (compareOp .In) (rIn X.K AD):=by
 intro pins s σ H x y v u Q I rx ry h;let⟨p,xs,rfl,hq,fx,fs,q⟩:=h
 cases ry
 rcases hq with hq|hq
 .let⟨its,r,pl,hz⟩:=I.list hq;refine SeqAt.in_listAt (eqU x) pl.isList (λw hw=>zdZ rx fx r fs w (by simpa using hw)) ⟨.bl _,H,I,rfl,?_⟩;rw[show its.toArray.any (eqU x)=its.any (eqU x)by simp,ze5 r fs];exact q
 .let⟨its,r,pl,hz⟩:=I.tuple hq;refine SeqAt.in_tupleAt (eqU x) pl (λw hw=>zdZ rx fx r fs w (by simpa using hw)) ⟨.bl _,H,I,rfl,?_⟩;rw[show its.toArray.any (eqU x)=its.any (eqU x)by simp,ze5 r fs];exact q
theorem zeq:yab X (.builtin "len") (λxs H Q=>∃p ys,xs=[.ref p]/\(SqL X.K H p ys \/ SqT X.K H p ys)/\Q (.int ys.length) H):=by
 intro pins s σ H xs us Q I r h;let⟨p,ys,rfl,hq,q⟩:=h;let⟨u,rfl,rx⟩:=vals1 r
 cases rx
 have hn:=yaI;rcases hq with hq|hq
 .let⟨its,r',pl,hz⟩:=I.list hq;have hlen:=r'.length;exact Calls.call_len_list pl.isList (by erw[AZ]<;>lia) ⟨.int ys.length,H,I.tok _,⟨s.toks+1,by rw[AZ,hlen]⟩,q⟩
 .let⟨its,r',pl,hz⟩:=I.tuple hq;have hlen:=r'.length;exact len_tuple pl (by erw[AZ]<;>lia) ⟨.int ys.length,H,I.tok _,⟨s.toks+1,by rw[AZ,hlen]⟩,q⟩
theorem zeA:yab X (.builtin "len") (λxs H Q=>∃z,xs=[.str z]/\z.length<=sizeLine/\Q (.int z.length) H):=by
 intro pins s σ H xs us Q I r h;let⟨z,rfl,hz,q⟩:=h;let⟨u,rfl,t,rfl⟩:=vals1 r;have hn:=yaI;exact len_str (by lia) ⟨.int z.length,H,I.tok _,⟨_,rfl⟩,q⟩
theorem zby:yab X (.type "tuple") (λxs H Q=>∃p ys,xs=[.ref p]/\((SqL X.K H p ys/\∀l,H l=AC->Q (.ref l) (upd H l (.tup ys))) \/ (SqT X.K H p ys/\Q (.ref p) H))):=by
 intro pins s σ H xs us Q I r h;let⟨p,ys,rfl,h⟩:=h;let⟨u,rfl,rx⟩:=vals1 r
 cases rx
 rcases h with⟨hq,q⟩|⟨hq,q⟩
 .let⟨its,r',pl,hz⟩:=I.list hq;have hlen:=r'.length;refine call_tuple_list pl.isList (λh' kp=>?_) (by erw[AZ]<;>lia);have I1:Inv X pins σ H {s with heap:=h'}:=I.kept (t':=s.toks) kp;have I2:Inv X pins σ (upd H h'.objs.size (.tup ys)) {s with heap:=h'.push {cls:=.type "tuple",data:=.seq its.toArray} }:=
   I1.laid (t':=s.toks) (λb o e=>AN _ e) (AU _) (show yP X.prog X.w _ _ _ (.tup ys)from ⟨hz,its,r',Fv _ _⟩)
  exact⟨.ref h'.objs.size,_,I2,rfl,q _ (I1.hok.fresh (AU _))⟩
 .let⟨its,r',pl,hz⟩:=I.tuple hq;exact call_tuple_same pl ⟨.ref p,H,I,rfl,q⟩
def tyV(K:AE)(T:String)(x:V)(H:Hp):Prop:=match x with
 |.str _=>T="str"
 |.int _=>T="int"
 |.ref p=>(T="list"/\∃xs,SqL K H p xs) \/ (T="tuple"/\∃o,K.lookup p=AA o/\o.cls=.type "tuple"/\o.dict=AC) \/
   (T="dict"/\((∃kvs,H p=AA (.dK kvs)) \/ ∃kvs,H p=AA (.dT kvs))) \/ (T="set"/\∃S n,H p=AA (.set S n))
 |_=>False
theorem zlV{pins:List (AI×Bs)}{σ:St}{H:Hp}{s:AJ}{T:String}{x:V}{v:AF}(I:Inv X pins σ H s)(r:RelV x v)(ty:tyV X.K T x H):
  s.TypeIs v T/\∀a,v=.ref a->∃ob,s.heap.get? a=AA ob/\ob.dict=none:=by
 cases x with
 |str z=>
  let⟨t,rfl⟩:=r
  cases (show T="str" from ty)
  exact⟨G5 s z t,λ_ e=>nomatch e⟩
 |int i=>
  let⟨t,rfl⟩:=r
  cases (show T="int" from ty)
  exact⟨typeIs_int s i t,λ_ e=>nomatch e⟩
 |ref p=>
  cases r
  rcases ty with⟨rfl,xs,hq⟩|⟨rfl,o,hk,hc,hd⟩|⟨rfl,hk⟩|⟨rfl,S,n,hk⟩
  .let⟨its,_,pl,_⟩:=I.list hq;refine⟨pl.isList.typeIs,λa e=>?_⟩
   cases e
   let⟨o,n,e,c,hd,_⟩:=pl;exact⟨o,e,hd⟩
  .refine⟨⟨o,I.kIn p o hk,hc⟩,λa e=>?_⟩
   cases e
   exact⟨o,I.kIn _ o hk,hd⟩
  .have z:∃o,s.heap.get? p=AA o/\o.ExactDict:=by
    rcases hk with⟨kvs,hk⟩|⟨kvs,hk⟩
    .let⟨_,_,_,_,o,_,_,e,ex,_⟩:=I.hok p _ hk;exact⟨o,e,ex⟩
    .let⟨_,_,_,_,o,_,_,e,ex,_⟩:=I.hok p _ hk;exact⟨o,e,ex⟩
   let⟨o,e,ex⟩:=z;refine⟨⟨o,e,ex.1⟩,λa e2=>?_⟩
   cases e2
   exact⟨o,e,ex.2.1⟩
  .let⟨o,_,_,_,e,ex,_⟩:=I.hok p _ hk;refine⟨⟨o,e,ex.1⟩,λa e2=>?_⟩
   cases e2
   exact⟨o,e,ex.2.1⟩
 |_=>exact Bg ty
def tBM(K:AE)(T:String)(r:V->List V->Hp->VK->Prop)(to:TE)(t:TA):TE:=λσ H Q=>to σ H λx H1=>tyV K T x H1/\t σ H1 λxs H2=>r x xs H2 Q
variable {o e:AS}{es:List AS}{to:TE}{t:TA}{name:AQ}{apos cpos:CH}{T id:String}{r:V->List V->Hp->VK->Prop}
theorem zn8(pa:PlainAttrs T)(slot:Slot T name id)(hty:typeOf (.builtin id)=pure (.type "method_descriptor"))(hm:MtR X id r)(ho:PE X o to)(ha:PA X (e::es) t)
  (hbase:attributeBase o name X.env (eval o X.env)=eval o X.env:=by rfl)
  (hfew:((backTo cpos (starEach (e::es) X.env)).all (λx=>!x.1)&&(backToKw cpos (keywordEach [] X.env)).all (λx=>x.1.isSome)
   && decide ((e::es).length+([]:List CQ).length+(if ([]:List CQ).isEmpty then 0 else 1)<30))=true:=by rfl)
  (hline:(apos.endLine==cpos.line)=true:=by rfl) (hs:starEach (e::es) X.env=(AD,eval e X.env)::starEach es X.env:=by rfl) (hplain:(backTo cpos (starEach es X.env)).any (·.1)=false:=by rfl):
  PE X (.Call (.Attribute o name apos) (e::es) [] cpos) (tBM X.K T r to t):=by
 intro pins s σ H Q I h;refine wpAny_Call_method_late hbase hfew hline rfl (thn (ho pins s σ H _ I h) λv s1 kq=>?_);let⟨x,H1,I1,r1,ty,q1⟩:=kq;let⟨h1,h2⟩:=zlV I1 r1 ty;refine⟨T,id,pa,slot,hty,h1,h2,?_⟩;have hA:=ha cpos pins s1 σ H1 _ I1 q1;rw[hs]at hA ⊢;refine E9 (by show (AD || (backTo cpos (starEach es X.env)).any (·.1))=AD;rw[hplain]<;>rfl) (Es ?_);exact thn hA λus s2 ⟨vs,H2,I2,r2,q2⟩=>hm pins s2 σ H2 x vs v us Q I2 r1 r2 q2
/- xs.append(e),list.index on a module's tuple .. are MtR facts of 06m -/
end
def MtM(X:Cx)(id:String)(r:V->List V->Hp->VK->Prop):Prop:=
 ∀(pins:List (AI×Bs)) (s:AJ) (σ:St) (H:Hp) (x:V) (xs:List V) (v:AF) (us:List AF) (Q:VK),Inv X pins σ H s->RelV x v->Vals xs us->r x xs H Q ->
  A3 (model X.prog X.w) X.A (call (.builtin id) (v::us)) (EP X pins σ Q) X.xe s
theorem Vals.one:∀{x:V} {us:List AF},Vals [x] us->∃u,us=[u]/\RelV x u
 |_,_,.cons r .nil=>⟨_,rfl,r⟩
theorem Vals.reverse{xs:List V}{us:List AF}(h:Vals xs us):Vals xs.reverse us.reverse:=by
 induction h with
 |nil=>exact .nil
 |cons r t ih=>rw[DE,DE];exact Vals.append ih (.cons r .nil)
section
variable {X:Cx}{pins:List (AI×Bs)}{σ:St}{H:Hp}{s:AJ}{l b:AI}{xs ys zs:List V}
theorem Inv.lset{its its':List AF}{n:Nat}{f:Array AF->Array AF}{t':Nat}(I:Inv X pins σ H s)(hH:H l=AA (.lst xs))
  (e:s.heap.get? l=AA {cls:=.type "list",data:=.seq its.toArray n}) (hf:f its.toArray=its'.toArray) (hv:Vals ys its') (hz:ys.length<=sizeLine):
  Inv X pins σ (upd H l (.lst ys)) {s with heap:=s.heap.update l (E8 f),toks:=t'}:=by
 have q:=PySem.IsL.update e f;rw[hf]at q;refine I.write (x:=l) (e:=l) (by rw[hH];exact trivial) (.inl rfl) (λb' u hb hu=>(DD s.heap (E8 f) (BI hb)).trans hu) ⟨_,q⟩ ?_;exact⟨hz,its',_,hv,q⟩
theorem Inv.lnew{its:List AF}{t':Nat}(I:Inv X pins σ H s)(hv:Vals ys its)(hz:ys.length<=sizeLine):
  Inv X pins σ (upd H s.heap.objs.size (.lst ys)) {s with heap:=s.heap.push {cls:=.type "list",data:=.seq its.toArray},toks:=t'}:=
 I.laid (λ_ _ q=>AN _ q) (AU _) ⟨hz,its,0,hv,A0 _ rfl⟩
theorem Inv.fresh(I:Inv X pins σ H s):H s.heap.objs.size=none:=I.hok.fresh (AU _)
theorem Inv.lstM(I:Inv X pins σ H s)(hH:H l=AA (.lst xs)):xs.length<=sizeLine/\∃(its:List AF) (n:Nat),Vals xs its/\xs.length=its.length/\s.heap.get? l=AA {cls:=.type "list",data:=.seq its.toArray n}:=by
 let⟨z,its,n,r,e⟩:=I.hok l _ hH;exact⟨z,its,n,r,r.length,e⟩
end
section
variable {X:Cx}
def ycq:V->List V->Hp->VK->Prop:=λx vs H Q=>∃l xs y,x=.ref l/\vs=[y]/\H l=AA (.lst xs)/\xs.length<sizeLine/\Q .non (upd H l (.lst (xs++[y])))
theorem zes:MtM X "list.append" ycq:=by
 intro pins s σ H x vs v us Q I rx rv h;let⟨l,xs,y,rfl,rfl,hH,hz,q⟩:=h
 cases rx
 let⟨u,rfl,ru⟩:=rv.one;let⟨z,its,n,r,hl,e⟩:=I.lstM hH;refine call_meets El ⟨_,e,rfl⟩ F.entry_list_append (F.args_list_append_2 _ _) (PySem.list_append l its.toArray n u (by rw[AZ];lia)) ⟨e,?_⟩;refine⟨.non,_,I.lset (its':=its++[u]) hH e (by simp) (r.append (.cons ru .nil)) ?_,rfl,q⟩;rw[Bi,Em];lia
def yfQ:R2:=λx y H Q=>∃l b xs zs,x=.ref l/\y=.ref b/\H l=AA (.lst xs)/\H b=AA (.lst zs)/\xs.length+zs.length<=sizeLine/\∀p,H p=AC->Q (.ref p) (upd H p (.lst (xs++zs)))
theorem zlX:OpR X (binaryOp .Add) yfQ:=by
 intro pins s σ H x y v u Q I rx ry h;let⟨l,b,xs,zs,rfl,rfl,hH,hB,hz,q⟩:=h
 cases rx
 cases ry
 let⟨z,its,n,r,hl,e⟩:=I.lstM hH;let⟨z2,its2,n2,r2,hl2,e2⟩:=I.lstM hB;refine PySem.P.add_list e e2 ?_ (by rw[AZ,AZ];lia);have ea:its.toArray++its2.toArray=(its++its2).toArray:=by simp
 rw[ea];exact⟨.ref _,_,I.lnew (t':=s.toks) (r.append r2) (by rw[Bi];lia),rfl,q _ I.fresh⟩
end
section
variable {prog:A7}{w:Ag}{A:Am}{E:AF->AJ->Prop}{s:AJ}
end
section
variable {X:Cx}
end
end L2
namespace Att
open PySem PySem.W PySem.Calls PyProof.Rows
theorem zcu{P:Params}{h:Ay}:∀(ns:List Int) (vs:List AF),WellAll P h vs (ns.map HR)->FB vs ns:=by
 intro ns
 induction ns with
 |nil=>
  intro vs w;rw[Ar]at w
  cases w
  exact .nil
 |cons n ns ih=>
  intro vs w;rw[AO]at w
  cases w with
  |cons a b=>
   cases a
   exact .cons _ _ (ih _ b)
theorem zgL{l:EU}{n:Nat}(hn:l.most=AA n){P:Params}{h:Ay}{args:List WData}{vals:List AF}
  (hpre:l.row.toRowW.claim.pre args=AB) (hwl:WellAll P h vals args):
  ∃a vs ns,vals=[Af a]/\args=[WData.list (ns.map HR)]/\h.get? a=AA {cls:=.type "list",data:=.seq vs.toArray}/\FB vs ns/\ns.length<=n:=by
 have hsh:WShape.hasAll [] args [.list .int]=true:=(pre_splitW hpre).1;have hc:l.pre.holds [] {args:=args}=true:=(pre_splitW hpre).2;let⟨d,r,rfl,h1,h2⟩:=hasAllW_cons hsh;obtain rfl:=hasAllW_nil h2;let⟨xs,rfl,h3⟩:=hasW_list h1;let⟨ns,rfl⟩:=items_int h3;have hlen:ns.length<=n:=by
  unfold OpenLaw.pre at hc;have h4:(WTm.not (.lt (.lit (.int (n:Int))) (.len (.arg 0)))).holds [] {args:=[.list (ns.map .int)]}=true:=by
   have h4:=(holds_andW hc).1;rw[hn]at h4;exact h4
  have h5:=condW_of h4 (w_not (w_lt w_lit (w_len_list (w_arg rfl))));rw[BK]at h5;refine Nat.le_of_not_lt λq=>?_;have q':(n:Int)<((ns.length:Nat):Int):=by lia
  first
   |(rw[decide_eq_true q']at h5;exact absurd h5 (by decide))
   |(simp at h5;lia)
 cases hwl with
 |cons w1 w2=>
  cases w2
  cases w1 with
  |list ho hall=>exact⟨_,_,ns,rfl,rfl,ho,zcu ns _ hall,hlen⟩
theorem zgJ(l:EU)(args:List WData):l.row.toRowW.claim.post args (.bool AB) args=true:=
 postW_of (r:=l.row.toRowW) (X:=(AB==AB))
  (show HL [] (.bool AB) .bool=AB by first|rfl|decide|simp[HL,WShape.arms,WShape.armsAll])
  (show (WTm.eq .res (.lit (.bool AB))).value [] {args:=args,res:=AA (.bool AB),after:=args}=AA (.bool (AB==AB))from w_eq_bool (w_res rfl) w_lit) rfl
theorem attach_call{l:EU}{n:Nat}{q:A7}{loose:List AQ}{XP:(AQ->Option AF)->Ay->Prop}{YP:Ag->Ay->Prop}{d:DefRec}
  (hn:l.most=AA n) (hdf:d.params.defaults=[])
  (call:∀(w:Ag) (s₀ s₁:AJ) (mg mb:AQ->Option AF) (fa:AI) (o:Bs) (pm cd doc:AF) (a:AI) (vs:List AF) (ns:List Int),
   Ground q loose [] XP w s₀ mg mb s₁.heap->YP w s₁.heap ->
   s₁.heap.get? fa=AA o->o.data=.func (docDef d.name d.params d.body d.scope pm cd doc)->s₁.heap.CodeRec cd d.name->mg d.name=AA (.ref fa) ->
   s₁.heap.get? a=AA {cls:=.type "list",data:=.seq vs.toArray}->FB vs ns->ns.length<=n->s₁.gens=#[] ->
   codeAny (model l.prog w) callerA (.call (.ref fa) ⟨[.ref a],[]⟩) (λr s'=>r=.ok (.ret (.bool AB))/\OldK s₁.heap s'.heap/\s'.os=s₁.os/\DR s'.gens) s₁):
  GX q loose XP YP l.row.toRowW d [] (λf vs=>G6 f vs):=by
 intro w s₀ s₁ mg mb G Y fa o pm cd doc dV kV ho hd hcd hD hmg hg args vals as hpre hlay hrd hwl hlo;obtain rfl:dV=.none:=Dflts.none hD hdf;obtain rfl:kV=.none:=Dflts.noKw hD;let⟨a,vs,ns,rfl,rfl,hobj,hints,hlen⟩:=zgL hn hpre hwl;refine enter_call (D7 (call w s₀ s₁ mg mb fa o pm cd doc a vs ns G Y ho (fd_plain hd) hcd hmg hobj hints hlen hg) λr s' hq=>?_);let⟨rfl,h2,h3,h4⟩:=hq;exact⟨.inl ⟨.bool AB,.bool AB,[],rfl,λ_=>rfl,.bool AB,zgJ l _,λ_=>⟨HP,λ_ hm=>(nomatch hm)⟩⟩,h2,h3,h4⟩
section
variable {prog:A7}{w:Ag}{A:Am}{E:AF->AJ->Prop}{s:AJ}{K:AE}
end
end Att
namespace L2
open PySem PySem.Spec PyProof.Rows
theorem zeB:∀{vs:List AF} {ns:List Int},FB vs ns->Vals (ns.map V.int) vs
 |_,_,.nil=>.nil
 |_,_,.cons n t h=>.cons ⟨t,rfl⟩ (zeB h)
def Only(H:Hp):Prop:=∀b,H b=AC \/ ∃o xs,H b=AA (.frz o (.lst xs))
theorem ziB{P:A7}{w:Ag}{K:AE}{mg mb:AQ->Option AF}{CX:CXT}{k:Nat}{fa a:AI}{fd:Az}{x:AQ}{sp:Sp}{s₁:AJ}{vs:List AF}{ns:List Int}
  (KX:K.In s₁.heap) (hns:s₁.heap.Ns mainGlobals mg) (hb:s₁.heap.Ns builtinsNs mb) (hbb:∀x:AQ,x ≠ "__name__"->mb x=bootBuiltins x) (hlim:s₁.heap.NoLimit) (hg:s₁.gens=#[])
  (ha:s₁.heap.get? a=AA {cls:=.type "list",data:=.seq vs.toArray}) (hi:FB vs ns) (hl:ns.length<=sizeLine) (hr:yan k callerA)
  (F:∀base:Ay,K.In base->base.Ns mainGlobals mg->yaE P w K mg base CX k fa fd [x] sp) (hbind:∀(s:AJ) (u:AF),Ez s fd ⟨[u],[]⟩ [(x,u)])
  (hsp:∀H:Hp,Only H->SqL K H a (ns.map V.int)->sp [.ref a] H (λv _=>v=.bl AB) λ_ _ _=>False)
  (hCX:∀H e s',CX [] H s₁ (λ_ _ _=>False) e s'->False):
  codeAny (model P w) callerA (.call (.ref fa) ⟨[.ref a],[]⟩) (λr s'=>r=.ok (.ret (.bool AB))/\OldK s₁.heap s'.heap/\s'.os=s₁.os/\DR s'.gens) s₁:=by
 have rv:=zeB hi;have lenV:=hi.length;have core:∀H:Hp,Only H->SqL K H a (ns.map V.int)->HOk P w H s₁.heap->(∀b,H b≠AC->b=a)->(H a≠AC->K.lookup a=AC) ->
   codeAny (model P w) callerA (.call (.ref fa) ⟨[.ref a],[]⟩) (λr s'=>r=.ok (.ret (.bool AB))/\OldK s₁.heap s'.heap/\s'.os=s₁.os/\DR s'.gens) s₁:=by
  intro H hO hS hok hA hK;have base_of:∀{b:AI} {o:Bs},s₁.heap.get? b=AA o->H b=AC->(yb1 s₁.heap H).get? b=AA o:=λe n=>ziJ e n;have noA:∀{b:AI} {o:Bs} {es:Array By} {ep:Nat},s₁.heap.get? b=AA o->o.data=.dict es ep->H b=none:=λ{b o es ep} e d=>by
   cases q:H b with
   |none=>rfl
   |some u=>
    have e':b=a:=hA b (by rw[q];simp);subst e';rw[ha]at e;cases e;have d':Data.seq vs.toArray _=Data.dict es ep:=d
    cases d'
  have nsK:∀{b:AI} {m:AQ->Option AF},s₁.heap.Ns b m->(yb1 s₁.heap H).Ns b m:=λ{b m} ⟨o,es,ep,e,d,r⟩=>⟨o,es,ep,base_of e (noA e d),d,r⟩;have hKb:K.In (yb1 s₁.heap H):=λb o e=>base_of (KX b o e) (by
   cases q:H b with
   |none=>rfl
   |some u=>
    have e':b=a:=hA b (by rw[q];simp);subst e';rw[hK (by rw[q];simp)]at e;cases e)
  have hM:Mod K mg (yb1 s₁.heap H):=⟨hKb,nsK hns,⟨mb,nsK hb,hbb⟩,let ⟨mc,h1,h2⟩:=hlim;⟨mc,nsK h1,h2⟩⟩;have e0:ycu P w K mg (yb1 s₁.heap H) callerA [] s₁ H:=⟨rfl,hM,λb o e=>zkC e,Gk (zhl _ _),trivial,λb hb=>absurd (show b∈([]:List AI)from hb) (by simp),hok,.of_eq hg⟩;refine D7 ((F _ hKb (nsK hns)).run callerA [] s₁ H ⟨[.ref a],[]⟩ [.ref a] [.ref a] _ _ hr e0 (hbind s₁ (.ref a)) (.cons rfl .nil) (hsp H hO hS)) λr s' h=>?_
  cases r with
  |error e=>exact(hCX H e s' h).elim
  |ok fl=>
   cases fl with
   |next=>exact Bg h
   |brk=>exact Bg h
   |cont=>exact Bg h
   |ret u=>
    let⟨v,H',os,bare,un,hok',r',q⟩:=h;have q':v=.bl true:=q;subst q';obtain rfl:u=Da true:=r';refine⟨rfl,OldK.of_keep λb o e=>?_,os,bare⟩
    cases q:H b with
    |none=>exact un.keep b o e q (by intro z;exact absurd (show b∈([]:List AI)from z) (by simp)) (by simp)
    |some u=>
     rcases hO b with z|⟨ob,xs,z⟩
     .rw[q]at z;cases z
     .have z2:=un.frzs b ob _ z;let⟨e1,_⟩:=hok b _ z;let⟨e2,_⟩:=hok' b _ z2;rw[e]at e1;cases e1;exact e2
 cases hk:K.lookup a with
 |some o=>
  have e:=KX a o hk;rw[ha]at e
  cases e
  refine core (λ_=>AC) (λ_=>.inl rfl) (.inr ⟨_,vs.toArray,_,hk,rfl,rfl,rfl,by rw[AZ,lenV];exact hl,by simpa using rv⟩) (λb u z=>by have z':(AC:Option HO)=AA u:=z;cases z') (λb z=>absurd rfl z) λz=>absurd rfl z
 |none=>
  refine core (λb=>if b=a then AA (.frz {cls:=.type "list",data:=.seq vs.toArray} (.lst (ns.map V.int)))else AC) (λb=>?_) (.inl (.inr ⟨{cls:=.type "list",data:=.seq vs.toArray},if_pos rfl⟩)) (λb u z=>?_) (λb z=>?_) λ_=>hk
  .by_cases hb:b=a
   .exact .inr ⟨_,_,if_pos hb⟩
   .exact .inl (if_neg hb)
  .by_cases hb:b=a
   .have z':=(if_pos hb).symm.trans z
    cases z'
    subst hb;exact⟨ha,by rw[BK];exact hl,vs,_,rv,ha⟩
   .have z':=(if_neg hb).symm.trans z
    cases z'
  .by_cases hb:b=a
   .exact hb
   .exact absurd (if_neg hb) z
theorem walk_of{l:EU}{n k:Nat}{q:A7}{loose:List AQ}{XP:(AQ->Option AF)->Ay->Prop}{YP:Ag->Ay->Prop}{d:DefRec}{K:Params->AE}{CX:Ag->CXT}{sp:Ag->Sp}{x:AQ}
  (hn:l.most=AA n) (hn2:n<=sizeLine) (hdf:d.params.defaults=[]) (hr:yan k callerA)
  (hY:∀(w:Ag) (h:Ay),YP w h->(K w.params).In h)
  (F:∀(w:Ag) (mg:AQ->Option AF) (fa:AI) (h:Ay),(K w.params).In h->h.Ns mainGlobals mg->mg d.name=AA (.ref fa) ->
   ∃fd:Az,(∀(s:AJ) (u:AF),Ez s fd ⟨[u],[]⟩ [(x,u)]) /\
    ∀base:Ay,(K w.params).In base->base.Ns mainGlobals mg->yaE l.prog w (K w.params) mg base (CX w) k fa fd [x] (sp w))
  (hsp:∀(w:Ag) (H:Hp) (a:AI) (ns:List Int),ns.length<=n->Only H->SqL (K w.params) H a (ns.map V.int)->sp w [.ref a] H (λv _=>v=.bl AB) λ_ _ _=>False)
  (hCX:∀(w:Ag) (H:Hp) (s:AJ) (e:AF) (s':AJ),CX w [] H s (λ_ _ _=>False) e s'->False):
  GX q loose XP YP l.row.toRowW d [] (λf vs=>G6 f vs):=by
 refine Att.attach_call hn hdf λw s₀ s₁ mg mb fa o pm cd doc a vs ns G Y ho hd hcd hmg hobj hints hlen hg=>?_;have KX:=hY w _ Y;let⟨fd,hb,hF⟩:=F w mg fa _ KX G.T.g hmg;exact ziB KX G.T.g G.T.b G.T.builtins G.T.nolimit hg hobj hints (BQ hlen hn2) hr hF hb (λH hO hS=>hsp w H a ns hlen hO hS) λH e s'=>hCX w H s₁ e s'
def inClass(s:Bn)(j:Nat):Stmt:=match s with
 |.ClassDef _ _ _ body _ _ _ _ _ _ _=>body.getD j (.Pass ⟨0,0,0,0⟩)
 |_=>.Pass ⟨0,0,0,0⟩
def yZ(s:Bn):Arguments:=match s with
 |.FunctionDef _ a _ _ _ _ _ _ _ _=>a
 |_=>{posonlyargs:=[],args:=[],vararg:=AC,kwonlyargs:=[],kw_defaults:=[],kwarg:=AC,defaults:=[]}
def yS(s:Bn):List Stmt:=match s with
 |.FunctionDef _ _ b _ _ _ _ _ _ _=>b
 |_=>[]
def yw(s:Bn):Scope:=match s with
 |.FunctionDef _ _ _ _ _ _ sc _ _ _=>sc
 |_=>{kind:=.function,names:=[],isGenerator:=AD,isCoroutine:=AD}
structure Fun(K:AE)(x qual:AQ)(st:Bn)(f:AI)(fd:Az):Prop where
 ex:∃(oc:AF) (od:Option AI) (kV doc pm:AF) (an:Option AI) (cdv ct:AF) (osl:Array (Option AF)),
  fd=BX x qual (yZ st) (yS st) (yw st) .none kV doc pm an cdv ct/\K.lookup f=AA ⟨oc,od,.func fd,osl⟩/\CA K cdv qual=AB
 kp:An K (.ref f)=AB
section
variable {P:A7}{w:Ag}{K:AE}{mg:AQ->Option AF}{base:Ay}
theorem Fun.binds{x qual:AQ}{st:Bn}{f:AI}{fd:Az}{ps:List AQ}(F:Fun K x qual st f fd)
  (h:∀(kV doc pm:AF) (an:Option AI) (cdv ct:AF) (us:List AF),us.length=ps.length->bindArgs (BX x qual (yZ st) (yS st) (yw st) .none kV doc pm an cdv ct) ⟨us,[]⟩=pure (ps.zip us)):Binds K fd ps []:=by
 let⟨oc,od,kV,doc,pm,an,cdv,ct,osl,rfl,lk,hcd⟩:=F.ex;exact .all (h kV doc pm an cdv ct)
end
theorem zkb{A:Am}{k:Nat}(hr:yan k A):A.units+1<cLine:=Nat.lt_of_le_of_lt (Nat.add_le_add_left (by decide:1<=64) _) hr.units
section
variable {X:Cx}
end
end L2
namespace WE
open PySem PySem.Spec PyProof.Rows
open AutoSeq1 (wpAny_loadPart')
section
variable {pg:A7}{wd:Ag}{A:Am}{Er:AF->AJ->Prop}{s:AJ}
theorem zbO{it t:AI}{i:Nat}{xs:Array AF}{x:AF}{Q:AF->AJ->Prop}(hi:s.heap.IsTupleIter it t i)(ht:s.heap.IsTuple t xs)(hx:xs[i]?=AA x)
  (k:∀h',h'.IsTupleIter it t (i+1)->C1 it s.heap h'->Q x {s with heap:=h'}):A3 (model pg wd) A (BL (.ref it)) Q Er s:=by
 let⟨oi,gi,ci,di⟩:=id hi;let⟨ot,gt,_,nt,dt⟩:=ht;unfold BL;refine AH (B8 (name:=AG "__next__") hi.typeIs CB (CT CB hi.typeIs D8 ?_ (D1 _)));show A3 _ _ (field (.ref it) 0 >>= _) _ _ _;refine AH (BM gi di (x:=.ref t) rfl ?_);show A3 _ _ (if (Af t==Bz)=AB then _ else _) _ _ _;rw[if_neg (show ¬((Af t==Bz)=AB)from λz=>Av z)];show A3 _ _ (field (.ref it) 1 >>= _) _ _ _;refine AH (BM gi di (x:=.int i 0) rfl ?_);show A3 _ _ (seqItems? (.ref t) >>= _) _ _ _;refine AH (CU gt dt ?_);erw[CJ,hx];refine AH (Et gi di (by simp) (AV ⟨x,rfl,AV (k _ ?_ (FF ..))⟩));refine⟨_,Ek _ gi (Obj.isFreed_of_fields (F0 di _)),(Obj.cls_mapFields ..).trans ci,?_⟩;rw[F0 di];simp[rawInt]
theorem zeD{it t:AI}{i:Nat}{xs:Array AF}{Q:AF->AJ->Prop}(hh:A.handled=AC)(hi:s.heap.IsTupleIter it t i)(ht:s.heap.IsTuple t xs)(hx:xs[i]?=AC)
  (k:∀h' e,Heap.ExtBut it s.heap h'->(∃o,h'.get? e=AA o/\o.cls=.type "StopIteration")->Er (.ref e) {s with heap:=h'}):A3 (model pg wd) A (BL (.ref it)) Q Er s:=by
 let⟨oi,gi,ci,di⟩:=id hi;let⟨ot,gt,_,nt,dt⟩:=ht;unfold BL;refine AH (B8 (name:=AG "__next__") hi.typeIs CB (CT CB hi.typeIs D8 ?_ (D1 _)));show A3 _ _ (field (.ref it) 0 >>= _) _ _ _;refine AH (BM gi di (x:=.ref t) rfl ?_);show A3 _ _ (if (Af t==Bz)=AB then _ else _) _ _ _;rw[if_neg (show ¬((Af t==Bz)=AB)from λz=>Av z)];show A3 _ _ (field (.ref it) 1 >>= _) _ _ _;refine AH (BM gi di (x:=.int i 0) rfl ?_);show A3 _ _ (seqItems? (.ref t) >>= _) _ _ _;refine AH (CU gt dt ?_);erw[CJ,hx];refine AH (EV (AH (Et gi di (by simp) ?_)));show A3 _ _ (newExc (.type "StopIteration") [] >>= _) _ _ _;refine AH ?_;erw[newExc,newTuple];refine AH (Bf ?_ (by size_fits));refine AH (m:=firstArgMember _ _) (wpAny_of_eq (a:=Bz) (by first|rfl|(erw[firstArgMember];rfl)) ?_);refine Bf ?_ (by size_fits);erw[raiseNew];refine AH (wpAny_handled ?_);first|rw[show A.in1.handled=AC from hh]|rw[hh]
 refine AH (AV (wpAny_throw ?_));exact k _ _ (((FF ..).extBut.push _).push _) ⟨_,A0 _ rfl,rfl⟩
end
theorem draws_tuple{pg:A7}{wd:Ag}{A:Am}(hh:A.handled=AC)(it t:AI)(hne:t≠it)(xs:Array AF):
  Draws pg wd A it [it,t] xs.size (λi v=>xs[i]?=AA v) (λi h=>h.IsTupleIter it t i/\h.IsTuple t xs) where
 live:=λ_ _ st=>let ⟨o,g,_⟩:=st.1;⟨o,g⟩
 frame:=λ_ _ _ st kp=>⟨let ⟨o,g,r⟩:=st.1;⟨o,kp it (by simp) o g,r⟩,let ⟨o,g,r⟩:=st.2;⟨o,kp t (by simp) o g,r⟩⟩
 item:=λi s Q E hi st hQ=>zbO st.1 st.2 (x:=xs[i]) (by simp[hi]) λh' hit' hs'=>hQ _ h' s.toks (by simp[hi]) ⟨hit',st.2.extBut hs'.extBut hne⟩ hs'
 done:=λs Q E st hE=>zeD hh st.1 st.2 (by simp) hE
theorem zfb(l:AI)(xs:Array AF)(n:Nat)(dc:Option AI)(sl:Array (Option AF)):
  Meets (Gn.«enumerate.__new__» ⟨[.type "enumerate",.ref l],[]⟩) (λ_ R s=>s.heap.get? l=AA {cls:=.type "tuple",dict:=dc,data:=.seq xs n,slots:=sl} /\
   R (.ok (.ret (.ref (s.heap.push {cls:=.type "tuple_iterator",data:=.fields #[.ref l,.int 0 0]}).objs.size)))
    {s with heap:=(s.heap.push {cls:=.type "tuple_iterator",data:=.fields #[.ref l,.int 0 0]}).push {cls:=.type "enumerate",data:=.fields #[.none,.bool AD,.ref s.heap.objs.size,rawInt 0,.none,.none]} }):=
 .of_wp λprog w A R s h=>by
  let⟨hp,g,d,tk,os⟩:=s;let⟨gl,h⟩:=h;have hsub:=sub_enumerate;have hT:Fe (GO ⟨hp,g,d,tk,os⟩) l xs:=⟨_,gl,rfl,n,rfl⟩
  wp_walk using wpAny_loadPart' gl
  refine wpAny_stack_any λst=>AV ?_;split
  .rename_i c _ _ _ _ _
   cases (c==FX "enumerate")
   .wp_walk using wpAny_loadPart' gl,Bj hT
    exact⟨_,rfl,h⟩
   .wp_walk using wpAny_loadPart' gl,Bj hT
    exact⟨_,rfl,h⟩
  .wp_walk using wpAny_loadPart' gl,Bj hT
   exact⟨_,rfl,h⟩
theorem call_enumT{pg:A7}{wd:Ag}{A:Am}{Er:AF->AJ->Prop}{s:AJ}{l:AI}{xs:Array AF}{Q:AF->AJ->Prop}(hT:s.heap.IsTuple l xs)
  (k:∀h',IsEnum h' (s.heap.objs.size+1) s.heap.objs.size 0 .none->h'.IsTupleIter s.heap.objs.size l 0->h'.objs.size=s.heap.objs.size+2 ->
   (∀b o,s.heap.get? b=AA o->h'.get? b=AA o)->Q (.ref (s.heap.objs.size+1)) {s with heap:=h'}):A3 (model pg wd) A (call (.type "enumerate") [.ref l]) Q Er s:=by
 let⟨⟨c,dct,dt,sl⟩,gl,hc,n,hd⟩:=hT
 cases (show c=.type "tuple" from hc)
 cases (show dt=.seq xs n from hd)
 refine callType_new F.called_enumerate (by decide) (F.typeCall_enumerate_1 _) (F.newCall_enumerate_1 _) (λobj=>F.args_object_init_2 obj _) F.entry_enumerate_new (zfb l xs n dct sl) ⟨gl,?_⟩;have hz:(s.heap.push {cls:=.type "tuple_iterator",data:=.fields #[.ref l,.int 0 0]}).objs.size=s.heap.objs.size+1:=Bl ..;show _/\_;rw[hz];have he:IsEnum ((s.heap.push {cls:=.type "tuple_iterator",data:=.fields #[.ref l,.int 0 0]}).push {cls:=.type "enumerate",data:=.fields #[.none,.bool AD,.ref s.heap.objs.size,rawInt 0,.none,.none]}) (s.heap.objs.size+1) s.heap.objs.size 0 .none:=by
  have q:=A0 (s.heap.push {cls:=.type "tuple_iterator",data:=.fields #[.ref l,.int 0 0]}) (o:={cls:=.type "enumerate",data:=.fields #[.none,.bool AD,.ref s.heap.objs.size,rawInt 0,.none,.none]}) rfl;rw[hz]at q;exact q
 exact⟨⟨_,he,rfl⟩,k _ he ⟨_,AN _ (A0 _ rfl),rfl,rfl⟩ (by rw[Bl,hz]) λb o y=>AN _ (AN _ y)⟩
end WE
namespace L2
open PySem PySem.Spec PyProof.Rows
section
variable {X:Cx}
def yc7(i j:Int):Prop:=0<j/\j<10000000000000000000000000000000000000000000000000000000000000000000000
theorem ziv:OpR X (binaryOp .FloorDiv) (rI yc7 λi j=>.int (i/j)):=opI λi j _ _ _ _ _ hc q=>by
 let⟨h1,h2⟩:=hc;refine floordiv_int (by lia) (by rw[Di i (by lia)];exact q) (.inl (PyProof.noPylong_of_log2 ?_));have h0:j.natAbs≠0:=by lia
 refine A6 ((Nat.log2_lt h0).mpr (?_:j.natAbs<2^250)) (by decide);have e:(10000000000000000000000000000000000000000000000000000000000000000000000:Nat)<2^250:=by decide
 lia
end
section
variable {X:Cx}{pins:List (AI×Bs)}{σ:St}{H:Hp}{s:AJ}{h':Ay}
theorem Inv.turnLaid{t':Nat}{ch:List AI}{T:AI}{o:HO}(I:Inv X pins σ H s)(hf:∀b∈ch,ybf X pins H b)(k:∀b u,b∉ch->s.heap.get? b=AA u->h'.get? b=AA u)
  (hp:s.heap.objs.size<=T) (new:yP X.prog X.w (upd H T o) h' T o):Inv X pins σ (upd H T o) {s with heap:=h',toks:=t'}:=by
 have hn:H T=none:=I.hok.fresh hp;have nch:∀b u,H b=AA u->b∉ch:=λb u e z=>by
  have q:=(hf b z).1;rw[e]at q
  cases q
 refine I.step (g':=s.gens) (d':=s.drawn) (ch:=ch) (λb hb=>?_) (λb u _ _ hc e _=>k b u hc e) (λb u _ _ hc e _=>⟨u.slots,k b u hc e⟩) (λb u _ e n=>?_) (λb u hc e=>⟨u,k b u hc e⟩) (λb xs e=>?_) (λb u v e=>?_) (λb ps e=>⟨#[],?_⟩) (λm hm=>?_) (λb u e=>?_) I.bare
 .let⟨f0,f1,f2,f3,f4,f5⟩:=hf b hb;exact⟨f3,f1,f4,f5⟩
 .rw[zh (Ah (A6 (AW e) hp))];exact n
 .rw[zh (zl e hn)];exact e
 .rw[zh (zl e hn)];exact e
 .rw[zh (zl e hn),e];simp
 .let⟨ob,es,ep,ho,r⟩:=hm;exact⟨ob,es,ep,k _ ob (λz=>(hf _ z).2.1 rfl) ho,r⟩
 .by_cases hb:b=T
  .subst hb;rw[zp]at e
   cases e
   exact new
  .rw[zh hb]at e;refine(I.hok b u e).stay (λc v hc q=>k c v ?_ q) (λc q=>by rw[zh (zl q hn)];exact q) λc xs q=>by rw[zh (zl q hn)];exact q
   rcases hc with z|z
   .rw[z];exact nch b u e
   .exact nch c _ z
theorem Inv.turnedL{t':Nat}{ch:List AI}(I:Inv X pins σ H s)(hf:∀b∈ch,ybf X pins H b)(k:∀b u,b∉ch->s.heap.get? b=AA u->h'.get? b=AA u):Inv X pins σ H {s with heap:=h',toks:=t'}:=by
 have nch:∀b u,H b=AA u->b∉ch:=λb u e z=>by
  have q:=(hf b z).1;rw[e]at q
  cases q
 refine I.step (g':=s.gens) (d':=s.drawn) (ch:=ch) (λb hb=>?_) (λb u _ _ hc e _=>k b u hc e) (λb u _ _ hc e _=>⟨u.slots,k b u hc e⟩) (λ_ _ _ _ n=>n) (λb u hc e=>⟨u,k b u hc e⟩) (λ_ _ e=>e) (λ_ _ _ e=>e) (λb ps e=>⟨#[],by rw[e];simp⟩) (λm hm=>?_) (λb u e=>?_) I.bare
 .let⟨f0,f1,f2,f3,f4,f5⟩:=hf b hb;exact⟨f3,f1,f4,f5⟩
 .let⟨ob,es,ep,ho,r⟩:=hm;exact⟨ob,es,ep,k _ ob (λz=>(hf _ z).2.1 rfl) ho,r⟩
 .refine(I.hok b u e).stay (λc v hc q=>k c v ?_ q) (λ_ q=>q) λ_ _ q=>q;rcases hc with z|z
  .rw[z];exact nch b u e
  .exact nch c _ z
end
def Ite(K:AE)(a:AI):It:=
 ⟨λi H=>∃xs x,SqT K H a xs/\xs[i]?=AA x,λi H x H'=>∃T,H T=AC/\x=.ref T/\∀xs y,SqT K H a xs->xs[i]?=AA y->H'=upd H T (.tup [.int i,y]),λi H=>∃xs,SqT K H a xs/\xs.length=i⟩
theorem zdp{h:Ay}{a b:AI}{o u:Bs}(x:h.get? a=AA o)(y:h.get? b=AA u)(z:o.cls≠u.cls):a≠b:=λe=>by
 subst e;rw[x]at y
 cases y
 exact z rfl
theorem zge{P:A7}{w:Ag}{K:AE}{es:List AS}{kk:Nat}{pos:CH}(a e it:AI):
  Turn P w K (.Tuple es kk pos) (Ite K a) [e,it] e (λi h=>(∃old,IsEnum h e it i old)/\h.IsTupleIter it a i) where
 mem:=by simp
 obj:=λi h st b hb=>by
  let⟨⟨old,he⟩,oi,gi,ci,di⟩:=st;rcases Ad.mp hb with z|z
  .subst z;exact⟨_,he,λv y=>nomatch y⟩
  .have z:b=it:=by simpa using z
   subst z;exact⟨oi,gi,λv y=>by rw[di]at y;cases y⟩
 keep:=λi h h' st k=>by
  let⟨⟨old,he⟩,oi,gi,r⟩:=st;exact⟨⟨old,k e (by simp) _ he⟩,oi,k it (by simp) _ gi,r⟩
 item:=by
  intro X hP hw hK hc i pins s σ H E I hf st hg;subst hP hw hK;let⟨xs,x,hq,hx⟩:=hg;let⟨its,rv,p,hz⟩:=I.tuple hq;let⟨⟨old,he⟩,hi⟩:=st;let⟨oi,gi,ci,di⟩:=id hi;let⟨oa,ga,ca,na,da⟩:=id p;have nai:a≠it:=zdp ga gi (by rw[ca,ci];exact λz=>absurd (Cb z) (by decide));have nei:e≠it:=zdp he gi (by rw[ci];exact λz=>absurd (Cb z) (by decide));have nea:e≠a:=zdp he ga (by rw[ca];exact λz=>absurd (Cb z) (by decide));have hl:=rv.length;have hil:i<its.toArray.size:=by
   have:=(BE.mp hx).1;simpa using (by lia:i<its.length)
  have W:=Ff (prog:=X.prog) (w:=X.w) (A:=X.A) (WE.draws_tuple (pg:=X.prog) (wd:=X.w) (A:=X.A.in1) (I.ok.hd hc) it a nai its.toArray) e nei (by simp[nei,nea]) (by simp);refine W.item i s _ E hil ⟨⟨old,he⟩,hi,p⟩ λT vals h1 tk hP hsz hT mid kp=>⟨.ref T,rfl,?_⟩;refine W.go es kk pos i T _ _ E mid λh2 st2 kp2=>?_;let⟨t,y,hy,rfl⟩:=hP;let⟨u,hu,ru⟩:=rv.get hx;have ey:y=u:=AY (hy.symm.trans (by simpa using hu));subst ey;have hch:∀b o,b∉[e,it]->s.heap.get? b=AA o->h2.get? b=AA o:=λb o hb q=>kp2 b o hb (kp b o hb q);have hTw:=W.apart i T h1 mid;have new:yP X.prog X.w (upd H T (.tup [.int i,x])) h2 T (.tup [.int i,x]):=by
   let⟨o,g,r⟩:=hT;exact⟨by show 2<=sizeLine;decide,[.int i t,y],.cons ⟨t,rfl⟩ (.cons ru .nil),o,kp2 T o hTw g,r⟩
  have I2:=I.turnLaid (t':=tk) hf hch hsz new;refine⟨.ref T,_,I2,rfl,⟨T,I.hok.fresh hsz,rfl,λys z hy' hz'=>?_⟩,⟨st2.1,st2.2.1⟩,λb hb=>?_⟩
  .rw[I.tuple_inj hy' hq]at hz';rw[hx]at hz'
   cases hz'
   rfl
  .rw[zh (λz:b=T=>hTw (z ▸ hb))];exact(hf b hb).1
 done:=by
  intro X hP hw hK hc i pins s σ H E I hf st hg;subst hP hw hK;let⟨xs,hq,hx⟩:=hg;let⟨its,rv,p,hz⟩:=I.tuple hq;let⟨⟨old,he⟩,hi⟩:=st;let⟨oi,gi,ci,di⟩:=id hi;let⟨oa,ga,ca,na,da⟩:=id p;have nai:a≠it:=zdp ga gi (by rw[ca,ci];exact λz=>absurd (Cb z) (by decide));have nei:e≠it:=zdp he gi (by rw[ci];exact λz=>absurd (Cb z) (by decide));have nea:e≠a:=zdp he ga (by rw[ca];exact λz=>absurd (Cb z) (by decide));have hl:=rv.length;have W:=Ff (prog:=X.prog) (w:=X.w) (A:=X.A) (WE.draws_tuple (pg:=X.prog) (wd:=X.w) (A:=X.A.in1) (I.ok.hd hc) it a nai its.toArray) e nei (by simp[nei,nea]) (by simp);have en:its.toArray.size=i:=by simp;lia
  refine W.done s _ E (by rw[en];exact⟨⟨old,he⟩,hi,p⟩) λh2 tk kp=>⟨rfl,I.turnedL (t':=tk) hf kp⟩
 self:=λ_ _ _ _ _ st q=>by
  let⟨⟨old,he⟩,_⟩:=st;exact Fg he q
def yfo(K:AE)(ta:TA):TI:=λσ H R=>ta σ H λvs H1=>∃a,vs=[.ref a]/\(∃xs,SqT K H1 a xs)/\R (Ite K a) H1
theorem zi0{X:Cx}{a:AS}{es:List AS}{kk:Nat}{tp:CH}{ta:TA}{p pos:CH}(hg:Gl X "enumerate")(hm:X.mg "enumerate"=AC)(ha:PA X [a] ta)(hs:starEach [a] X.env=[(AD,eval a X.env)]:=by rfl):
  PI X (.Tuple es kk tp) (.Call (.Name "enumerate" p) [a] [] pos) (yfo X.K ta):=by
 intro pins s σ H R I h;refine BT (zdq I hg hm boot_enumerate ?_);refine Bu (thn (ha pos pins s σ H _ I h) λus s1 kq=>?_) hs rfl;let⟨vs,H1,I1,r1,q1⟩:=kq;let⟨l,rfl,⟨xs,hq⟩,q⟩:=q1;let⟨u,rfl,ru⟩:=Vals.one r1
 cases (show u=Af l from ru)
 let⟨its,rv,pt,hz⟩:=I1.tuple hq;refine WE.call_enumT (show s1.heap.IsTuple l its.toArray from pt) λh1 he hi hsz kp=>?_;refine Fg he ?_;refine⟨_,[s1.heap.objs.size+1,s1.heap.objs.size],_,_,H1,rfl,I1.kept (t':=s1.toks) kp,zge l _ s1.heap.objs.size,⟨⟨_,he⟩,hi⟩,λb hb=>?_,q⟩;have hb2:s1.heap.objs.size<=b:=by
  rcases Ad.mp hb with z|z
  .subst z;exact Ca _
  .have z:b=s1.heap.objs.size:=by simpa using z
   subst z;exact AU _
 exact I1.fpOk hb2 (I1.hok.fresh hb2)
abbrev No:AF->AJ->Prop:=λ_ _=>False
abbrev ydc(ifs:List AS)(env:Env):Gd Bool:=forIn ifs AB λc r=>if r=AB then do let ok <-isTrue c env (eval c env);pure (GS ok)else pure (GS r)
section
variable {pg:A7}{wd:Ag}{A:Am}{R:G2->AJ->Prop}{s:AJ}
theorem zg1{elt tg iter:AS}{ifs:List AS}{sc:Bc}{pos:CH}{it acc:AF}{env:Env}(I:Nat->AJ->Prop)
  (turn:∀n s,I n s->A3 (model pg wd) A (pyNext it) (λr s1=>match r with
   |none=>R (.ok .next) s1
   |some v=>A3 (model pg wd) A (letOwnedTupleGo tg it v) (λ_ s2=>A3 (model pg wd) A (assign tg env v) (λ_ s3=>A3 (model pg wd) A (ydc ifs env) (λok s4=>
     if ok=AB then A3 (model pg wd) A (eval elt env) (λx s5=>A3 (model pg wd) A (call (.builtin "list.append") [acc,x]) (λ_ s6=>∃m,m<n/\I m s6) No s5) No s4
     else ∃m,m<n/\I m s4) No s3) No s2) No s1) No s)
  (n:Nat) (h:I n s):codeAny (model pg wd) A (.compLoop (.ListComp elt [⟨tg,iter,ifs,0⟩] sc pos) 0 it acc env) R s:=by
 refine codeAny_loop rfl I (λn s hI=>?_) n h;show A3 _ A ((compTurn (.ListComp elt [⟨tg,iter,ifs,0⟩] sc pos) 0 it acc env).onRaise (λx=>do noteFrame x env;theTreesLotGoes x)) _ _ s;refine wpAny_noted ?_;rw[compTurn_list];refine AH (EI (AH (CL (turn n s hI) (λr s1 h1=>?_) λ_ _ f=>f.elim)))
 cases r with
 |none=>exact AV h1
 |some v=>
  refine AH (CL h1 (λ_ s2 h2=>AH (CL h2 (λ_ s3 h3=>AH (CL h3 (λok s4 h4=>?_) λ_ _ f=>f.elim)) λ_ _ f=>f.elim)) λ_ _ f=>f.elim)
  cases ok with
  |false=>exact AV ⟨rfl,h4⟩
  |true=>exact AH (AH (CL h4 (λx s5 h5=>AH (CL h5 (λ_ s6 h6=>AV (AV ⟨rfl,h6⟩)) λ_ _ f=>f.elim)) λ_ _ f=>f.elim))
end
def yae(env:Env)(r:List (AQ×AI))(x:AQ×DB):List (AQ×AI):=if x.2=.free then(x.1,(env.cells.lookup x.1).getD 0)::r else r
def ydb(sc:Bc)(env:Env):List (AQ×AI):=sc.names.foldl (yae env) []
theorem zf9{α β:Type}{l:List α}{f:α->β->Gd (ForInStep β)}{g:β->α->β}(h:∀x∈l,∀c,f x c=pure (.yield (g c x))):∀c:β,forIn l c f=pure (l.foldl g c):=by
 induction l with
 |nil=>exact λ_=>rfl
 |cons x l ih=>
  intro c;rw[Eh,h x BA,pure_bind,D2];exact ih (λy hy=>h y (AX _ hy)) (g c x)
theorem zcs{sc:Bc}{env:Env}(hf:∀y∈sc.names,y.2=.free->∃c,env.cells.lookup y.1=AA c):closureFor sc env=pure (ydb sc env):=by
 erw[closureFor];rw[zf9 (g:=yae env) (λx hx c=>?_)]
 .rfl
 .let⟨n,k⟩:=x
  by_cases hk:k=.free
  .subst hk;let⟨a,ha⟩:=hf _ hx rfl;have ha':env.cells.lookup n=AA a:=ha;simp[yae,cellOf,ha']
  .have hb:(k==C5)=false:=by simpa using hk
   simp[yae,hk,hb]
theorem zdh{env:Env}:∀(l:List (AQ×DB)) (r:List (AQ×AI)),(∀y∈l,y.2=.free->∃c,env.cells.lookup y.1=AA c)->(∀x c,r.lookup x=AA c->env.cells.lookup x=AA c) ->
  ∀x c,(l.foldl (yae env) r).lookup x=AA c->env.cells.lookup x=AA c
 |[],r,_,h=>h
 |y::l,r,hf,h=>by
  refine zdh l (yae env r y) (λz hz=>hf z (AX _ hz)) λx c e=>?_;unfold yae at e
  by_cases hk:y.2=.free
  .let⟨a,ha⟩:=hf y BA hk;rw[if_pos hk,B9]at e
   cases hx:x==y.1 with
   |true=>
    rw[hx,ha]at e;rw[eq_of_beq hx,ha];exact e
   |false=>
    rw[hx]at e;exact h x c e
  .rw[if_neg hk]at e;exact h x c e
theorem zcx{env:Env}{x:AQ}:∀(l:List (AQ×DB)) (r:List (AQ×AI)),(∃c,r.lookup x=AA c)->∃c,(l.foldl (yae env) r).lookup x=AA c
 |[],r,h=>h
 |y::l,r,h=>by
  refine zcx l (yae env r y) ?_;unfold yae
  by_cases hk:y.2=.free
  .rw[if_pos hk,B9]
   cases hx:x==y.1 with
   |true=>exact⟨_,rfl⟩
   |false=>exact h
  .rw[if_neg hk];exact h
theorem zbM{env:Env}:∀(l:List (AQ×DB)) (r:List (AQ×AI)),∀y∈l,y.2=.free->∃c,(l.foldl (yae env) r).lookup y.1=AA c
 |[],_,y,hy,_=>nomatch hy
 |z::l,r,y,hy,hk=>by
  rcases Ad.mp hy with e|e
  .subst e;refine zcx l (yae env r y) ?_;unfold yae;rw[if_pos hk,B9,beq_self_eq_true];exact⟨_,rfl⟩
  .exact zbM l (yae env r z) y e hk
theorem mem_of_lookup{β:Type}{x:AQ}{k:β}:∀{l:List (AQ×β)},l.lookup x=AA k->(x,k)∈l
 |[],h=>nomatch h
 |y::l,h=>by
  rw[B9]at h
  cases hx:x==y.1 with
  |true=>
   rw[hx]at h
   cases h
   rw[eq_of_beq hx];exact BA
  |false=>
   rw[hx]at h;exact AX _ (mem_of_lookup h)
def ycA(env:Env)(x:AQ)(k:DB):NameKind:=if (k==.free&&env.scope.kind==.function&&env.kindOf x==AA .cell)=AB then .cell else k
theorem zdr{sc:Bc}{env:Env}(x:AQ):(relabel sc env).names.lookup x=(sc.names.lookup x).map (ycA env x):=by
 unfold relabel;show (sc.names.map λ(n,k)=>if (k==C5&&env.scope.kind==.function&&env.kindOf n==AA .cell)then(n,FP)else(n,k)).lookup x=_
 induction sc.names with
 |nil=>rfl
 |cons y l ih=>
  let⟨n,k⟩:=y;rw[AO];show Bw x ((if (k==C5&&env.scope.kind==.function&&env.kindOf n==AA .cell)=AB then(n,FP)else(n,k))::_)=_
  cases hx:x==n with
  |true=>
   have e:=eq_of_beq hx;subst e
   by_cases hc:(k==C5&&env.scope.kind==.function&&env.kindOf x==AA .cell)=AB
   .rw[if_pos hc,B9,beq_self_eq_true];simp[ycA,hc]
   .rw[if_neg hc,B9,beq_self_eq_true];simp[ycA,hc]
  |false=>
   by_cases hc:(k==C5&&env.scope.kind==.function&&env.kindOf n==AA .cell)=AB
   .rw[if_pos hc];erw[B9,hx];exact ih
   .rw[if_neg hc];erw[B9,hx];exact ih
structure CI where
 C:AI
 s:AJ
 H:Hp
 fp:List AI
def cxC(X:Cx)(sc:Bc)(NC:List AQ)(j:CI):Cx where
 prog:=X.prog
 w:=X.w
 K:=X.K
 mg:=X.mg
 base:=X.base
 A:=X.A
 N:=NC
 s₀:=j.s
 H₀:=j.H
 env:=compEnvC sc (ydb sc X.env) j.C X.env
 outer:=X.stack
 stack:=X.stack
 ex:=j.fp
 fn:=λ_=>AD
 calm:=X.calm
 pn:=[]
 xe:=No
def inn(slots:List (Option Nat))(σ:St):St:=slots.map λo=>o.bind λj=>(σ[j]?).join
structure yaj(X:Cx)(sc:Bc)(NC:List AQ)(slots:List (Option Nat)):Prop where
 kind:sc.kind=.function
 names:∀y∈sc.names,y.2=.local->sc.names.lookup y.1=AA .local
 nocell:∀y∈sc.names,y.2 ≠ .cell
 free:∀y∈sc.names,y.2=.free->X.env.scope.names.lookup y.1=AA .cell
 slot:∀(i:Nat) (x:AQ) (j:Nat),NC[i]?=AA x->slots[i]?=AA (AA j)->X.N[j]?=AA x/\sc.names.lookup x=AA .free
 len:slots.length=NC.length
theorem ycW{X:Cx}{sc:Bc}{NC:List AQ}{slots:List (Option Nat)}(N:List AQ)(so:Bc)(hN:X.N=N)(hs:X.env.scope=so)(kind:sc.kind=.function)
  (names:∀y∈sc.names,y.2=.local->sc.names.lookup y.1=AA .local) (nocell:∀y∈sc.names,y.2 ≠ .cell) (free:∀y∈sc.names,y.2=.free->so.names.lookup y.1=AA .cell)
  (slot:∀p∈NC.zip slots,(p.2.all λj=>decide (N[j]?=AA p.1/\sc.names.lookup p.1=AA .free))=AB) (len:slots.length=NC.length):yaj X sc NC slots:=by
 subst hN hs;refine⟨kind,names,nocell,free,λi x j e1 e2=>?_,len⟩;have hm:(x,AA j)∈NC.zip slots:=A4 (i:=i) (by rw[List.getElem?_zip_eq_some];exact⟨e1,e2⟩);have:=slot _ hm;simpa using this
section
variable {X:Cx}{sc:Bc}{NC:List AQ}{slots:List (Option Nat)}{pins:List (AI×Bs)}{σ:St}{H:Hp}{s:AJ}
theorem yaj.cells(O:yaj X sc NC slots)(ok:X.Ok):∀y∈sc.names,y.2=.free->∃c,X.env.cells.lookup y.1=AA c:=λy hy hk=>ok.has y.1 (.inl (O.free y hy hk))
theorem yaj.sub(O:yaj X sc NC slots)(ok:X.Ok):∀x c,(ydb sc X.env).lookup x=AA c->X.env.cells.lookup x=AA c:=zdh sc.names [] (O.cells ok) λ_ _ e=>nomatch e
theorem yaj.rel(O:yaj X sc NC slots)(ok:X.Ok){x:AQ}(h:sc.names.lookup x=AA .free):(relabel sc X.env).names.lookup x=AA .cell:=by
 rw[zdr,h];have e:X.env.kindOf x=AA .cell:=O.free _ (mem_of_lookup h) rfl;simp[ycA,ok.kind,e]
theorem zf0(I:Inv X pins σ H s)(O:yaj X sc NC slots){fp:List AI}(hf:∀b∈fp,ybf X pins H b)(hob:∀b∈fp,∃o,s.heap.get? b=AA o){h1:Ay}{t':Nat}{m:AQ->Option AF}(hns:h1.Ns s.heap.objs.size m)
  (hk:∀b o,s.heap.get? b=AA o->h1.get? b=AA o):Inv (cxC X sc NC ⟨s.heap.objs.size,s,H,fp⟩) [] (inn slots σ) H {s with heap:=h1,toks:=t'}:=by
 have sub:=O.sub I.ok;have fss:∀b,b≠X.env.locals->b∉X.fs->b∉frs X.stack:=λb h1 h2 hb=>(Ad.mp (I.stkSub b hb)).elim h1 h2;have ltC:∀x c,(ydb sc X.env).lookup x=AA c->c<s.heap.objs.size:=λx c e=>by
  let⟨v,q⟩:=I.cell x c (sub x c e);exact q.lt
 refine⟨⟨I.ok.mod,O.kind,I.ok.glob,I.ok.blt,AU _,λx y c e1 e2=>I.ok.inj x y c (sub x c e1) (sub y c e2),λx hx=>?_,λ_ _ z=>(nomatch z),I.ok.hd,I.ok.frames,.inl rfl,λb hb=>⟨?_,λx c e=>(hf b hb).2.2.2.2.1 x c (sub x c e)⟩,I.bs,BQ I.ok.bsz I.sz,λb o e hb=>?_,λb hb=>fss b (hf b hb).2.1 (hf b hb).2.2.1,I.stack,I.stkFree⟩,
  rfl,I.bare,Un.kept hk,⟨m,hns,λi x v e1 e2 e3=>?_⟩,λx c e=>?_,I.hok.fresh (AU _),λx c e=>I.freeC x c (sub x c e),λp hp=>(nomatch hp),I.hok.kept hk,?_⟩
 .have hx':(relabel sc X.env).names.lookup x=AA .cell \/ (relabel sc X.env).names.lookup x=AA .free:=hx;rw[zdr]at hx'
  cases q:sc.names.lookup x with
  |none=>
   rw[q]at hx';rcases hx' with z|z<;>cases z
  |some k=>
   have hm:=mem_of_lookup q;have hkf:k=.free:=by
    rw[q]at hx';have nc:=O.nocell _ hm
    by_cases hk:k=.free
    .exact hk
    .exfalso;have hb:(k==C5)=false:=by simpa using hk
     rcases hx' with z|z
     .simp[ycA,hb]at z;exact nc z
     .simp[ycA,hb]at z;exact hk z
   subst hkf;exact zbM sc.names [] _ hm rfl
 .let⟨o,e⟩:=hob b hb;exact Ah (AW e)
 .rcases (hf b hb).2.2.2.1 with z|z
  .exact I.ok.noex b o e z
  .exact absurd (A6 (AW e) (BQ I.ok.bsz z)) (Cn _)
 .obtain⟨j,e4,e5⟩:∃j,slots[i]?=AA (AA j)/\σ[j]?=AA (AA v):=by
   have e2':(slots.map λo=>o.bind λj=>(σ[j]?).join)[i]?=AA (AA v):=e2;rw[Bo]at e2'
   cases q:slots[i]? with
   |none=>
    rw[q]at e2'
    cases e2'
   |some o=>
    rw[q]at e2'
    cases o with
    |none=>cases e2'
    |some j=>
     refine⟨j,rfl,?_⟩;have e6:(σ[j]?).join=AA v:=AY e2'
     cases q2:σ[j]? with
     |none=>
      rw[q2]at e6
      cases e6
     |some w=>
      rw[q2]at e6;have e7:w=AA v:=e6;rw[e7]
  let⟨e6,e7⟩:=O.slot i x j e1 e4;have kc:X.env.scope.names.lookup x=AA .cell:=O.free _ (mem_of_lookup e7) rfl;let⟨m0,hn0,hl⟩:=I.loc;let⟨u,r,lk⟩:=hl j x v e6 e5 (.inr (.inl kc));refine⟨u,r,.inr ⟨.inl (O.rel I.ok e7),?_⟩⟩;rcases lk with⟨z,_⟩|⟨_,c,hc,o,ho,hd⟩
  .rw[show X.env.kindOf x=AA .cell from kc]at z
   cases z
  .let⟨c',hc'⟩:=zbM (env:=X.env) sc.names [] _ (mem_of_lookup e7) rfl;have e8:c'=c:=AY ((sub x c' hc').symm.trans hc);subst e8;exact⟨c',hc',o,hk _ _ ho,hd⟩
 .let⟨v,o,ho,hd⟩:=I.cell x c (sub x c e);exact⟨v,o,hk _ _ ho,hd⟩
 .show (slots.map λo=>o.bind λj=>(σ[j]?).join).length=NC.length;rw[BK,O.len]
theorem zfY(I:Inv X pins σ H s){fp:List AI}(hf:∀b∈fp,ybf X pins H b){C:AI}(hC:s.heap.objs.size<=C){pl:List (AI×Bs)}{σ':St}{H':Hp}{s':AJ}(J:Inv (cxC X sc NC ⟨C,s,H,fp⟩) pl σ' H' s')
  {h2:Ay} (hb:C1 C s'.heap h2):Inv X pins σ H' {s' with heap:=h2}:=by
 have nC:∀b o,s.heap.get? b=AA o->b≠C:=λb o e=>Ah (A6 (AW e) hC);have B:Un (frs X.stack) fp H H' s.heap s'.heap:=J.base;have fC:H' C=none:=J.free;refine I.call' (ch:=fp) J.os ⟨λb o e n h3 h4=>(hb.2 b (nC b o e)).trans (B.keep b o e n h3 h4),λb o e n h3 h4=>?_,B.free,λb o e h4=>?_,B.tups,B.frzs,B.tbls⟩ (λb u e=>?_) J.bare λb h3=>⟨(hf b h3).2.2.2.1,(hf b h3).2.1,(hf b h3).2.2.2.2.1,(hf b h3).2.2.2.2.2⟩
 .let⟨sl,q⟩:=B.slot b o e n h3 h4;exact⟨sl,(hb.2 b (nC b o e)).trans q⟩
 .let⟨o',q⟩:=B.there b o e h4;exact⟨o',(hb.2 b (nC b o e)).trans q⟩
 .refine(J.hok b u e).stay (λc v hc q=>(hb.2 c λz=>?_).trans q) (λ_ q=>q) λ_ _ q=>q;subst z;rcases hc with z|z
  .rw[z,e]at fC
   cases fC
  .rw[z]at fC
   cases fC
end
def PTs(X:Cx)(ifs:List AS)(t:TT):Prop:=
 ∀(pins:List (AI×Bs)) (s:AJ) (σ:St) (H:Hp) (Q:Bool->Hp->Prop),Inv X pins σ H s->t σ H Q->A3 (model X.prog X.w) X.A (ydc ifs X.env) (TP X pins σ Q) X.xe s
def yfi:TT:=λ_ H Q=>Q AB H
theorem zkB{X:Cx}:PTs X [] yfi:=λ_ _ _ H _ I h=>wpAny_tests_nil ⟨H,I,h⟩
theorem zj7{X:Cx}{c:AS}{t:TT}(h:PT X c t):PTs X [c] t:=λpins s σ H Q I q=>wpAny_tests_one (h pins s σ H Q I q)
def yci(J:It)(D:AI)(g:TG)(ti:TT)(te:TE)(W:Nat->Nat->St->List V->Hp->Prop)(Q:Hp->Prop):Prop:=
 ∀i m σc ys H2,W i m σc ys H2->H2 D=AA (.lst ys)/\((J.stop i H2/\Q H2) \/ (J.go i H2/\ys.length<sizeLine/\∃N:St->List V->Hp->Prop,(∀σ' ys' H',N σ' ys' H'->∃m',m' < m/\W (i+1) m' σ' ys' H') /\
  ∀x H3,J.yld i H2 x H3->g x σc H3 λσ4 H4=>ti σ4 H4 λb H5=>if b=AB then te σ4 H5 λy H6=>H6 D=AA (.lst ys)/\N σ4 (ys++[y]) (upd H6 D (.lst (ys++[y])))else N σ4 ys H5))
def ycO(slots:List (Option Nat))(wi:TI)(g:TG)(ti:TT)(te:TE):TE:=λσ H Q=>wi σ H λJ H1=>∀D,H1 D=AC->∃W:Nat->Nat->St->List V->Hp->Prop,(∃m,W 0 m (inn slots σ) [] (upd H1 D (.lst [])))/\yci J D g ti te W (Q (.ref D))
section
variable {X:Cx}{sc:Bc}{NC:List AQ}{slots:List (Option Nat)}{elt tg iter:AS}{ifs:List AS}{pos:CH}{g:TG}{ti:TT}{te:TE}
theorem zit(hc:X.calm=AB)(hg:∀j,PG (cxC X sc NC j) tg g)(ht:∀j,PTs (cxC X sc NC j) ifs ti)(he:∀j,PE (cxC X sc NC j) elt te){cj:CI}{it D:AI}{tn:Nat->Ay->Prop}{J:It}
  {W:Nat->Nat->St->List V->Hp->Prop} {Q:Hp->Prop} {R:G2->AJ->Prop} {s:AJ} {σc:St} {ys:List V} {H:Hp} (T:Turn X.prog X.w X.K tg J cj.fp it tn)
  (I:Inv (cxC X sc NC cj) [] σc H s) (hf:∀b∈cj.fp,ybf (cxC X sc NC cj) [] H b) (st:tn 0 s.heap) {m:Nat} (w0:W 0 m σc ys H) (step:yci J D g ti te W Q)
  (fin:∀σ' H' s',Inv (cxC X sc NC cj) [] σ' H' s'->Q H'->R (.ok .next) s'):
  codeAny (model X.prog X.w) X.A (.compLoop (.ListComp elt [⟨tg,iter,ifs,0⟩] sc pos) 0 (.ref it) (.ref D) (cxC X sc NC cj).env) R s:=by
 have stat:∀{H':Hp},(∀b∈cj.fp,H' b=AC)->∀b∈cj.fp,ybf (cxC X sc NC cj) [] H' b:=λhn b hb=>⟨hn b hb,(hf b hb).2⟩;refine zg1 (λn s'=>∃i σ' ys' H',Inv (cxC X sc NC cj) [] σ' H' s'/\tn i s'.heap/\(∀b∈cj.fp,H' b=AC)/\W i n σ' ys' H') ?_ m ⟨0,σc,ys,H,I,st,λb hb=>(hf b hb).1,w0⟩
 rintro n s3 ⟨i,σ3,ys3,H3,I3,st3,fr3,w3⟩
 let⟨hD,q⟩:=step i n σ3 ys3 H3 w3;rcases q with⟨stop,qn⟩|⟨go,hz,N,hN,turn⟩
 .refine thn (T.done (cxC X sc NC cj) rfl rfl rfl hc i [] s3 σ3 H3 No I3 (stat fr3) st3 stop) λr s4 kq=>?_;let⟨hr,I4⟩:=kq;subst hr;exact fin σ3 H3 s4 I4 qn
 .refine thn (T.item (cxC X sc NC cj) rfl rfl rfl hc i [] s3 σ3 H3 No I3 (stat fr3) st3 go) λr s4 kq=>?_;let⟨u,hr,h4⟩:=kq;subst hr;refine thn h4 λ_ s5 kq=>?_;let⟨x,H5,I5,r5,y5,st5,fr5⟩:=kq;have I5':=I5.pinned (stat fr5) (T.obj _ _ st5);refine thn (hg cj _ s5 σ3 H5 x u _ I5' r5 (turn x H5 y5)) λ_ s6 kq=>?_;let⟨σ6,H6,I6,q6⟩:=kq;refine thn (ht cj _ s6 σ6 H6 _ I6 q6) λok s7 kq=>?_;let⟨H7,I7,q7⟩:=kq;have again:∀{σ8:St} {ys8:List V} {H8:Hp} {s8:AJ},Inv (cxC X sc NC cj) ([]++ya7 cj.fp s5.heap) σ8 H8 s8->N σ8 ys8 H8->∃m,m<n/\∃i σ' ys' H',Inv (cxC X sc NC cj) [] σ' H' s8/\tn i s8.heap/\(∀b∈cj.fp,H' b=AC)/\W i m σ' ys' H':=λ{σ8 ys8 H8 s8} I8 n8=>by
   let⟨m',hm,w8⟩:=hN σ8 ys8 H8 n8;refine⟨m',hm,i+1,σ8,ys8,H8,I8.unpinned,T.keep _ _ _ st5 λb hb o e=>(I8.pin (b,o) (BB _ (BB _ (za0 hb e)))).1,λb hb=>?_,w8⟩;let⟨o,e,d⟩:=T.obj _ _ st5 b hb;exact(I8.pin (b,o) (BB _ (BB _ (za0 hb e)))).2.1
  cases ok with
  |false=>
   rw[if_neg Av]at q7 ⊢;exact again I7 q7
  |true=>
   rw[if_pos rfl]at q7 ⊢;refine thn (he cj _ s7 σ6 H7 _ I7 q7) λy s8 kq=>?_;let⟨v,H8,I8,r8,hD8,q8⟩:=kq;refine thn (zes (X:=cxC X sc NC cj) _ s8 σ6 H8 (.ref D) [v] (.ref D) [y] (λz H'=>z=.non/\H'=upd H8 D (.lst (ys3++[v]))) I8 rfl (.cons r8 .nil) ⟨D,ys3,v,rfl,rfl,hD8,hz,rfl,rfl⟩) λz s9 kq=>?_;let⟨zv,H9,I9,r9,e1,e2⟩:=kq;subst e2;exact again I9 q8
theorem zgb(hc:X.calm=AB)(O:yaj X sc NC slots)(hg:∀j,PG (cxC X sc NC j) tg g)(ht:∀j,PTs (cxC X sc NC j) ifs ti)(he:∀j,PE (cxC X sc NC j) elt te){pins:List (AI×Bs)}{s:AJ}{σ:St}{H:Hp}(I:Inv X pins σ H s)
  {it:AI} {fp:List AI} {tn:Nat->Ay->Prop} {J:It} (T:Turn X.prog X.w X.K tg J fp it tn) (st:tn 0 s.heap) (hf:∀b∈fp,ybf X pins H b) {Q:VK}
  (h:∀D,H D=AC->∃W:Nat->Nat->St->List V->Hp->Prop,(∃m,W 0 m (inn slots σ) [] (upd H D (.lst [])))/\yci J D g ti te W (Q (.ref D))) {RR:AF->AI->G2->AJ->Prop}
  (fin:∀D C s' H',Q (.ref D) H'->(∃o m,s'.heap.get? C=AA o/\s'.heap.Ns C m/\∀v,o.data ≠ .cell v)->ybf X pins H' C->(∀h2,C1 C s'.heap h2->Inv X pins σ H' {s' with heap:=h2})->RR (.ref D) C (.ok .next) s'):
  A3 (model X.prog X.w) X.A (newList []) (λacc s3=>A3 (model X.prog X.w) X.A (newFunctionEnv sc X.env.globals (ydb sc X.env) [] X.env.qual AC .none (AA X.env)) (λcenv s4=>
   codeAny (model X.prog X.w) X.A (.compStart (.ListComp elt [⟨tg,iter,ifs,0⟩] sc pos) 0 (.ref it) acc {cenv with scope:=relabel sc X.env}) (RR acc cenv.locals) s4) X.xe s3) X.xe s:=by
 refine Bf (wpAny_newFunctionEnv O.nocell (by intro y hy;simp at hy) (λh1 hns1 hsb1=>?_) O.kind);dsimp only at hns1 hsb1 ⊢;have hDn:H s.heap.objs.size=none:=I.hok.fresh (AU _);let⟨W,⟨m,w0⟩,step⟩:=h s.heap.objs.size hDn;obtain⟨s3,hs3⟩:∃x:AJ,x=({s with heap:=s.heap.push {cls:=.type "list",dict:=AC,data:=.seq ([]:List AF).toArray} }:AJ):=⟨_,rfl⟩;have e3:s3.heap=s.heap.push {cls:=.type "list",dict:=AC,data:=.seq ([]:List AF).toArray}:=by rw[hs3]
 rw[<-e3]at hns1 hsb1;have hp3:∀b o,s.heap.get? b=AA o->s3.heap.get? b=AA o:=λb o e=>by
  rw[e3];exact AN _ e
 have I3:Inv X pins σ (upd H s.heap.objs.size (.lst [])) s3:=by
  have q:=I.laid (a:=s.heap.objs.size) (o:=.lst []) (h':=s3.heap) (t':=s.toks) hp3 (AU _) ⟨Cy _,[],_,.nil,by rw[e3];exact A0 _ rfl⟩;rw[hs3]at q ⊢;exact q
 have hf3:∀b∈fp,ybf X pins (upd H s.heap.objs.size (.lst [])) b:=λb hb=>by
  let⟨o,e,_⟩:=T.obj _ _ st b hb;refine⟨?_,(hf b hb).2⟩;rw[zh (Ah (AW e))];exact(hf b hb).1
 have st3:tn 0 s3.heap:=T.keep _ _ _ st λb _ o e=>hp3 b o e;have hob:∀b∈fp,∃o,s3.heap.get? b=AA o:=λb hb=>by
  let⟨o,e,_⟩:=T.obj _ _ st3 b hb;exact⟨o,e⟩
 have hk1:∀b o,s3.heap.get? b=AA o->h1.get? b=AA o:=λb o e=>hsb1.extBut b o (Ah (AW e)) (AN _ e);have J1:=zf0 (t':=s3.toks+([]:List (AQ×AF)).length) I3 O hf3 hob hns1 hk1;have hfc:∀b∈fp,ybf (cxC X sc NC ⟨s3.heap.objs.size,s3,upd H s.heap.objs.size (.lst []),fp⟩) [] (upd H s.heap.objs.size (.lst [])) b:=λb hb=>
  ⟨(hf3 b hb).1,(J1.ok.exf b hb).1,J1.ok.exfs b hb,.inl hb,(J1.ok.exf b hb).2,λp hp=>nomatch hp⟩
 have loop:codeAny (model X.prog X.w) X.A (.compLoop (.ListComp elt [⟨tg,iter,ifs,0⟩] sc pos) 0 (.ref it) (.ref s.heap.objs.size) (cxC X sc NC ⟨s3.heap.objs.size,s3,upd H s.heap.objs.size (.lst []),fp⟩).env) (RR (.ref s.heap.objs.size) s3.heap.objs.size)
   {s3 with heap:=h1,toks:=s3.toks+([]:List (AQ×AF)).length}:=by
  refine zit (D:=s.heap.objs.size) (Q:=Q (.ref s.heap.objs.size)) hc hg ht he T J1 hfc (T.keep _ _ _ st3 λb _ o e=>hk1 b o e) w0 step λσ' H' s' J' q'=>?_;have fC:H' s3.heap.objs.size=none:=J'.free;refine fin _ _ s' H' q' ?_ (I3.fpOk (AU _) fC) λh2 hb=>zfY I3 hf3 (AU _) J' hb;let⟨m',hn',_⟩:=J'.loc;let⟨o,es,ep,ho,hd,r⟩:=id hn';exact⟨o,m',ho,hn',λv z=>by rw[hd]at z;cases z⟩
 have self:=λ(RQ:AF->AJ->Prop) (EE:AF->AJ->Prop)=>T.self X.A 0 {s3 with heap:=h1,toks:=s3.toks+([]:List (AQ×AF)).length} RQ EE (T.keep _ _ _ st3 λb _ o e=>hk1 b o e);subst hs3;exact codeAny_compStart_list loop (self _ _ loop)
variable {wi:TI}
theorem zkA(hc:X.calm=AB)(O:yaj X sc NC slots)(hi:PI X tg iter wi)(hg:∀j,PG (cxC X sc NC j) tg g)(ht:∀j,PTs (cxC X sc NC j) ifs ti)(he:∀j,PE (cxC X sc NC j) elt te)
  (hs:∀x,foldedSetIterable iter X.env x=pure x:=by intro _;rfl):PE X (.ListComp elt [⟨tg,iter,ifs,0⟩] sc pos) (ycO slots wi g ti te):=by
 intro pins s σ H Q I h;rw[eval_ListComp];refine wpAny_comprehension_free (use:=AC) rfl hs (zcs (O.cells I.ok)) O.kind O.names (thn (hi pins s σ H _ I h) λv s1 h1=>thn h1 λitv s2 h2=>?_);let⟨it,fp,tn,J,H2,rfl,I2,T,st2,f2,q2⟩:=h2;refine zgb hc O hg ht he I2 T st2 f2 q2 λD C s' H' q' ⟨o,m,ho,hn,_⟩ _ out=>⟨m,hn,λh2 hb=>⟨.ref D,H',out h2 hb,rfl,q'⟩⟩
end
theorem zdH:∀{bs:List Bool} {us:List AF},Vals (bs.map V.bl) us->LSm.BoolsAre us bs
 |[],_,.nil=>.nil
 |b::bs,_,.cons r q=>by
  cases (show _=Da b from r)
  exact .cons b (zdH q)
section
variable {X:Cx}
def ygv(K:AE):List V->Hp->VK->Prop:=λxs H Q=>∃(l:AI) (bs:List Bool),xs=[.ref l]/\SqL K H l (bs.map V.bl)/\Q (.bl (bs.all id)) H
theorem ziZ(hc:X.calm=AB):yab X (.builtin "all") (ygv X.K):=by
 intro pins s σ H xs us Q I r h;let⟨l,bs,rfl,hq,q⟩:=h;let⟨u,rfl,ru⟩:=Vals.one r
 cases (show u=Af l from ru)
 let⟨its,rv,pl,hz⟩:=I.list hq;have hb:=zdH rv;have hl:=pl.isList;have hlt:l<s.heap.objs.size:=by
  let⟨_,e,_⟩:=hl;exact AW e
 refine call_all_walk (EB hl ?_);refine⟨s.heap.objs.size,[s.heap.objs.size,l],[s.heap.objs.size],its.toArray.size,_,_,λi=>(bs[i]?).getD AB,rfl,HM (A:=X.A.in1) (I.ok.hd hc) _ l (Ah hlt) its.toArray,⟨⟨_,A0 _ rfl,rfl,rfl⟩,hl.push _⟩,λi v s' Q' E' hP hQ=>?_,λh' tk hk=>?_⟩
 .let⟨b,e,rfl⟩:=hb.get i v (by simpa using hP);erw[e,Ba]at hQ;exact BR hQ
 .have e:((C0 its.toArray.size).all λi=>(bs[i]?).getD AB)=bs.all id:=by
   rw[AZ,hb.length];exact LSm.range_all bs
  rw[e];exact⟨.bl _,H,I.kept (t':=tk) (FQ hk),rfl,q⟩
end
section
variable {X:Cx}{pins:List (AI×Bs)}{σ:St}{H:Hp}{s:AJ}
end
section
variable {X:Cx}{a:AS}{ta:TE}{K:AE}
end
end L2
namespace L2
end L2
namespace L2
open PySem PySem.Spec PyProof.Rows
def CX1(P:A7)(w:Ag):CXT:=λouter H s E e s'=>∃(a:AI) (cls a0:AF) (H':Hp) (B:Ay),e=.ref a/\s'.os=s.os/\DR s'.gens/\Go B outer a cls a0 s'.heap/\HOk P w H' s'.heap/\Un (frs outer) [] H H' s.heap s'.heap /\
 (∀b o,s.heap.get? b=AA o->H b=AC->b∉frs outer->B.get? b=AA o)/\(∀b u,H' b=AA u->∃o,B.get? b=AA o)/\(∀b o,s.heap.get? b=AA o->b∉frs outer->∃o',B.get? b=AA o')/\E cls AC H'
theorem yP.there{P:A7}{w:Ag}{H:Hp}{h:Ay}{a:AI}{o:HO}(x:yP P w H h a o):∃ob,h.get? a=AA ob:=by
 induction o with
 |lst xs=>let⟨_,_,_,_,e⟩:=x;exact⟨_,e⟩
 |tup xs=>let⟨_,_,_,ob,e,_⟩:=x;exact⟨ob,e⟩
 |dK kvs=>let⟨_,_,_,_,ob,_,_,e,_⟩:=x;exact⟨ob,e⟩
 |dT kvs=>let⟨_,_,_,_,ob,_,_,e,_⟩:=x;exact⟨ob,e⟩
 |set S n=>let⟨ob,_,_,_,e,_⟩:=x;exact⟨ob,e⟩
 |ins C dx fs=>let⟨_,_,_,e,_⟩:=x;exact⟨_,e⟩
 |own y=>exact x
 |xd fs=>let⟨_,⟨ob,_,_,e,_⟩,_⟩:=x;exact⟨ob,e⟩
 |rng lo hi=>let⟨_,_,_,e⟩:=x;exact⟨_,e⟩
 |frz ob u ih=>exact⟨ob,x.1⟩
 |tbl ps=>exact⟨_,x⟩
 |met f y=>exact⟨_,x⟩
 |ext φ=>exact x.2.1
theorem HOk.inB{P:A7}{w:Ag}{H:Hp}{h h' B:Ay}(ok:HOk P w H h)(hB:B.StaysIn h)(hB':B.StaysIn h')(tr:∀b u,H b=AA u->∃o,B.get? b=AA o):HOk P w H h':=λa o e=>
 (ok a o e).stay (λb u hb q=>by
  have hb':∃o,B.get? b=AA o:=by
   rcases hb with z|z
   .rw[z];exact tr a o e
   .exact tr b _ z
  let⟨o',q'⟩:=hb';have:=hB b o' q';rw[q]at this
  cases this
  exact hB' b u q') (λ_ q=>q) λ_ _ q=>q
section
variable {P:A7}{w:Ag}{K:AE}{mg:AQ->Option AF}{base:Ay}{N:List AQ}{qual:AQ}{scope:Bc}{f:AI}{cd:AF}{A:Am}{outer:List Env}{s₀:AJ}{H₀:Hp}{E:XK}
 {pins:List (AI×Bs)} {σ:St} {H:Hp} {s:AJ}
theorem zhI{h':Ay}{e:AI}{cls:AF}{vs:List AF}(I:Inv (yaM (CX1 P w) P w K mg base N qual scope f cd A outer s₀ H₀ E) pins σ H s)(hx:G7 s.heap h' e cls vs)(hE:E cls AC H):
  (yaM (CX1 P w) P w K mg base N qual scope f cd A outer s₀ H₀ E).xe (.ref e) {s with heap:=h'}:=by
 have stk:s.heap.FunFrames base (envOfC qual scope s₀.heap.objs.size f cd::outer):=I.stack;have hst:∀b,b∈frs (envOfC qual scope s₀.heap.objs.size f cd::outer)->b=s₀.heap.objs.size \/ b∈frs outer:=λb hb=>by
  have hb':b∈s₀.heap.objs.size::frs outer:=hb;exact Ad.mp hb'
 have inB:∀b o,s.heap.get? b=AA o->b∉frs (envOfC qual scope s₀.heap.objs.size f cd::outer)->(Cq s.heap (frs (envOfC qual scope s₀.heap.objs.size f cd::outer))).get? b=AA o:=λb o q n=>FC _ q n;have hB:(Cq s.heap (frs (envOfC qual scope s₀.heap.objs.size f cd::outer))).StaysIn s.heap:=λb o q=>FY _ q;have bse:Un (frs outer) [] H₀ H s₀.heap s.heap:=I.base;have lt:∀b o,s₀.heap.get? b=AA o->b≠s₀.heap.objs.size:=λb o q=>Ah (AW q);have tr:∀b u,H b=AA u->∃o,(Cq s.heap (frs (envOfC qual scope s₀.heap.objs.size f cd::outer))).get? b=AA o:=λb u q=>by
  let⟨o,ho⟩:=yP.there (I.hok b u q);exact⟨o,inB b o ho λhb=>by
   have:=I.stkFree b hb;rw[q]at this
   cases this⟩
 refine wpAny_leaves_madeW (base:=Cq s.heap (frs (envOfC qual scope s₀.heap.objs.size f cd::outer))) (h:=s.heap) I.ok.frames rfl hB (PySem.W.funFrames_hide stk λenv he a ha=>Dh.mpr ⟨env,he,ha⟩) hx λh'' t fl tu tn up=>?_;have up':s.heap.UpToSlots h'':=(Gh hx.keeps).trans up;refine⟨e,cls,_,H,_,rfl,I.os,I.bare,fl,HOk.inB I.hok hB fl.1 tr,⟨λb o q n hb _=>?_,λb o q n hb _=>?_,bse.free,λb o q _=>?_,bse.tups,bse.frzs,bse.tbls⟩,λb o q n hb=>?_,tr,λb o q hb=>?_,hE⟩
 .refine fl.1 b o (inB b o (bse.keep b o q n hb (by simp)) λz=>?_);rcases hst b z with z|z
  .exact lt b o q z
  .exact hb z
 .let⟨sl,q1⟩:=bse.slot b o q n hb (by simp);let⟨_,o',ho',hd⟩:=CC stk (show b∈DF (λ(z:Env)=>z.frame) _ from AX _ hb);let⟨sl',q2⟩:=up' b _ q1 (by rw[ho']at q1;cases q1;exact hd);exact⟨sl',q2⟩
 .let⟨o',q1⟩:=bse.there b o q (by simp)
  by_cases hb:b∈frs (envOfC qual scope s₀.heap.objs.size f cd::outer)
  .let⟨_,o2,ho',hd⟩:=CC stk hb;let⟨sl',q2⟩:=up' b _ ho' hd;exact⟨_,q2⟩
  .exact⟨o',fl.1 b o' (inB b o' q1 hb)⟩
 .refine inB b o (bse.keep b o q n hb (by simp)) λz=>?_;rcases hst b z with z|z
  .exact lt b o q z
  .exact hb z
 .let⟨o',q1⟩:=bse.there b o q (by simp);refine⟨o',inB b o' q1 λz=>?_⟩;rcases hst b z with z|z
  .exact lt b o q z
  .exact hb z
theorem ydY:ybo (CX1 P w) (yaM (CX1 P w) P w K mg base N qual scope f cd A outer s₀ H₀ E) E:=by
 intro pins σ H s e s' I h;let⟨a,cls,a0,H',B,rfl,os,bare,fl,hok,un,hB,tr,hT,hE⟩:=h;have bse:Un (frs outer) [] H₀ H s₀.heap s.heap:=I.base;have lt:∀b o,s₀.heap.get? b=AA o->b≠s₀.heap.objs.size:=λb o q=>Ah (AW q);have hst:∀b,b∈frs (envOfC qual scope s₀.heap.objs.size f cd::outer)->b=s₀.heap.objs.size \/ b∈frs outer:=λb hb=>by
  have hb':b∈s₀.heap.objs.size::frs outer:=hb;exact Ad.mp hb'
 have un':Un (frs (envOfC qual scope s₀.heap.objs.size f cd::outer)) [] H H' s.heap s'.heap:=un;have kB:∀b o,s₀.heap.get? b=AA o->H₀ b=AC->b∉frs outer->B.get? b=AA o:=λb o q n hb=>hB b o (bse.keep b o q n hb (by simp)) (bse.free b o q n (by simp)) λz=>by
  rcases hst b z with z|z
  .exact lt b o q z
  .exact hb z
 have kT:∀b o,s₀.heap.get? b=AA o->b∉frs outer->∃o',B.get? b=AA o':=λb o q hb=>by
  let⟨o',q1⟩:=bse.there b o q (by simp);refine hT b o' q1 λz=>?_;rcases hst b z with z|z
  .exact lt b o q z
  .exact hb z
 refine wpAny_leaves_onW I.ok.frames rfl fl λh'' fl' up=>?_;refine⟨a,cls,a0,H',B,rfl,os.trans I.os,bare,fl',HOk.inB hok fl.1 fl'.1 tr,⟨λb o q n hb _=>fl'.1 b o (kB b o q n hb),λb o q n hb _=>?_,λb o q n _=>?_,λb o q _=>?_,λb xs q=>un'.tups b xs (bse.tups b xs q),λb o u q=>un'.frzs b o u (bse.frzs b o u q),λb ps q=>?_⟩,kB,tr,kT,hE⟩
 .let⟨sl,q1⟩:=bse.slot b o q n hb (by simp);have n1:=bse.free b o q n (by simp);let⟨sl1,q2⟩:=un'.slot b _ q1 n1 (AX _ hb) (by simp);let⟨_,o',ho',hd⟩:=CC fl.2.2.1 (show b∈DF (λ(z:Env)=>z.frame) _ from AX _ hb);let⟨sl',q3⟩:=up b _ q2 (by rw[ho']at q2;cases q2;exact hd);exact⟨sl',q3⟩
 .let⟨o',q1⟩:=bse.there b o q (by simp);exact un'.free b o' q1 (bse.free b o q n (by simp)) (by simp)
 .let⟨o',q1⟩:=bse.there b o q (by simp);let⟨o2,q2⟩:=un'.there b o' q1 (by simp)
  by_cases hb:b∈frs outer
  .let⟨_,o3,ho3,hd⟩:=CC fl.2.2.1 (show b∈DF (λ(z:Env)=>z.frame) _ from AX _ hb);let⟨sl',q3⟩:=up b _ ho3 hd;exact⟨_,q3⟩
  .let⟨o4,q4⟩:=kT b o q hb;exact⟨o4,fl'.1 b o4 q4⟩
 .let⟨m1,e1⟩:=bse.tbls b ps q;let⟨m2,e2⟩:=un'.tbls b _ e1;exact⟨m1++m2,by rw[e2,Db]⟩
end
section
variable {X:Cx}{e:AS}{es:List AS}{te:TE}
end
section
variable {X:Cx}{e:AS}{es:List AS}{t:TA}{E:XK}
end
section
variable {pg:A7}{wd:Ag}{A:Am}{E:AF->AJ->Prop}{h:Ay}{g:Array GenState}{d:Drawn}{t:Nat}{os:OsState}{a C:AI}{o:Bs}{K:AE}
end
def ygt(a C:AI):Ay->Prop:=λh=>∃o,h.get? a=AA o/\o.cls=.ref C
section
variable {X:Cx}
end
section
variable {X:Cx}{pins:List (AI×Bs)}{σ:St}{H:Hp}{s:AJ}
end
section
variable {X:Cx}{pins:List (AI×Bs)}{σ:St}{H:Hp}{s:AJ}
end
section
variable {X:Cx}{body suite:List Bn}{b₀:Bn}{x n:AQ}{np hpos pos:CH}{tb:XK->TS}{ts:TS}{W:AI}{i:Nat}
end
structure yc4(k:Nat)(A:Am):Prop where
 dp:A.depth+3*k+5<recursionLimit
 un:A.units+16*k+200<cLine
section
variable {P:A7}{w:Ag}{K:AE}{mg:AQ->Option AF}{base:Ay}
end
section
variable {X:Cx}{k:Nat}{f:AI}{fd:Az}{ps:List AQ}{sp:Sp}{x:AQ}{p pos:CH}{e:AS}{es:List AS}{t:TA}
end
section
variable {P:A7}{w:Ag}{K:AE}{mg:AQ->Option AF}{base:Ay}
theorem own1{N:List AQ}{qual:AQ}{scope:Bc}{f:AI}{cd:AF}{A:Am}{outer:List Env}{s:AJ}{H:Hp}{E:XK}{CX:CXT}:
  EL (model (yaM CX P w K mg base N qual scope f cd A outer s H E).prog (yaM CX P w K mg base N qual scope f cd A outer s H E).w) (yaM CX P w K mg base N qual scope f cd A outer s H E).A (yaM CX P w K mg base N qual scope f cd A outer s H E).env (yaM CX P w K mg base N qual scope f cd A outer s H E).xe:=
 PassesOwn.leaving
end
section
variable {X:Cx}
end
section
variable {X:Cx}
def ygj(K:AE):List V->Hp->VK->Prop:=λxs H Q=>∃(l:AI) (ns:List Int),xs=[.ref l]/\SqL K H l (ns.map V.int)/\0<ns.length/\∀M,M∈ns->(∀a,a∈ns->a<=M)->Q (.int M) H
theorem zhE(hc:X.calm=AB):yab X (.builtin "max") (ygj X.K):=by
 intro pins s σ H xs us Q I r h;let⟨l,ns,rfl,hq,hne,q⟩:=h;let⟨u,rfl,ru⟩:=Vals.one r
 cases (show u=Af l from ru)
 let⟨its,rv,pl,hz⟩:=I.list hq;have hi:FB its ns:=zf3 rv;let⟨ys,e⟩:=hi.allInts.items;have hns:ns=ys.toList.map (·.1):=by rw[<-hi.numsOf,<-nums_intItems,<-e]
 have hsz:0<ys.size:=by
  rw[hns,BK,Bt]at hne;exact hne
 have hl:=pl.isList;rw[e]at hl;refine max_intList (I.ok.hd hc) hl hsz λv h' tk hv hk=>?_;let⟨t,rfl⟩:=intItems_at hv;let⟨h1,h2⟩:=argBest_gt (numAt ys) (ys.size-1);refine⟨.int _,H,I.kept (t':=tk) hk,⟨t,rfl⟩,q _ ?_ λa ha=>?_⟩
 .rw[hns,numAt_eq];exact getD_mem (by rw[BK,Bt];lia)
 .rw[hns]at ha;let⟨j,hj,rfl⟩:=mem_getD ha;rw[BK,Bt]at hj;rw[<-numAt_eq];exact h2 j (by lia)
end
section
variable {κ:Type}[DecidableEq κ]
def ybl(kvs:List (κ×V))(k:κ):Option V:=(kvs.find? λkv=>decide (kv.1=k)).map (·.2)
def putK(kvs:List (κ×V))(k:κ)(v:V):List (κ×V):=
 if (kvs.any λkv=>decide (kv.1=k))=AB then kvs.map (λkv=>if kv.1=k then(kv.1,v)else kv)else kvs++[(k,v)]
theorem zbH{p:κ×V}{r:List (κ×V)}{k:κ}(e:p.1=k):ybl (p::r) k=AA p.2:=by simp[ybl,Bq,e]
theorem zbt{p:κ×V}{r:List (κ×V)}{k:κ}(e:¬p.1=k):ybl (p::r) k=ybl r k:=by simp[ybl,Bq,e]
theorem zfS(k:κ):∀kvs:List (κ×V),(kvs.any λkv=>decide (kv.1=k))=(ybl kvs k).isSome
 |[]=>rfl
 |p::r=>by
  rw[BH]
  by_cases e:p.1=k
  .simp only[zbH e,decide_eq_true e,Ea,Option.isSome_some]
  .rw[zbt e,decide_eq_false e,FR];exact zfS k r
theorem zcn(kvs:List (κ×V))(k:κ)(v:V):(putK kvs k v).length<=kvs.length+1:=by
 unfold putK;split
 .rw[BK];lia
 .rw[Bi,AT,Ap];lia
theorem ybb.isSome_eq{o:Option V}{u:Option AF}(r:ybb o u):o.isSome=u.isSome:=by
 cases o with
 |none=>cases u with
  |none=>rfl
  |some _=>exact(show False from r).elim
 |some _=>cases u with
  |none=>exact(show False from r).elim
  |some _=>rfl
theorem ybb.getD{o:Option V}{u:Option AF}{d:V}{d':AF}(r:ybb o u)(rd:RelV d d'):RelV (o.getD d) (u.getD d'):=by
 cases o with
 |none=>cases u with
  |none=>exact rd
  |some _=>exact(show False from r).elim
 |some _=>cases u with
  |none=>exact(show False from r).elim
  |some _=>exact r
theorem KV.val{kvs:List (κ×V)}{vs:List (κ×AF)}(r:KV kvs vs)(k:κ):ybb (ybl kvs k) (valueAt vs k):=by
 unfold KV at r
 induction r with
 |nil=>exact C2
 |@cons p q ps qs h t ih=>
  let⟨h1,h2⟩:=h
  by_cases e:p.1=k
  .have e':q.1=k:=h1.symm.trans e;have b:valueAt (q::qs) k=AA q.2:=by simp[valueAt,Bq,e']
   rw[zbH e,b];exact h2
  .have e':¬q.1=k:=λz=>e (h1.trans z);have b:valueAt (q::qs) k=valueAt qs k:=by simp[valueAt,Bq,e']
   rw[zbt e,b];exact ih
theorem KV.any{kvs:List (κ×V)}{vs:List (κ×AF)}(r:KV kvs vs)(k:κ):(kvs.any λkv=>decide (kv.1=k))=vs.any λkv=>decide (kv.1=k):=by
 unfold KV at r
 induction r with
 |nil=>rfl
 |cons h t ih=>rw[BH,BH,ih,h.1]
theorem KV.repl{kvs:List (κ×V)}{vs:List (κ×AF)}(r:KV kvs vs)(k:κ){y:V}{u:AF}(ry:RelV y u):
  KV (kvs.map λkv=>if kv.1=k then(kv.1,y)else kv) (vs.map λkv=>if kv.1=k then(kv.1,u)else kv):=by
 unfold KV at r ⊢
 induction r with
 |nil=>exact .nil
 |@cons p q ps qs h t ih=>
  rw[AO,AO];refine .cons ?_ ih;let⟨h1,h2⟩:=h
  by_cases e:p.1=k
  .rw[if_pos e,if_pos (h1.symm.trans e)];exact⟨h1,ry⟩
  .rw[if_neg e,if_neg (λz=>e (h1.trans z))];exact⟨h1,h2⟩
theorem KV.put{kvs:List (κ×V)}{vs:List (κ×AF)}(r:KV kvs vs)(k:κ){y:V}{u:AF}(ry:RelV y u):KV (putK kvs k y) (stored vs k u):=by
 unfold putK stored;rw[r.any k]
 by_cases e:(vs.any λkv=>decide (kv.1=k))=AB
 .rw[if_pos e,if_pos e];exact r.repl k ry
 .rw[if_neg e,if_neg e];exact HE r ⟨rfl,ry⟩
theorem KV.length{kvs:List (κ×V)}{vs:List (κ×AF)}(r:KV kvs vs):kvs.length=vs.length:=EH r
end
theorem zjK{P:A7}{w:Ag}{k:Key}{u:AF}(r:RelV (kV k) u):(yL P w).is k u=true:=by
 cases k with
 |inl i=>let⟨t,e⟩:=(show ∃t,u=EK i t from r);subst e;exact zeU P w i t
 |inr x=>let⟨t,e⟩:=(show ∃t,u=Ft x t from r);subst e;exact zfe P w x t
theorem zex{P:A7}{w:Ag}:∀{ks:List Key} {us:List AF},Vals (ks.map kV) us->ItemsAre (yL P w) ks us
 |[],_,r=>by rw[Ar]at r;cases r;exact .nil
 |k::ks,_,r=>by
  rw[AO]at r
  cases r with
  |cons h t=>exact .cons (zjK h) (zex t)
abbrev KT(H:Hp):List (List Key×V)->List (List Key×AI×AF)->Prop:=GY λp q=>p.1=q.1/\H q.2.1=AA (.tup (p.1.map kV))/\RelV p.2 q.2.2
theorem KT.val{H:Hp}{kvs:List (List Key×V)}{xs:List (List Key×AI×AF)}(r:KT H kvs xs)(k:List Key):ybb (ybl kvs k) ((atKey xs k).map (·.2)):=by
 induction r with
 |nil=>exact C2
 |@cons p q ps qs h t ih=>
  let⟨h1,_,h2⟩:=h
  by_cases e:p.1=k
  .have e':q.1=k:=h1.symm.trans e;have b:atKey (q::qs) k=AA q.2:=by simp[atKey,Bq,e']
   rw[zbH e,b];exact h2
  .have e':¬q.1=k:=λz=>e (h1.trans z);have b:atKey (q::qs) k=atKey qs k:=by simp[atKey,Bq,e']
   rw[zbt e,b];exact ih
theorem KT.repl{H:Hp}{kvs:List (List Key×V)}{xs:List (List Key×AI×AF)}(r:KT H kvs xs)(k:List Key){y:V}{u:AF}(ry:RelV y u):
  KT H (kvs.map λkv=>if kv.1=k then(kv.1,y)else kv) (xs.map (putAt k u)):=by
 induction r with
 |nil=>exact .nil
 |@cons p q ps qs h t ih=>
  rw[AO,AO];refine .cons ?_ ih;let⟨h1,h2,h3⟩:=h;unfold putAt
  by_cases e:p.1=k
  .rw[if_pos e,if_pos (h1.symm.trans e)];exact⟨h1,h2,ry⟩
  .rw[if_neg e,if_neg (λz=>e (h1.trans z))];exact⟨h1,h2,h3⟩
theorem KT.put{H:Hp}{kvs:List (List Key×V)}{xs:List (List Key×AI×AF)}(r:KT H kvs xs)(k:List Key){b:AI}{y:V}{u:AF}(hb:H b=AA (.tup (k.map kV)))(ry:RelV y u):
  KT H (putK kvs k y) (storedH xs k b u):=by
 have e:(kvs.any λkv=>decide (kv.1=k))=(atKey xs k).isSome:=by
  rw[zfS,(r.val k).isSome_eq,Option.isSome_map]
 unfold putK storedH;rw[e]
 by_cases q:(atKey xs k).isSome=AB
 .rw[if_pos q,if_pos q];exact r.repl k ry
 .rw[if_neg q,if_neg q];exact HE r ⟨rfl,hb,ry⟩
theorem KT.keeps{H H':Hp}{kvs:List (List Key×V)}{xs:List (List Key×AI×AF)}(r:KT H kvs xs)(ht:∀b ys,H b=AA (.tup ys)->H' b=AA (.tup ys)):KT H' kvs xs:=
 Paired.mapP r λ_ _ z=>⟨z.1,ht _ _ z.2.1,z.2.2⟩
section
variable {P:A7}{w:Ag}{H:Hp}{h:Ay}{a:AI}
theorem zms{u:HO}(ok:HOk P w H h)(e:Rd H a u):yP P w H h a u:=e.ok ok
theorem zkk{kvs:List (Key×V)}(ok:HOk P w H h)(e:Rd H a (.dK kvs)):kvs.length<=sizeLine/\(a==sysModules)=AD/\∃vs,KV kvs vs/\h.DictOf (yL P w) a vs:=
 show yP P w H h a (.dK kvs)from zms ok e
theorem znE{kvs:List (Key×V)}(ok:HOk P w H h)(e:H a=AA (.dK kvs)):kvs.length<=sizeLine/\(a==sysModules)=AD/\∃vs,KV kvs vs/\h.DictOf (yL P w) a vs:=zkk ok (.inl e)
theorem zhJ{ks:List Key}(ok:HOk P w H h)(e:H a=AA (.tup (ks.map kV))):(tupleKind (yL P w)).is h ks a:=by
 let⟨_,its,r,o,h1,h2,n,h3⟩:=(show yP P w H h a (.tup (ks.map kV))from ok a _ e);exact⟨o,its.toArray,n,h1,h2,h3,by simpa using zex r⟩
theorem zjI{kvs:List (List Key×V)}(ok:HOk P w H h)(e:Rd H a (.dT kvs)):kvs.length<=sizeLine/\(a==sysModules)=AD /\
  ∃xs,KT H kvs xs/\h.DictOfH (tupleKind (yL P w)) a xs:=by
 let⟨z,y,xs,r,o,es,ep,h1,h2,h3,h4,h5⟩:=(show yP P w H h a (.dT kvs)from zms ok e);refine⟨z,y,xs,r,o,es,ep,h1,h2,h3,h4,λx hx=>?_,h5⟩;have all:∀{l:List (List Key×V)} {m:List (List Key×AI×AF)},KT H l m->∀x∈m,(tupleKind (yL P w)).is h x.1 x.2.1:=by
  intro l m q
  induction q with
  |nil=>intro x hx;exact nomatch hx
  |@cons p q ps qs hq t ih=>
   intro x hx;rcases Ad.mp hx with e|hx
   .subst e;exact zhJ ok (by rw[<-hq.1];exact hq.2.1)
   .exact ih x hx
 exact all r x hx
theorem zn0{kvs:List (List Key×V)}(ok:HOk P w H h)(e:H a=AA (.dT kvs)):kvs.length<=sizeLine/\(a==sysModules)=AD /\
  ∃xs,KT H kvs xs/\h.DictOfH (tupleKind (yL P w)) a xs:=zjI ok (.inl e)
end
def yeG(H:Hp)(a:AI)(y:V)(r:Option V):Prop:=
 (∃kvs k,Rd H a (.dK kvs)/\y=kV k/\r=ybl kvs k) \/ ∃kvs k b,Rd H a (.dT kvs)/\y=.ref b/\H b=AA (.tup (k.map kV))/\r=ybl kvs k
def yev(H:Hp)(a:AI)(y v:V)(H':Hp):Prop:=
 (∃kvs k,H a=AA (.dK kvs)/\y=kV k/\kvs.length<sizeLine/\H'=upd H a (.dK (putK kvs k v))) \/
 ∃kvs k b,H a=AA (.dT kvs)/\y=.ref b/\H b=AA (.tup (k.map kV))/\kvs.length<sizeLine/\H'=upd H a (.dT (putK kvs k v))
section
variable {X:Cx}{pins:List (AI×Bs)}{σ:St}{H:Hp}{s:AJ}{a:AI}{y v:V}{u r:AF}{o:Option V}{A:Am}{E:AF->AJ->Prop}
theorem Inv.big(I:Inv X pins σ H s):sysModules<s.heap.objs.size:=by
 have h:mainGlobals<s.heap.objs.size:=(I.mod.glob.keeps I.bk).lt;exact Nat.lt_trans (by decide) h
theorem zhz{h':Ay}{t':Nat}{ob:HO}(I:Inv X pins σ H s)(mu:Mut (H a))(hs:C1 a s.heap h')(he:∃q,h'.get? a=AA q)(new:yP X.prog X.w (upd H a ob) h' a ob):
  Inv X pins σ (upd H a ob) {s with heap:=h',toks:=t'}:=
 I.write (x:=a) (e:=a) mu (.inl rfl) (λb q hb z=>(hs.2 b hb).trans z) he new
theorem zlJ{P:A7}{w:Ag}{H':Hp}{h':Ay}{kvs:List (Key×V)}{vs:List (Key×AF)}(z:kvs.length<=sizeLine)(hd:(a==sysModules)=AD)(rel:KV kvs vs)(dd:h'.DictOf (yL P w) a vs):
  yP P w H' h' a (.dK kvs):=⟨z,hd,vs,rel,dd⟩
theorem zhi{H':Hp}{Q:Unit->AJ->Prop}(hu:A.units+1<cLine)(I:Inv X pins σ H s)(g:yev H a y v H')(ry:RelV y u)(rv:RelV v r)(h:∀s',Inv X pins σ H' s'->Q () s'):
  A3 (model X.prog X.w) A (setItem (.ref a) u r) Q E s:=by
 rcases g with⟨kvs,k,e,ey,l,eH⟩|⟨kvs,k,b,e,ey,eb,l,eH⟩
 .subst ey eH;let⟨z,hd,vs,rel,dd⟩:=znE I.hok e;have hz:vs.length<=sizeLine:=by rw[<-rel.length];exact z
  have hl:(putK kvs k v).length<=sizeLine:=by have:=zcn kvs k v;lia
  refine wpAny_setItem_pairs (hsz:=hz) (zjK ry) dd λh' dd' hs=>h _ ?_;have he:∃q,h'.get? a=AA q:=let ⟨q,_,_,hq,_⟩:=dd';⟨q,hq⟩
  exact zhz I (by rw[e];exact C2) hs he (zlJ hl hd (rel.put k rv) dd')
 .subst ey eH
  cases (show u=Af b from ry)
  let⟨z,hd,xs,rel,dd⟩:=zn0 I.hok e;have hz:xs.length<=sizeLine:=by rw[<-EH rel];exact z
  have hl:(putK kvs k v).length<=sizeLine:=by have:=zcn kvs k v;lia
  refine wpAny_setItem_heap (hsz:=hz) (F1 hu) (zhJ I.hok eb) dd λh' dd' hs=>h _ ?_;let⟨q,es,ep,hq,h2,h3,h4,_,h5⟩:=dd';refine zhz I (by rw[e];exact C2) hs ⟨q,hq⟩ ⟨hl,hd,_,(rel.put k eb rv).keeps λc ys ec=>?_,q,es,ep,hq,h2,h3,h4,h5⟩;rw[zh (znT ec e (λz=>nomatch z))];exact ec
end
section
variable {X:Cx}{pins:List (AI×Bs)}{σ:St}{H:Hp}{s:AJ}{a:AI}{kvs:List (Key×V)}{k:Key}{u:AF}{A:Am}{E:AF->AJ->Prop}
end
def ycD(i:AS):Prop:=∀ov iv,subscripted i AD ov iv=operate [ov,iv] (getItem ov iv)
theorem zhC{prog:A7}{w:Ag}{A:Am}{E:AF->AJ->Prop}{s:AJ}{env:Env}{value slice:AS}{pos:CH}{T id:String}{Q:AF->AJ->Prop}
  (hl:typeLookup (.type T) "__getitem__"=pure (AA (.builtin id))) (hs:ycD slice)
  (h:A3 (model prog w) A (eval value env) (λo s₁=>A3 (model prog w) A (eval slice env) (λi s₂=>s₂.TypeIs o T/\A3 (model prog w) A (getItem o i) Q E s₂) E s₁) E s):
  A3 (model prog w) A (eval (.Subscript value slice pos) env) Q E s:=by
 refine G4 (CL h (λo s₁ h₁=>CL h₁ (λi s₂ h₂=>?_) λ_ _ x=>x) λ_ _ x=>x);let⟨hT,h₂⟩:=h₂;unfold subscriptTail;refine AH ?_;rw[getitemInPython_of_ne hT.not_modules];refine AH (wpAny_specialOf hT hl ?_);have fin:A3 (model prog w) A (subscripted slice AD o i) (λr s₃=>A3 (model prog w) A (letTemporaryGo value o r >>= λ_=>pure r) Q E s₃) E s₂:=by
  rw[hs o i];exact wpAny_operating (CL h₂ (λr s₃ h₃=>AH (wpAny_letTemporaryGo (AV h₃))) λ_ _ x=>x)
 first
  |exact AV (AH fin)
  |exact AH (AV (AH fin))
  |exact AH fin
def ydW(td ty tv:TE):TS:=λD σ H=>tv σ H λv H1=>td σ H1 λx H2=>ty σ H2 λy H3=>∃a H4,x=.ref a/\yev H3 a y v H4/\D.nx σ H4
section
variable {X:Cx}{o i e value:AS}{pos pos' tpos:CH}{td ty tv:TE}
theorem zkN(hu:X.A.units+1<cLine)(ho:PE X o td)(hi:PE X i ty)(hv:PE X value tv)(hs:swapsWith value (AA (.Subscript o i pos')) pos.line X.env=pure AD):
  PS X (.Assign [.Subscript o i pos'] value pos) (ydW td ty tv):=by
 intro pins s σ H D I h;refine wpAny_Assign_Subscript (thn (hv pins s σ H _ I h) λr s1 kq=>?_) hs;let⟨v,H1,I1,rv,q1⟩:=kq;refine thn (ho pins s1 σ H1 _ I1 q1) λu s2 kq=>?_;let⟨x,H2,I2,rx,q2⟩:=kq;refine thn (hi pins s2 σ H2 _ I2 q2) λiv s3 kq=>?_;let⟨y,H3,I3,ry,a,H4,ex,g,q3⟩:=kq;subst ex;obtain rfl:u=Af a:=rx;exact zhi hu I3 g ry rv λs4 I4=>⟨σ,H4,I4,q3⟩
end
theorem zhZ{P:A7}{w:Ag}{H:Hp}(h:Ay)(hb:sysModules<h.objs.size):yP P w H (h.push {cls:=.type "dict",data:=.dict #[]}) h.objs.size (.dT []):=
 ⟨Cy _,beq_eq_false_iff_ne.mpr (BI (Ah hb)),[],.nil,_,#[],0,A0 _ rfl,⟨rfl,rfl,rfl⟩,rfl,rfl,List.nodup_nil⟩
def yc0:TE:=λ_ H Q=>∀p,H p=AC->Q (.ref p) (upd H p (.dT []))
section
variable {X:Cx}{pos:CH}
theorem ybS:PE X (.Dict [] [] pos) yc0:=λpins s σ H Q I h=>
 wpAny_Dict_empty ⟨.ref s.heap.objs.size,_,I.laid (a:=s.heap.objs.size) (o:=.dT []) (t':=s.toks) (λ_ _ q=>AN _ q) (AU _) (zhZ s.heap I.big),rfl,h _ (I.hok.fresh (AU _))⟩
end
structure M2(X:Cx)(o:AS)(m:AQ)(apos:CH)(e f:AS)(cpos:CH):Prop where
 base:attributeBase o m X.env (eval o X.env)=eval o X.env
 few:((backTo cpos (starEach [e,f] X.env)).all (λx=>!x.1)&&(backToKw cpos (keywordEach [] X.env)).all (λx=>x.1.isSome)
  && decide (([e,f]:List AS).length+([]:List CQ).length+(if ([]:List CQ).isEmpty then 0 else 1)<30))=AB
 line:(apos.endLine==cpos.line)=AB
 trees:backTo cpos (starEach [e,f] X.env)=[(AD,eval e X.env),(AD,eval f X.env)]
def IsD(H:Hp)(a:AI):Prop:=(∃kvs,Rd H a (.dK kvs)) \/ ∃kvs,Rd H a (.dT kvs)
theorem znk{X:Cx}{pins:List (AI×Bs)}{σ:St}{H:Hp}{s:AJ}{a:AI}(I:Inv X pins σ H s)(d:IsD H a):
  s.TypeIs (.ref a) "dict"/\(∀b,Af a=.ref b->∃ob,s.heap.get? b=AA ob/\ob.dict=AC)/\(a==sysModules)=false:=by
 rcases d with⟨kvs,e⟩|⟨kvs,e⟩
 .let⟨_,hd,vs,_,dd⟩:=zkk I.hok e;refine⟨dd.typeIs,λb q=>?_,hd⟩
  cases q
  let⟨ob,_,_,h1,h2,_⟩:=dd;exact⟨ob,h1,h2.2.1⟩
 .let⟨_,hd,xs,_,dd⟩:=zjI I.hok e;refine⟨dd.typeIs,λb q=>?_,hd⟩
  cases q
  let⟨ob,_,_,h1,h2,_⟩:=dd;exact⟨ob,h1,h2.2.1⟩
section
variable {X:Cx}{pins:List (AI×Bs)}{σ:St}{H:Hp}{s:AJ}{a:AI}{y d:V}{u r:AF}{o:Option V}{A:Am}{E:AF->AJ->Prop}
theorem zmN{Q:AF->AJ->Prop}(hu:A.units+1<cLine)(I:Inv X pins σ H s)(g:yeG H a y o)(ry:RelV y u)(rd:RelV d r)(h:∀w' s',Inv X pins σ H s'->RelV (o.getD d) w'->Q w' s'):
  A3 (model X.prog X.w) A (call (.builtin "dict.get") [.ref a,u,r]) Q E s:=by
 rcases g with⟨kvs,k,e,ey,l⟩|⟨kvs,k,b,e,ey,eb,l⟩
 .subst ey;let⟨z,hd,vs,rel,dd⟩:=zkk I.hok e;refine call_meetsIn DM dd.typeIs Eb (ER _ _ _) (meets_dict_get_default (yL X.prog X.w) a (zjK ry) hd r) ⟨_,dd.mapOf,h _ _ (I.tok _) ?_⟩;rw[l];exact(rel.val k).getD rd
 .subst ey
  cases (show u=Af b from ry)
  let⟨z,hd,xs,rel,dd⟩:=zjI I.hok e;refine call_meetsIn DM dd.typeIs Eb (ER _ _ _) (meetsH_dict_get_default (tupleKind (yL X.prog X.w)) a b hd r) ⟨F1 hu,k,xs,zhJ I.hok eb,dd,h _ _ (I.tok _) ?_⟩;rw[l];exact(rel.val k).getD rd
end
def yde(td ty tx:TE):TE:=λσ H Q=>td σ H λx H1=>∃a,x=.ref a/\IsD H1 a/\ty σ H1 λy H2=>tx σ H2 λz H3=>∃o,yeG H3 a y o/\Q (o.getD z) H3
section
variable {X:Cx}{o e f:AS}{apos cpos:CH}{td ty tx:TE}
theorem zia(hu:X.A.units+1<cLine)(ho:PE X o td)(he:PE X e ty)(hf:PE X f tx)(m:M2 X o "get" apos e f cpos):PE X (.Call (.Attribute o "get" apos) [e,f] [] cpos) (yde td ty tx):=by
 intro pins s σ H Q I h;refine wpAny_Call_method m.base m.few m.line PySem.F.plainAttrs_dict DM PySem.F.type_dict_get (thn (ho pins s σ H _ I h) λu s1 kq=>?_);let⟨x,H1,I1,rx,a,ex,d,q1⟩:=kq;subst ex;obtain rfl:u=Af a:=rx;let⟨t1,t2,_⟩:=znk I1 d;refine⟨t1,t2,?_⟩;rw[m.trees];refine E9 rfl (Es (Dl (thn (he pins s1 σ H1 _ I1 q1) λiv s2 ⟨y,H2,I2,ry,q2⟩=>
  Dl (thn (hf pins s2 σ H2 _ I2 q2) λfv s3 ⟨z,H3,I3,rz,ov,g,q3⟩=>F9 ?_))))
 exact zmN hu I3 g ry rz λw' s4 I4 rw'=>⟨_,H3,I4,rw',q3⟩
end
section
variable {X:Cx}{pins:List (AI×Bs)}{σ:St}{H:Hp}{s:AJ}{a:AI}{kvs:List (Key×V)}{A:Am}{E:AF->AJ->Prop}
end
section
variable {X:Cx}{pins:List (AI×Bs)}{σ:St}{H:Hp}{s:AJ}{a:AI}{y:V}{u:AF}{A:Am}{E:AF->AJ->Prop}
end
end L2
namespace IC
open PySem
inductive PV where
 |non|bl (b:Bool)|int (i:Int)|str (x:AQ)|tp (k:Bool) (xs:List PV)|lst (xs:List PV)|loc (n:Nat)|exn (c:Nat)|scr (xs:List PV)
deriving Inhabited
noncomputable abbrev PV.tup(xs:List PV):PV:=.tp AD xs
mutual
noncomputable def nL:PV->Bool
 |.loc _=>AD
 |.exn _=>AD
 |.tp _ xs=>nLs xs
 |.lst xs=>nLs xs
 |.scr xs=>nLs xs
 |_=>AB
noncomputable def nLs:List PV->Bool
 |[]=>AB
 |x::xs=>nL x&&nLs xs
end
mutual
noncomputable def shd(n:Nat):PV->Bool
 |.non=>AB
 |.bl _=>AB
 |.int _=>AB
 |.str x=>x.cps.all (· < 0x110000)
 |.tp _ xs=>decide (0<n)&&ybd (n-1) xs
 |.lst xs=>decide (0<n)&&ybd (n-1) xs
 |_=>AD
noncomputable def ybd(n:Nat):List PV->Bool
 |[]=>AB
 |x::xs=>shd n x&&ybd n xs
end
abbrev shp(v:PV):Bool:=shd 60 v
noncomputable def flat:PV->Bool
 |.non=>AB
 |.bl _=>AB
 |.int _=>AB
 |.str _=>AB
 |_=>AD
noncomputable def bi(b:Bool):Int:=if b then 1 else 0
mutual
noncomputable def peq:PV->PV->Bool
 |.non,.non=>AB
 |.bl a,.bl b=>a==b
 |.bl a,.int j=>bi a==j
 |.int i,.bl b=>i==bi b
 |.int i,.int j=>i==j
 |.str x,.str y=>x==y
 |.tp _ xs,.tp _ ys=>ya6 xs ys
 |.lst xs,.lst ys=>ya6 xs ys
 |_,_=>AD
noncomputable def ya6:List PV->List PV->Bool
 |[],[]=>AB
 |x::xs,y::ys=>peq x y&&ya6 xs ys
 |_,_=>AD
end
inductive Ob where
 |lst (xs:List PV)|dct (t:Bool) (kvs:List (PV×PV))|dead|ins (c:Nat) (fs:List (AQ×PV))
noncomputable abbrev Env:=List (Option PV)
noncomputable abbrev SO:=List Ob
inductive R(α:Type) where
 |ok (a:α) (st:SO)|exc (c:Nat) (st:SO)|bad
noncomputable def R.bind{α β:Type}(r:R α)(k:α->SO->R β):R β:=
 match r with
 |.ok a st=>k a st
 |.exc c st=>.exc c st
 |.bad=>.bad
inductive BOp where
 |add|sub|mul|fdiv|mod|pow|shl|shr|band|bor|bxor
inductive COp where
 |eq|ne|lt|le|gt|ge|is|isnot|isin|notin
inductive Ty where
 |int|bool|str|tuple|list|cls (c:Nat)|val
inductive Blt where
 |len|int|abs|min|max|tuple|list|all|sum|dict|rev|str|any
inductive Mth where
 |append|extend|get|bits|upper|insert|count|index|join|split|sidx|clear
inductive Tg where
 |n (i:Nat)|t (l:List Nat)
set_option genInjectivity false
mutual
inductive Ce where
 |cst (v:PV)
 |var (i:Nat)
 |bin (o:BOp) (a b:Ce)
 |neg (a:Ce)
 |not (a:Ce)
 |and (a b:Ce)
 |or (a b:Ce)
 |cmp (o:COp) (a b:Ce)
 |chain (o p:COp) (a b c:Ce)
 |ite (c a b:Ce)
 |tup (es:Ces)
 |lst (es:Ces)
 |newl (es:Ces)
 |dict0 (t:Bool)
 |idx (a i:Ce)
 |slc (a:Ce) (lo hi:Ce)
 |call (f:Nat) (args:Ces)
 |blt (b:Blt) (args:Ces)
 |mth (m:Mth) (o:Ce) (args:Ces)
 |isi (a:Ce) (t:List Ty)
 |comp (sl:List (Option Nat)) (tg:Tg) (it:Cit) (c:Ce) (e:Ce)
 |frz (a:Ce)
 |nope
 |dix (D:List (AQ×PV)) (a:Ce)
 |din (a:Ce) (D:List (AQ×PV))
 |fld (c:Nat) (a:Ce) (f:AQ)
 |new (c i:Nat) (es:Ces)
 |mcl (c i:Nat) (m:AQ) (o:Ce) (es:Ces)
inductive Ces where
 |nil
 |cons (e:Ce) (es:Ces)
inductive Cit where
 |seq (e:Ce)
 |range1 (a:Ce)
 |range2 (a b:Ce)
 |rangeD (a b:Ce)
 |enum (e:Ce)
 |zip (a b:Ce)
 |revl (e:Ce)
 |revr (a:Ce)
 |chars (e:Ce)
end
set_option genInjectivity true
abbrev Ce.i(n:Int):Ce:=.cst (.int n)
abbrev Ce.s(x:AQ):Ce:=.cst (.str x)
abbrev Ce.v:=Ce.var
abbrev Ces.k:=Ces.cons
abbrev Ces.e:=Ces.nil
mutual
inductive Cs where
 |expr (e:Ce)
 |asg (t:Tg) (e:Ce)
 |six (o i e:Ce)
 |dput (o i e:Ce)
 |aug (i:Nat) (o:BOp) (e:Ce)
 |ret (e:Ce)
 |ite (c:Ce) (a b:Css)
 |for (t:Tg) (it:Cit) (b:Css)
 |while (c:Ce) (b:Css)
 |nope
 |sfl (c:Nat) (o:Ce) (f:AQ) (e:Ce)
 |mkr (i:Nat) (D:List (AQ×Nat)) (n:Ce) (es:Ces)
inductive Css where
 |nil
 |cons (s:Cs) (ss:Css)
end
abbrev Css.k:=Css.cons
abbrev Css.e:=Css.nil
noncomputable def yaw(i j:Int):Bool:=(decide (i.natAbs<18446744073709551616)) || (decide (j.natAbs<18446744073709551616))
def binI(o:BOp)(i j:Int):Option PV:=
 match o with
 |.add=>AA (.int (i+j))
 |.sub=>AA (.int (i-j))
 |.mul=>if yaw i j then AA (.int (i*j))else AC
 |.fdiv=>if 0<j/\j<10000000000000000000000000000000000000000000000000000000000000000000000 then AA (.int (i/j))else AC
 |.mod=>if 0<j then AA (.int (i%j))else AC
 |.pow=>if 0<=j/\j<=1000000/\i.natAbs<18446744073709551616 then AA (.int (i^j.toNat))else AC
 |.shl=>if 0<=j/\j<=1000000/\i.natAbs<18446744073709551616 then AA (.int (i*2^j.toNat))else AC
 |.shr=>if 0<=j then AA (.int (i/2^j.toNat))else AC
 |.band=>AA (.int (Ab i j))
 |.bor=>AA (.int (BD i j))
 |.bxor=>AA (.int (Ax i j))
noncomputable def sizeMax:Nat:=16777216
noncomputable def ydA(k:Bool)(a:List PV)(j:Bool)(b:List PV):PV:=if a.isEmpty then .tp j b else if b.isEmpty then .tp k a else .tup (a++b)
def yr(o:BOp)(x y:PV):Option PV:=
 match x,y with
 |.int i,.int j=>binI o i j
 |.int i,.bl b=>match o with
  |.add=>AA (.int (i+bi b))
  |_=>AC
 |.str a,.str b=>match o with
  |.add=>if a.length+b.length<=sizeMax then AA (.str (a++b))else AC
  |_=>AC
 |.tp k a,.tp j b=>match o with
  |.add=>if a.length+b.length<=sizeMax then AA (ydA k a j b)else AC
  |_=>AC
 |.lst a,.lst b=>match o with
  |.add=>if a.length+b.length<=sizeMax then AA (.lst (a++b))else AC
  |_=>AC
 |_,_=>AC
def ybv(o:BOp)(x y:PV):Option PV:=
 match x,y with
 |.int i,.int j=>binI o i j
 |_,_=>AC
noncomputable def isNon:PV->Bool
 |.non=>AB
 |_=>AD
def inL(x:PV):List PV->Bool
 |[]=>AD
 |y::ys=>peq y x || inL x ys
noncomputable def inS(a b:AQ):Bool:=(C0 (b.length+1)).any λi=>decide (i+a.length<=b.length)&&(b.cps.extract i (i+a.length)==a.cps)
noncomputable def ybm(o:COp)(i j:Int):Option PV:=
 match o with
 |.lt=>AA (.bl (decide (i<j)))
 |.le=>AA (.bl (decide (i<=j)))
 |.gt=>AA (.bl (decide (j<i)))
 |.ge=>AA (.bl (decide (j<=i)))
 |_=>AC
noncomputable def ydJ(o:COp)(a b:AQ):Option PV:=
 match o with
 |.lt=>AA (.bl (decide (a.cps.toList<b.cps.toList)))
 |.le=>AA (.bl (!decide (b.cps.toList<a.cps.toList)))
 |_=>AC
def yx(o:COp)(x y:PV):Option PV:=
 match o with
 |.eq=>if shp x&&shp y then AA (.bl (peq x y))else AC
 |.ne=>if shp x&&shp y then AA (.bl (!peq x y))else AC
 |.is=>match y with
  |.non=>AA (.bl (isNon x))
  |.bl b=>match x with
   |.bl a=>AA (.bl (a==b))
   |_=>AC
  |_=>AC
 |.isnot=>match y with
  |.non=>AA (.bl (!isNon x))
  |.bl b=>match x with
   |.bl a=>AA (.bl (!(a==b)))
   |_=>AC
  |_=>AC
 |.isin=>match x,y with
  |.str a,.str b=>AA (.bl (inS a b))
  |x,.tp _ l=>if flat x&&l.all flat then AA (.bl (inL x l))else AC
  |x,.lst l=>if flat x&&l.all flat then AA (.bl (inL x l))else AC
  |_,_=>AC
 |.notin=>match x,y with
  |.str a,.str b=>AA (.bl (!inS a b))
  |x,.tp _ l=>if flat x&&l.all flat then AA (.bl (!inL x l))else AC
  |x,.lst l=>if flat x&&l.all flat then AA (.bl (!inL x l))else AC
  |_,_=>AC
 |o=>match x,y with
  |.int i,.int j=>ybm o i j
  |.str a,.str b=>ydJ o a b
  |_,_=>AC
def yaF(st:SO)(x:PV):Option Bool:=
 match x with
 |.non=>AA AD
 |.bl b=>AA b
 |.int i=>AA (i != 0)
 |.str y=>if y.length<=sizeMax then AA ((y.length:Int) != 0)else AC
 |.tp _ xs=>AA (!xs.isEmpty)
 |.lst xs=>AA (!xs.isEmpty)
 |.loc n=>match st[n]? with
  |some (.lst xs)=>AA (!xs.isEmpty)
  |_=>AC
 |_=>AC
noncomputable def ixI(n:Nat)(i:Int):Option Nat:=if 0<=i then(if i<n then AA i.toNat else AC)else if -(n:Int)<=i then AA (i+n).toNat else AC
def at?{α:Type}(xs:List α)(i:Int):Option α:=(ixI xs.length i).bind λj=>xs[j]?
def look(k:PV):List (PV×PV)->Option PV
 |[]=>AC
 |(a,b)::r=>if peq a k then AA b else look k r
def put(k v:PV)(kvs:List (PV×PV)):List (PV×PV):=
 if (kvs.any λp=>peq p.1 k)=AB then kvs.map (λp=>if peq p.1 k=AB then(p.1,v)else p)else kvs++[(k,v)]
noncomputable def ybn:PV->Bool
 |.int _=>AB
 |.str _=>AB
 |_=>AD
def isKey(t:Bool)(k:PV):Bool:=
 match t with
 |false=>ybn k
 |true=>match k with
  |.tp AD xs=>xs.all ybn
  |_=>AD
noncomputable def yaS{α:Type}(xs:List α)(i:PV):Option α:=
 match i with
 |.int k=>at? xs k
 |_=>AC
def idxV(st:SO)(x i:PV):Option PV:=
 match x with
 |.tp _ xs=>yaS xs i
 |.lst xs=>yaS xs i
 |.str s=>if s.length<=sizeMax then(yaS s.cps.toList i).map λc=>.str ⟨#[c]⟩else AC
 |.loc n=>match st[n]? with
  |some (.lst xs)=>yaS xs i
  |_=>AC
 |_=>AC
noncomputable def ybO(n:Nat)(v:Int):Nat:=if v<0 then(v+(n:Int)).toNat else min v.toNat n
def ycy(n:Nat)(lo:Option Int):Nat:=
 match lo with
 |none=>0
 |some i=>ybO n i
def ydh(n:Nat)(hi:Option Int):Nat:=
 match hi with
 |none=>n
 |some i=>ybO n i
def cut{α:Type}(xs:List α)(lo hi:Option Int):List α:=(xs.drop (ycy xs.length lo)).take (ydh xs.length hi-ycy xs.length lo)
noncomputable def ybW:PV->Option (Option Int)
 |.non=>AA AC
 |.int i=>AA (AA i)
 |_=>AC
def yce(x:PV)(a b:Option Int):Option PV:=
 match x with
 |.tp k xs=>if ycy xs.length a=0/\ydh xs.length b=xs.length then AA (.tp k xs)else AA (.tup (cut xs a b))
 |.str s=>if s.length<=sizeMax then AA (.str ⟨(cut s.cps.toList a b).toArray⟩)else AC
 |.lst xs=>AA (.lst (cut xs a b))
 |.scr xs=>AA (.lst (cut xs a b))
 |_=>AC
def ycx(x:PV)(a:Option Int)(hi:PV):Option PV:=
 match ybW hi with
 |some b=>yce x a b
 |none=>AC
noncomputable def ybi(x:PV)(t:Ty):Bool:=
 match x,t with
 |.int _,.int=>AB
 |.bl _,.int=>AB
 |.bl _,.bool=>AB
 |.str _,.str=>AB
 |.tp _ _,.tuple=>AB
 |.lst _,.list=>AB
 |.exn c,.cls d=>c==d
 |.exn _,.val=>AB
 |_,_=>AD
noncomputable def ydf:Ty->Bool
 |.cls _=>AD
 |.val=>AD
 |_=>AB
def ya5(x:PV)(ts:List Ty):Option PV:=
 match x with
 |.loc _=>AC
 |.scr _=>AC
 |.exn c=>if ts.all ydf then AC else AA (.bl (ts.any (ybi (.exn c))))
 |x=>match ts with
  |[t]=>if ydf t then AA (.bl (ybi x t))else AC
  |_=>AC
noncomputable def allB:List PV->Option Bool
 |[]=>AA AB
 |.bl b::r=>match allB r with
  |some c=>AA (b&&c)
  |none=>AC
 |_::_=>AC
noncomputable def yeT:List PV->Option Int
 |[]=>AA 0
 |.int i::r=>match yeT r with
  |some c=>AA (i+c)
  |none=>AC
 |_::_=>AC
noncomputable def ycR:List PV->Option Int
 |[]=>AC
 |[.int i]=>AA i
 |.int i::r=>match ycR r with
  |some c=>AA (if i<c then c else i)
  |none=>AC
 |_::_=>AC
noncomputable def ybL(st:SO):PV->Option (List PV)
 |.tp _ xs=>AA xs
 |.lst xs=>AA xs
 |.loc n=>match st[n]? with
  |some (.lst xs)=>AA xs
  |_=>AC
 |_=>AC
noncomputable def yX(st:SO):PV->Option (List PV)
 |.lst xs=>AA xs
 |.loc n=>match st[n]? with
  |some (.lst xs)=>AA xs
  |_=>AC
 |_=>AC
def lenV(st:SO)(x:PV):Option PV:=
 match x with
 |.str s=>if s.length<=sizeMax then AA (.int s.length)else AC
 |x=>(ybL st x).map λxs=>.int xs.length
def yeg(x:PV):Option PV:=
 match x with
 |.int i=>AA (.int i)
 |.bl k=>AA (.int (bi k))
 |_=>AC
noncomputable def yd9(x:PV):Option PV:=
 match x with
 |.int i=>AA (.int (if i<0 then -i else i))
 |_=>AC
noncomputable def yfJ(x y:PV):Option PV:=
 match x,y with
 |.int i,.int j=>AA (.int (if j<i then j else i))
 |_,_=>AC
noncomputable def maxV(x y:PV):Option PV:=
 match x,y with
 |.int i,.int j=>AA (.int (if i<j then j else i))
 |_,_=>AC
def ydO(st:SO)(x:PV):Option PV:=
 match x with
 |.tp k xs=>AA (.tp k xs)
 |x=>(yX st x).map .tup
noncomputable def ydK:PV->Option PV
 |.tp _ xs=>if xs.isEmpty then AC else AA (.tup xs.reverse)
 |.lst xs=>AA (.lst xs.reverse)
 |_=>AC
noncomputable def anyB:List PV->Option Bool
 |[]=>AA AD
 |.bl b::r=>match anyB r with
  |some c=>AA (b || c)
  |none=>AC
 |_=>AC
noncomputable def anyI:List PV->Option Bool
 |[]=>AA AD
 |.int i::r=>match anyI r with
  |some c=>AA ((i != 0) || c)
  |none=>AC
 |_=>AC
noncomputable def yfR:PV->Option PV
 |.int i=>if i=0 then AA (.str "0")else if i=1 then AA (.str "1")else AC
 |_=>AC
def yay(b:Blt)(st:SO)(vs:List PV):Option PV:=
 match vs with
 |[x]=>match b with
  |.len=>lenV st x
  |.int=>yeg x
  |.abs=>yd9 x
  |.max=>(yX st x).bind λxs=>(ycR xs).map .int
  |.tuple=>ydO st x
  |.list=>(ybL st x).map .lst
  |.all=>(yX st x).bind λxs=>(allB xs).map .bl
  |.sum=>(yX st x).bind λxs=>(yeT xs).map .int
  |.rev=>ydK x
  |.str=>yfR x
  |.any=>match x with
   |.tp _ xs=>(anyI xs).map .bl
   |x=>(yX st x).bind λxs=>(anyB xs).map .bl
  |_=>AC
 |[x,y]=>match b with
  |.min=>yfJ x y
  |.max=>maxV x y
  |_=>AC
 |_=>AC
noncomputable def yaZ(st:SO):PV->Option (Bool×List (PV×PV))
 |.loc n=>match st[n]? with
  |some (.dct t xs)=>AA (t,xs)
  |_=>AC
 |_=>AC
def yaO(m:Mth)(st:SO)(x:PV):Option Bool:=
 match m with
 |.append=>(yX st x).map λ_=>AB
 |.extend=>(yX st x).map λ_=>AB
 |.insert=>(yX st x).map λ_=>AB
 |.count=>(yX st x).map λ_=>AB
 |.index=>(yX st x).map λ_=>AB
 |.get=>(yaZ st x).map λ_=>AB
 |.bits=>match x with
  |.int _=>AA AB
  |_=>AC
 |.upper=>match x with
  |.str _=>AA AB
  |_=>AC
 |.join=>match x with
  |.str _=>AA AB
  |_=>AC
 |.split=>match x with
  |.str _=>AA AB
  |_=>AC
 |.sidx=>match x with
  |.str _=>AA AB
  |_=>AC
 |.clear=>match x with
  |.loc n=>(yX st (.loc n)).map λ_=>AB
  |_=>AC
noncomputable def ydZ(st:SO)(o v:PV):R PV:=
 match o with
 |.loc n=>match st[n]? with
  |some (.lst xs)=>if xs.length<1000000 then .ok .non (st.set n (.lst (xs++[v])))else .bad
  |_=>.bad
 |_=>.bad
noncomputable def yfp(st:SO)(o v:PV):R PV:=
 match o with
 |.loc n=>match st[n]? with
  |some (.lst xs)=>match v with
   |.lst ys=>if xs.length+ys.length<=1000000 then .ok .non (st.set n (.lst (xs++ys)))else .bad
   |_=>.bad
  |_=>.bad
 |_=>.bad
noncomputable def ygE(st:SO)(o i v:PV):R PV:=
 match o with
 |.loc n=>match st[n]? with
  |some (.lst xs)=>match i with
   |.int k=>if 0<=k/\k<=xs.length/\xs.length<1000000 then .ok .non (st.set n (.lst (xs.take k.toNat++v::xs.drop k.toNat)))else .bad
   |_=>.bad
  |_=>.bad
 |_=>.bad
def ydm(st:SO)(o k d:PV):R PV:=
 match yaZ st o with
 |some (t,kvs)=>if isKey t k then .ok ((look k kvs).getD d) st else .bad
 |none=>.bad
def ygB(st:SO)(o v:PV):R PV:=
 match yX st o with
 |some xs=>if flat v&&xs.all flat then .ok (.int (xs.countP λy=>peq y v)) st else .bad
 |none=>.bad
def ycU(v:PV):List PV->Option Nat
 |[]=>AC
 |y::ys=>if peq y v then AA 0 else(ycU v ys).map (·+1)
def yfF(st:SO)(o v:PV):R PV:=
 match yX st o with
 |some xs=>if flat v&&xs.all flat then(match ycU v xs with
  |some j=>.ok (.int j) st
  |none=>.bad)else .bad
 |none=>.bad
noncomputable def upC(c:Nat):Nat:=if 97<=c/\c<=122 then c-32 else c
def upS(s:AQ):Str:=⟨(s.cps.toList.map upC).toArray⟩
noncomputable def ybK(c:Nat):List Nat->List (List Nat)
 |[]=>[[]]
 |x::xs=>if x=c then []::ybK c xs else match ybK c xs with
  |[]=>[[x]]
  |p::ps=>(x::p)::ps
noncomputable def strsOf:List PV->Option (List AQ)
 |[]=>AA []
 |.str s::r=>(strsOf r).map (s :: ·)
 |_=>AC
def yee(st:SO)(o v:PV):R PV:=
 match o,yX st v with
 |.str s,AA xs=>match strsOf xs with
  |some ys=>if s.length<=10/\xs.length<=1000/\(ys.all λy=>decide (y.length<=1000))=AB then .ok (.str (Str.join s ys)) st else .bad
  |none=>.bad
 |_,_=>.bad
noncomputable def yfK(st:SO)(o:PV):R PV:=
 match o with
 |.loc n=>match st[n]? with
  |some (.lst _)=>.ok .non (st.set n (.lst []))
  |_=>.bad
 |_=>.bad
noncomputable def yea(st:SO)(o v:PV):R PV:=
 match o,v with
 |.str s,.str y=>if s=AG "01" then(if y=AG "0" then .ok (.int 0) st else if y=AG "1" then .ok (.int 1) st else .bad)else .bad
 |_,_=>.bad
def ycT(st:SO)(o v:PV):R PV:=
 match o,v with
 |.str s,.str y=>match y.cps.toList with
  |[c]=>if s.length<=100000 then .ok (.lst ((ybK c s.cps.toList).map λl=>.str ⟨l.toArray⟩)) st else .bad
  |_=>.bad
 |_,_=>.bad
def ycl(m:Mth)(st:SO)(o:PV)(vs:List PV):R PV:=
 match m,vs with
 |.append,[v]=>ydZ st o v
 |.extend,[v]=>yfp st o v
 |.insert,[i,v]=>ygE st o i v
 |.get,[k,d]=>ydm st o k d
 |.count,[v]=>ygB st o v
 |.index,[v]=>yfF st o v
 |.join,[v]=>yee st o v
 |.split,[v]=>ycT st o v
 |.sidx,[v]=>yea st o v
 |.clear,[]=>yfK st o
 |.bits,[]=>match o with
  |.int i=>.ok (.int (Builtin.Int.intBits i)) st
  |_=>.bad
 |.upper,[]=>match o with
  |.str s=>if s.cps.toList.all (· < 128)/\s.length<=1000000 then .ok (.str (upS s)) st else .bad
  |_=>.bad
 |_,_=>.bad
noncomputable def toR(o:Option PV)(st:SO):R PV:=
 match o with
 |some v=>.ok v st
 |none=>.bad
noncomputable def yH(t:Tg)(v:PV)(ρ:Env):Option Env:=
 match t,v with
 |.n i,v=>AA (ρ.set i (AA v))
 |.t l,.tp _ xs=>if l.length=xs.length then AA ((l.zip xs).foldl (λρ p=>ρ.set p.1 (AA p.2)) ρ)else AC
 |_,_=>AC
noncomputable def yQ:Nat->List PV->List PV
 |_,[]=>[]
 |k,x::xs=>.tup [.int k,x]::yQ (k+1) xs
noncomputable def ya3:List PV->List PV->List PV
 |x::xs,y::ys=>.tup [x,y]::ya3 xs ys
 |_,_=>[]
noncomputable def yfB:PV->Option (List PV)
 |.tp _ xs=>AA xs.reverse
 |.lst xs=>AA xs.reverse
 |_=>AC
noncomputable def ycI:PV->Option (List PV)
 |.str s=>if s.length<=1000000 then AA (s.cps.toList.map λc=>.str ⟨#[c]⟩)else AC
 |_=>AC
def yeN(x y:PV):Option (List PV):=
 match x,y with
 |.tp _ xs,.tp _ ys=>if xs.length<=ys.length then AA (ya3 xs ys)else AC
 |_,_=>AC
noncomputable def yaJ(s:AQ):List (AQ×PV)->Option PV
 |[]=>AC
 |(a,b)::r=>if decide (a=s)then AA b else yaJ s r
def yeq(D:List (AQ×PV))(x:PV):Option PV:=
 match x with
 |.str s=>yaJ s D
 |_=>AC
def yfG(D:List (AQ×PV))(x:PV):Option PV:=
 match x with
 |.str s=>AA (.bl (yaJ s D).isSome)
 |_=>AC
noncomputable def yh:Nat->Int->Int->List PV
 |0,_,_=>[]
 |n+1,a,d=>.int a::yh n (a+d) d
def ybM(x:PV):Option (List PV):=
 match x with
 |.int j=>if j.natAbs<1000000000 then AA (yh j.toNat 0 1)else AC
 |_=>AC
def ye5(x:PV):Option (List PV):=
 match x with
 |.int j=>if 0<=j/\j<1000000000 then AA (yh j.toNat (j-1) (-1))else AC
 |_=>AC
def ygA(x y:PV):Option (List PV):=
 match x,y with
 |.int i,.int j=>if i.natAbs<1000000000/\j.natAbs<1000000000 then AA (yh (j-i).toNat i 1)else AC
 |_,_=>AC
def ygH(x y:PV):Option (List PV):=
 match x,y with
 |.int i,.int j=>if i.natAbs<1000000000/\j.natAbs<1000000000 then AA (yh (i-j).toNat i (-1))else AC
 |_,_=>AC
noncomputable def toL(o:Option (List PV))(st:SO):R (List PV):=
 match o with
 |some v=>.ok v st
 |none=>.bad
noncomputable def yel(v:PV)(st:SO):R PV:=
 match v with
 |.loc n=>match st[n]? with
  |some (.lst xs)=>.ok (.lst xs) (st.set n .dead)
  |_=>.bad
 |v=>.ok v st
noncomputable def mkV(D:List (AQ×Nat))(b:Bool)(x:PV):Option Nat:=
 match x with
 |.str s=>if b then D.lookup s else AC
 |_=>AC
noncomputable def ybD(c:Nat)(st:SO)(x:PV)(f:AQ):Option PV:=
 match x with
 |.loc n=>match st[n]? with
  |some (.ins d fs)=>if d=c then fs.lookup f else AC
  |_=>AC
 |_=>AC
noncomputable def ybJ(f:AQ)(v:PV):List (AQ×PV)->List (AQ×PV)
 |[]=>[(f,v)]
 |(g,x)::r=>if g=f then(g,v)::r else(g,x)::ybJ f v r
def ya9(c:Nat)(st:SO)(x:PV)(f:AQ)(v:PV):Option SO:=
 match x with
 |.loc n=>match st[n]? with
  |some (.ins d fs)=>if d=c/\fs.length<1000 then AA (st.set n (.ins c (ybJ f v fs)))else AC
  |_=>AC
 |_=>AC
noncomputable def yb5(c:Nat)(m:AQ)(st:SO)(x:PV):Option Bool:=
 match x with
 |.loc n=>match st[n]? with
  |some (.ins d fs)=>if d=c/\fs.lookup m=AC then AA AB else AC
  |_=>AC
 |_=>AC
noncomputable def newV(n:Nat)(v:PV)(st:SO):R PV:=
 match v with
 |.non=>.ok (.loc n) st
 |_=>.bad
noncomputable def ybu(r:R PV):R PV:=
 match r with
 |.ok v st=>.ok v st
 |_=>.bad
inductive Fl where
 |nx (ρ:Env) (st:SO)|rt (v:PV) (st:SO)|bk (ρ:Env) (st:SO)|ct (ρ:Env) (st:SO)|exc (c:Nat) (ρ:Env) (st:SO)|bad
noncomputable def onBl{α:Type}(x:PV)(k:Bool->R α):R α:=
 match x with
 |.bl b=>k b
 |_=>.bad
noncomputable def onO{α:Type}(o:Option Bool)(k:Bool->R α):R α:=
 match o with
 |some b=>k b
 |none=>.bad
noncomputable def onF(o:Option Bool)(k:Bool->Fl):Fl:=
 match o with
 |some b=>k b
 |none=>.bad
noncomputable def onP{α:Type}(o:Option (Option Int))(k:Option Int->R α):R α:=
 match o with
 |some b=>k b
 |none=>.bad
noncomputable def blO(o:Option PV):Option Bool:=
 match o with
 |some (.bl b)=>AA b
 |_=>AC
noncomputable def ybG(o:Option PV)(ys:List PV):List PV:=
 match o with
 |some y=>y::ys
 |none=>ys
def yaL(one:PV->SO->R (Option PV)):List PV->SO->R (List PV)
 |[],st=>.ok [] st
 |x::xs,st=>(one x st).bind λo st1=>(yaL one xs st1).bind λys st2=>.ok (ybG o ys) st2
noncomputable def ybV(r:R (List PV)):R PV:=
 match r with
 |.ok ys st=>if ys.length<=1000000 then .ok (.lst ys) st else .bad
 |_=>.bad
mutual
noncomputable def ev(call:Nat->List PV->SO->R PV)(ρ:Env)(st:SO):Ce->R PV
 |.cst v=>.ok v st
 |.var i=>match ρ[i]? with
  |some (AA v)=>.ok v st
  |_=>.bad
 |.bin o a b=>(ev call ρ st a).bind λx st1=>(ev call ρ st1 b).bind λy st2=>toR (yr o x y) st2
 |.neg a=>(ev call ρ st a).bind λx st1=>match x with
  |.int i=>.ok (.int (-i)) st1
  |_=>.bad
 |.not a=>(ev call ρ st a).bind λx st1=>onBl x λk=>.ok (.bl (!k)) st1
 |.and a b=>(ev call ρ st a).bind λx st1=>onBl x λk=>cond k (ev call ρ st1 b) (.ok (.bl AD) st1)
 |.or a b=>(ev call ρ st a).bind λx st1=>onBl x λk=>cond k (.ok (.bl AB) st1) (ev call ρ st1 b)
 |.cmp o a b=>(ev call ρ st a).bind λx st1=>(ev call ρ st1 b).bind λy st2=>toR (yx o x y) st2
 |.chain o p a b c=>(ev call ρ st a).bind λx st1=>(ev call ρ st1 b).bind λy st2=>onO (blO (yx o x y)) λk=>cond k ((ev call ρ st2 c).bind λz st3=>toR (yx p y z) st3) (.ok (.bl AD) st2)
 |.ite c a b=>(ev call ρ st c).bind λx st1=>onO (yaF st1 x) λk=>cond k (ev call ρ st1 a) (ev call ρ st1 b)
 |.tup es=>(evs call ρ st es).bind λvs st1=>if vs.length<=sizeMax then .ok (.tup vs) st1 else .bad
 |.lst es=>(evs call ρ st es).bind λvs st1=>if vs.length<=sizeMax then .ok (.lst vs) st1 else .bad
 |.newl es=>(evs call ρ st es).bind λvs st1=>if vs.length<=sizeMax then .ok (.loc st1.length) (st1++[.lst vs])else .bad
 |.dict0 t=>.ok (.loc st.length) (st++[.dct t []])
 |.idx a i=>(ev call ρ st a).bind λx st1=>(ev call ρ st1 i).bind λy st2=>toR (idxV st2 x y) st2
 |.slc a l h=>(ev call ρ st a).bind λx st1=>(ev call ρ st1 l).bind λy st2=>onP (ybW y) λo=>(ev call ρ st2 h).bind λz st3=>toR (ycx x o z) st3
 |.call f es=>(evs call ρ st es).bind λvs st1=>call f vs st1
 |.blt b es=>(evs call ρ st es).bind λvs st1=>toR (yay b st1 vs) st1
 |.mth m o es=>(ev call ρ st o).bind λx st1=>onO (yaO m st1 x) λ_=>(evs call ρ st1 es).bind λvs st2=>ycl m st2 x vs
 |.isi a ts=>(ev call ρ st a).bind λx st1=>toR (ya5 x ts) st1
 |.comp sl tg it c e=>(evi call ρ st it).bind λxs st1=>
  let ρ0:Env:=sl.map λo=>o.bind λj=>(ρ[j]?).join
  ybV (yaL (λx st2=>match yH tg x ρ0 with
   |none=>.bad
   |some ρ1=>(ev call ρ1 st2 c).bind λb st3=>onO (yaF st3 b) λk=>cond k ((ev call ρ1 st3 e).bind λy st4=>.ok (AA y) st4) (.ok AC st3)) xs st1)
 |.nope=>.bad
 |.frz a=>(ev call ρ st a).bind λx st1=>yel x st1
 |.dix D a=>(ev call ρ st a).bind λx st1=>toR (yeq D x) st1
 |.din a D=>(ev call ρ st a).bind λx st1=>toR (yfG D x) st1
 |.fld c a f=>(ev call ρ st a).bind λx st1=>toR (ybD c st1 x f) st1
 |.new c i es=>(evs call ρ st es).bind λvs st1=>(ybu (call i (.loc st1.length::vs) (st1++[.ins c []]))).bind λv st2=>newV st1.length v st2
 |.mcl c i m o es=>(ev call ρ st o).bind λx st1=>onO (yb5 c m st1 x) λ_=>(evs call ρ st1 es).bind λvs st2=>call i (x::vs) st2
noncomputable def evs(call:Nat->List PV->SO->R PV)(ρ:Env)(st:SO):Ces->R (List PV)
 |.nil=>.ok [] st
 |.cons e es=>(ev call ρ st e).bind λv st1=>(evs call ρ st1 es).bind λvs st2=>.ok (v::vs) st2
noncomputable def evi(call:Nat->List PV->SO->R PV)(ρ:Env)(st:SO):Cit->R (List PV)
 |.seq e=>(ev call ρ st e).bind λv st1=>match v with
  |.tp _ xs=>.ok xs st1
  |.lst xs=>.ok xs st1
  |_=>.bad
 |.range1 a=>(ev call ρ st a).bind λx st1=>toL (ybM x) st1
 |.range2 a b=>(ev call ρ st a).bind λx st1=>(ev call ρ st1 b).bind λy st2=>toL (ygA x y) st2
 |.rangeD a b=>(ev call ρ st a).bind λx st1=>(ev call ρ st1 b).bind λy st2=>toL (ygH x y) st2
 |.enum e=>(ev call ρ st e).bind λv st1=>match v with
  |.tp _ xs=>.ok (yQ 0 xs) st1
  |_=>.bad
 |.zip a b=>(ev call ρ st a).bind λx st1=>(ev call ρ st1 b).bind λy st2=>toL (yeN x y) st2
 |.revl e=>(ev call ρ st e).bind λv st1=>toL (yfB v) st1
 |.revr a=>(ev call ρ st a).bind λx st1=>toL (ye5 x) st1
 |.chars e=>(ev call ρ st e).bind λv st1=>toL (ycI v) st1
end
noncomputable def R.fl{α:Type}(r:R α)(ρ:Env)(k:α->SO->Fl):Fl:=
 match r with
 |.ok a st=>k a st
 |.exc c st=>.exc c ρ st
 |.bad=>.bad
noncomputable def yai(f:Fl)(k:Env->SO->Fl):Fl:=
 match f with
 |.nx ρ st=>k ρ st
 |.ct ρ st=>k ρ st
 |.bk ρ st=>.nx ρ st
 |f=>f
def forL(t:Tg)(body:Env->SO->Fl):List PV->Env->SO->Fl
 |[],ρ,st=>.nx ρ st
 |x::xs,ρ,st=>match yH t x ρ with
  |none=>.bad
  |some ρ1=>yai (body ρ1 st) λρ2 st2=>forL t body xs ρ2 st2
def yal(test:Env->SO->R PV)(body:Env->SO->Fl):Nat->Env->SO->Fl
 |0,_,_=>.bad
 |n+1,ρ,st=>(test ρ st).fl ρ λx st1=>onF (yaF st1 x) λk=>cond k (yai (body ρ st1) λρ2 st2=>yal test body n ρ2 st2) (.nx ρ st1)
def ybk(st:SO)(o i v:PV):Option SO:=
 match o with
 |.loc n=>match st[n]? with
  |some (.lst xs)=>match i with
   |.int k=>match ixI xs.length k with
    |some j=>AA (st.set n (.lst (xs.set j v)))
    |none=>AC
   |_=>AC
  |_=>AC
 |_=>AC
def ya0(st:SO)(o i v:PV):Option SO:=
 match o with
 |.loc n=>match st[n]? with
  |some (.dct t kvs)=>if isKey t i/\kvs.length<1000000 then AA (st.set n (.dct t (put i v kvs)))else AC
  |_=>AC
 |_=>AC
mutual
noncomputable def ex(call:Nat->List PV->SO->R PV)(ρ:Env)(st:SO):Cs->Fl
 |.expr e=>(ev call ρ st e).fl ρ λ_ st1=>.nx ρ st1
 |.asg t e=>(ev call ρ st e).fl ρ λv st1=>match yH t v ρ with
  |some ρ1=>.nx ρ1 st1
  |none=>.bad
 |.six o i e=>(ev call ρ st e).fl ρ λv st1=>(ev call ρ st1 o).fl ρ λx st2=>(ev call ρ st2 i).fl ρ λy st3=>match ybk st3 x y v with
  |some st4=>.nx ρ st4
  |none=>.bad
 |.dput o i e=>(ev call ρ st e).fl ρ λv st1=>(ev call ρ st1 o).fl ρ λx st2=>(ev call ρ st2 i).fl ρ λy st3=>match ya0 st3 x y v with
  |some st4=>.nx ρ st4
  |none=>.bad
 |.aug i o e=>match ρ[i]? with
  |some (AA x)=>(ev call ρ st e).fl ρ λy st1=>match ybv o x y with
   |some z=>.nx (ρ.set i (AA z)) st1
   |none=>.bad
  |_=>.bad
 |.ret e=>(ev call ρ st e).fl ρ λv st1=>.rt v st1
 |.ite c a b=>(ev call ρ st c).fl ρ λx st1=>onF (yaF st1 x) λk=>cond k (exs call ρ st1 a) (exs call ρ st1 b)
 |.for t it b=>(evi call ρ st it).fl ρ λxs st1=>forL t (λρ2 st2=>exs call ρ2 st2 b) xs ρ st1
 |.while c b=>yal (λρ2 st2=>ev call ρ2 st2 c) (λρ2 st2=>exs call ρ2 st2 b) 100000 ρ st
 |.nope=>.bad
 |.mkr i D n es=>(ev call ρ st n).fl ρ λx st1=>match mkV D (decide (i<ρ.length)) x with
  |some j=>((evs call (ρ.set i AC) st1 es).bind λvs st2=>call j vs st2).fl (ρ.set i AC) λv st3=>.rt v st3
  |none=>.bad
 |.sfl c o f e=>(ev call ρ st e).fl ρ λv st1=>(ev call ρ st1 o).fl ρ λx st2=>match ya9 c st2 x f v with
  |some st3=>.nx ρ st3
  |none=>.bad
noncomputable def exs(call:Nat->List PV->SO->R PV)(ρ:Env)(st:SO):Css->Fl
 |.nil=>.nx ρ st
 |.cons s ss=>match ex call ρ st s with
  |.nx ρ1 st1=>exs call ρ1 st1 ss
  |f=>f
end
structure Fn where
 np:Nat
 ns:Nat
 pure:Bool
 body:Css
def yc(T:Nat->Option Fn):Nat->Nat->List PV->SO->R PV
 |0,_,_,_=>.bad
 |k+1,f,args,st=>match T f with
  |none=>.bad
  |some fn=>if args.length=fn.np then
    if fn.pure then
     if nLs args then match exs (yc T k) (args.map AA++Ac (fn.ns-fn.np) AC) [] fn.body with
      |.rt v _=>if nL v then .ok v st else .bad
      |.nx _ _=>.ok .non st
      |.exc c _ _=>.exc c st
      |_=>.bad
     else .bad
    else match exs (yc T k) (args.map AA++Ac (fn.ns-fn.np) AC) st fn.body with
     |.rt v st1=>.ok v st1
     |.nx _ st1=>.ok .non st1
     |.exc c _ st1=>.exc c st1
     |_=>.bad
   else .bad
noncomputable def yp:List (Sum Ce Int)->Ces
 |[]=>.nil
 |.inl c::r=>.cons c (yp r)
 |.inr i::r=>.cons (.cst (.int i)) (yp r)
noncomputable def yac:Ces->Ces->Ces
 |.nil,b=>b
 |.cons e r,b=>.cons e (yac r b)
end IC
namespace L2
open PySem PySem.Spec PyProof.Rows IC
noncomputable abbrev Ph:=List (Option AI)
section
variable (K:AE)(cl:Nat->AI)(B:AI->Prop)(φ:Ph)(H:Hp)
def ybx(k:Bool)(a:AI)(xs:List V):Prop:=(H a=AA (.tup xs)/\¬B a/\AA a∉φ) \/
 k=AB/\∃(o:Bs) (its:Array AF) (n:Nat),K.lookup a=AA o/\o.cls=.type "tuple"/\o.data=.seq its n/\its.size<=sizeLine/\Vals xs its.toList
def ycm(a:AI)(xs:List V):Prop:=H a=AA (.lst xs)/\¬B a/\AA a∉φ
def ydr(a:AI)(xs:List V):Prop:=(Rd H a (.lst xs)/\¬B a/\AA a∉φ) \/
 ∃(o:Bs) (its:Array AF) (n:Nat),K.lookup a=AA o/\o.cls=.type "list"/\o.dict=AC/\o.data=.seq its n/\its.size<=sizeLine/\Vals xs its.toList
mutual
noncomputable def yd:PV->V->Prop
 |.non,x=>x=.non
 |.bl b,x=>x=.bl b
 |.int i,x=>x=.int i
 |.str s,x=>x=.str s
 |.tp k vs,x=>∃a xs,x=.ref a/\ybx K B φ H k a xs/\ye vs xs
 |.lst vs,x=>∃a xs,x=.ref a/\ycm B φ H a xs/\ye vs xs
 |.loc n,x=>n<φ.length/\∃a,x=.ref a/\∀b,φ[n]?=AA (AA b)->b=a
 |.exn c,x=>∃a,x=.ref a/\H a=AA (.ext (ygt a (cl c)))/\¬B a/\AA a∉φ
 |.scr vs,x=>∃a xs,x=.ref a/\ydr K B φ H a xs/\ye vs xs
noncomputable def ye:List PV->List V->Prop
 |[],xs=>xs=[]
 |v::vs,xs=>∃y ys,xs=y::ys/\yd v y/\ye vs ys
end
noncomputable def yaD:Key->PV
 |.inl i=>.int i
 |.inr y=>.str y
def DK:List (PV×PV)->List (Key×V)->Prop
 |[],ks=>ks=[]
 |(k,v)::r,ks=>∃q x s,ks=(q,x)::s/\k=yaD q/\yd K cl B φ H v x/\DK r s
def DT:List (PV×PV)->List (List Key×V)->Prop
 |[],ks=>ks=[]
 |(k,v)::r,ks=>∃q x s,ks=(q,x)::s/\k=.tup (q.map yaD)/\yd K cl B φ H v x/\DT r s
def FS:List (AQ×PV)->List (AQ×V)->Prop
 |[],ks=>ks=[]
 |(k,v)::r,ks=>∃x s,ks=(k,x)::s/\yd K cl B φ H v x/\FS r s
def ybU:Ob->AI->Prop
 |.lst vs,a=>∃xs,H a=AA (.lst xs)/\ye K cl B φ H vs xs
 |.dct AD kvs,a=>∃ks,H a=AA (.dK ks)/\DK K cl B φ H kvs ks
 |.dct AB kvs,a=>∃ks,H a=AA (.dT ks)/\DT K cl B φ H kvs ks
 |.dead,_=>False
 |.ins c fs,a=>∃ks,(∃dx,H a=AA (.ins (cl c) dx ks))/\FS K cl B φ H fs ks
structure yt(st:SO):Prop where
 len:φ.length=st.length
 inj:∀(m n:Nat) (a:AI),φ[m]?=AA (AA a)->φ[n]?=AA (AA a)->m=n
 obj:∀(n:Nat) (a:AI),φ[n]?=AA (AA a)->∃o,st[n]?=AA o/\ybU K cl B φ H o a
 liv:∀(n:Nat) (o:Ob),st[n]?=AA o->o ≠ .dead->∃a,φ[n]?=AA (AA a)
 nb:∀a,AA a∈φ->¬B a
 dom:∀a,B a->∃o,H a=AA o
structure yI(ρ:IC.Env)(σ:St):Prop where
 len:ρ.length=σ.length
 get:∀(i:Nat) (v:PV),ρ[i]?=AA (AA v)->∃x,σ[i]?=AA (AA x)/\yd K cl B φ H v x
end
structure Step(φ:Ph)(H:Hp)(φ':Ph)(H':Hp):Prop where
 keep:∀b o,AA b∉φ->H b=AA o->H' b=AA o
 len:φ.length<=φ'.length
 pre:∀(n:Nat) (a:AI),n<φ.length->φ'[n]?=AA (AA a)->φ[n]?=AA (AA a)
 new:∀b,AA b∈φ'->AA b∈φ \/ H b=AC
theorem Step.rfl{φ:Ph}{H:Hp}:Step φ H φ H:=⟨λ_ _ _ e=>e,AU _,λ_ _ _ e=>e,λ_ h=>.inl h⟩
theorem Step.trans{φ φ1 φ2:Ph}{H H1 H2:Hp}(s:Step φ H φ1 H1)(t:Step φ1 H1 φ2 H2):Step φ H φ2 H2:=by
 refine⟨λb o n e=>?_,BQ s.len t.len,λn a hn e=>s.pre n a hn (t.pre n a (A6 hn s.len) e),λb hb=>?_⟩
 .refine t.keep b o (λh=>?_) (s.keep b o n e);rcases s.new b h with q|q
  .exact n q
  .rw[e]at q;cases q
 .rcases t.new b hb with q|q
  .exact s.new b q
  .by_cases h:AA b∈φ
   .exact .inl h
   .refine .inr ?_
    cases e:H b with
    |none=>exact DG _
    |some o=>rw[s.keep b o h e]at q;cases q
section
variable {K:AE}{cl:Nat->AI}{B:AI->Prop}{φ φ':Ph}{H H':Hp}{st:SO}{ρ:IC.Env}{σ:St}
theorem Rd.step(s:Step φ H φ' H'){a:AI}{u:HO}(n:AA a∉φ)(r:Rd H a u):Rd H' a u/\AA a∉φ':=by
 have h:∃o,H a=AA o:=by
  rcases r with r|⟨o,r⟩<;>exact⟨_,r⟩
 refine⟨?_,λz=>?_⟩
 .rcases r with r|⟨o,r⟩
  .exact .inl (s.keep _ _ n r)
  .exact .inr ⟨o,s.keep _ _ n r⟩
 .let⟨o,e⟩:=h;rcases s.new a z with q|q
  .exact n q
  .rw[e]at q;cases q
theorem ybx.step(s:Step φ H φ' H'){k:Bool}{a:AI}{xs:List V}(r:ybx K B φ H k a xs):ybx K B φ' H' k a xs:=by
 rcases r with⟨r,b,n⟩|r
 .let⟨_,n'⟩:=(Rd.of r).step s n;exact .inl ⟨s.keep _ _ n r,b,n'⟩
 .exact .inr r
theorem ycm.step(s:Step φ H φ' H'){a:AI}{xs:List V}(r:ycm B φ H a xs):ycm B φ' H' a xs:=by
 let⟨r,b,n⟩:=r;let⟨_,n'⟩:=(Rd.of r).step s n;exact⟨s.keep _ _ n r,b,n'⟩
theorem ydr.step(s:Step φ H φ' H'){a:AI}{xs:List V}(r:ydr K B φ H a xs):ydr K B φ' H' a xs:=by
 rcases r with⟨r,b,n⟩|r
 .let⟨r',n'⟩:=r.step s n;exact .inl ⟨r',b,n'⟩
 .exact .inr r
mutual
theorem yd.step(s:Step φ H φ' H'):∀(v:PV) (x:V),yd K cl B φ H v x->yd K cl B φ' H' v x
 |.non,x,h=>by erw[yd]at h ⊢;exact h
 |.bl b,x,h=>by erw[yd]at h ⊢;exact h
 |.int i,x,h=>by erw[yd]at h ⊢;exact h
 |.str y,x,h=>by erw[yd]at h ⊢;exact h
 |.tp k vs,x,h=>by
  erw[yd]at h ⊢;let⟨a,xs,e,r,l⟩:=h;exact⟨a,xs,e,r.step s,ye.step s vs xs l⟩
 |.lst vs,x,h=>by
  erw[yd]at h ⊢;let⟨a,xs,e,r,l⟩:=h;exact⟨a,xs,e,r.step s,ye.step s vs xs l⟩
 |.loc n,x,h=>by
  erw[yd]at h ⊢;let⟨h1,a,e,h2⟩:=h;exact⟨A6 h1 s.len,a,e,λb q=>h2 b (s.pre n b h1 q)⟩
 |.exn c,x,h=>by
  erw[yd]at h ⊢;let⟨a,e,r,b,n⟩:=h;let⟨_,n'⟩:=(Rd.of r).step s n;exact⟨a,e,s.keep _ _ n r,b,n'⟩
 |.scr vs,x,h=>by
  erw[yd]at h ⊢;let⟨a,xs,e,r,l⟩:=h;exact⟨a,xs,e,r.step s,ye.step s vs xs l⟩
theorem ye.step(s:Step φ H φ' H'):∀(v:List PV) (x:List V),ye K cl B φ H v x->ye K cl B φ' H' v x
 |[],x,h=>by erw[ye]at h ⊢;exact h
 |v::vs,x,h=>by
  erw[ye]at h ⊢;let⟨y,ys,e,r,l⟩:=h;exact⟨y,ys,e,yd.step s v y r,ye.step s vs ys l⟩
end
theorem yI.step(s:Step φ H φ' H')(r:yI K cl B φ H ρ σ):yI K cl B φ' H' ρ σ:=⟨r.len,λi v e=>by
 let⟨x,h,q⟩:=r.get i v e;exact⟨x,h,q.step s⟩⟩
mutual
theorem yd.inn(hn:∀a,AA a∈φ->¬B a):∀(v:PV) (x:V),nL v=AB->yd K cl B φ H v x->yd K cl (λa=>B a \/ AA a∈φ) [] H v x
 |.non,x,_,h=>by erw[yd]at h ⊢;exact h
 |.bl b,x,_,h=>by erw[yd]at h ⊢;exact h
 |.int i,x,_,h=>by erw[yd]at h ⊢;exact h
 |.str y,x,_,h=>by erw[yd]at h ⊢;exact h
 |.tp k vs,x,q,h=>by
  erw[yd]at h ⊢;let⟨a,xs,e,r,l⟩:=h;refine⟨a,xs,e,?_,ye.inn hn vs xs (by simpa only[nL] using q) l⟩;rcases r with⟨r,b,n⟩|r
  .exact .inl ⟨r,λz=>z.elim b n,by simp⟩
  .exact .inr r
 |.lst vs,x,q,h=>by
  erw[yd]at h ⊢;let⟨a,xs,e,⟨r,b,n⟩,l⟩:=h;exact⟨a,xs,e,⟨r,λz=>z.elim b n,by simp⟩,ye.inn hn vs xs (by simpa only[nL] using q) l⟩
 |.loc n,x,q,h=>by simp[nL]at q
 |.exn c,x,q,h=>by simp[nL]at q
 |.scr vs,x,q,h=>by
  erw[yd]at h ⊢;let⟨a,xs,e,r,l⟩:=h;refine⟨a,xs,e,?_,ye.inn hn vs xs (by simpa only[nL] using q) l⟩;rcases r with⟨r,b,n⟩|r
  .exact .inl ⟨r,λz=>z.elim b n,by simp⟩
  .exact .inr r
theorem ye.inn(hn:∀a,AA a∈φ->¬B a):∀(v:List PV) (x:List V),nLs v=AB->ye K cl B φ H v x->ye K cl (λa=>B a \/ AA a∈φ) [] H v x
 |[],x,_,h=>by erw[ye]at h ⊢;exact h
 |v::vs,x,q,h=>by
  erw[ye]at h ⊢;erw[nLs,AK]at q;let⟨y,ys,e,r,l⟩:=h;exact⟨y,ys,e,yd.inn hn v y q.1 r,ye.inn hn vs ys q.2 l⟩
end
mutual
theorem yd.out{ψ:Ph}:∀(v:PV) (x:V),nL v=AB->yd K cl (λa=>B a \/ AA a∈φ) ψ H v x->yd K cl B φ H v x
 |.non,x,_,h=>by erw[yd]at h ⊢;exact h
 |.bl b,x,_,h=>by erw[yd]at h ⊢;exact h
 |.int i,x,_,h=>by erw[yd]at h ⊢;exact h
 |.str y,x,_,h=>by erw[yd]at h ⊢;exact h
 |.tp k vs,x,q,h=>by
  erw[yd]at h ⊢;let⟨a,xs,e,r,l⟩:=h;refine⟨a,xs,e,?_,ye.out vs xs (by simpa only[nL] using q) l⟩;rcases r with⟨r,b,n⟩|r
  .exact .inl ⟨r,λz=>b (.inl z),λz=>b (.inr z)⟩
  .exact .inr r
 |.lst vs,x,q,h=>by
  erw[yd]at h ⊢;let⟨a,xs,e,⟨r,b,n⟩,l⟩:=h;exact⟨a,xs,e,⟨r,λz=>b (.inl z),λz=>b (.inr z)⟩,ye.out vs xs (by simpa only[nL] using q) l⟩
 |.loc n,x,q,h=>by simp[nL]at q
 |.exn c,x,q,h=>by simp[nL]at q
 |.scr vs,x,q,h=>by
  erw[yd]at h ⊢;let⟨a,xs,e,r,l⟩:=h;refine⟨a,xs,e,?_,ye.out vs xs (by simpa only[nL] using q) l⟩;rcases r with⟨r,b,n⟩|r
  .exact .inl ⟨r,λz=>b (.inl z),λz=>b (.inr z)⟩
  .exact .inr r
theorem ye.out{ψ:Ph}:∀(v:List PV) (x:List V),nLs v=AB->ye K cl (λa=>B a \/ AA a∈φ) ψ H v x->ye K cl B φ H v x
 |[],x,_,h=>by erw[ye]at h ⊢;exact h
 |v::vs,x,q,h=>by
  erw[ye]at h ⊢;erw[nLs,AK]at q;let⟨y,ys,e,r,l⟩:=h;exact⟨y,ys,e,yd.out v y q.1 r,ye.out vs ys q.2 l⟩
end
theorem ye.length:∀{v:List PV} {x:List V},ye K cl B φ H v x->v.length=x.length
 |[],x,h=>by erw[ye]at h;subst h;rfl
 |v::vs,x,h=>by
  erw[ye]at h;let⟨y,ys,rfl,_,l⟩:=h;simp[ye.length l]
theorem DK.step(s:Step φ H φ' H'):∀{kvs:List (PV×PV)} {ks:List (Key×V)},DK K cl B φ H kvs ks->DK K cl B φ' H' kvs ks
 |[],ks,h=>h
 |(k,v)::r,ks,h=>by
  let⟨q,x,t,e,m,rv,l⟩:=h;exact⟨q,x,t,e,m,rv.step s,DK.step s l⟩
theorem DT.step(s:Step φ H φ' H'):∀{kvs:List (PV×PV)} {ks:List (List Key×V)},DT K cl B φ H kvs ks->DT K cl B φ' H' kvs ks
 |[],ks,h=>h
 |(k,v)::r,ks,h=>by
  let⟨q,x,t,e,m,rv,l⟩:=h;exact⟨q,x,t,e,m,rv.step s,DT.step s l⟩
theorem FS.step(s:Step φ H φ' H'):∀{kvs:List (AQ×PV)} {ks:List (AQ×V)},FS K cl B φ H kvs ks->FS K cl B φ' H' kvs ks
 |[],ks,h=>h
 |(k,v)::r,ks,h=>by
  let⟨x,t,e,rv,l⟩:=h;exact⟨x,t,e,rv.step s,FS.step s l⟩
theorem ybU.step(s:Step φ H φ' H'){o:Ob}{a:AI}(e:H' a=H a)(r:ybU K cl B φ H o a):ybU K cl B φ' H' o a:=by
 cases o with
 |lst vs=>
  let⟨xs,q,l⟩:=r;exact⟨xs,e.trans q,l.step s⟩
 |dct t kvs=>
  cases t with
  |false=>let⟨ks,q,l⟩:=r;exact⟨ks,e.trans q,l.step s⟩
  |true=>let⟨ks,q,l⟩:=r;exact⟨ks,e.trans q,l.step s⟩
 |dead=>exact r
 |ins c fs=>let⟨ks,⟨dx,q⟩,l⟩:=r;exact⟨ks,⟨dx,e.trans q⟩,l.step s⟩
theorem ybU.there{o:Ob}{a:AI}(r:ybU K cl B φ H o a):∃u,H a=AA u:=by
 cases o with
 |lst vs=>let⟨xs,q,l⟩:=r;exact⟨_,q⟩
 |dct t kvs=>cases t<;>(let⟨ks,q,l⟩:=r;exact⟨_,q⟩)
 |dead=>exact r.elim
 |ins c fs=>let⟨ks,⟨dx,q⟩,l⟩:=r;exact⟨_,q⟩
theorem yt.there(S:yt K cl B φ H st){a:AI}(h:AA a∈φ):∃u,H a=AA u:=by
 let⟨n,e⟩:=DN.mp h;let⟨o,_,r⟩:=S.obj n a e;exact r.there
theorem Step.upd{p:AI}{o:HO}(hp:H p=AC):Step φ H φ (upd H p o):=
 ⟨λb u n e=>by rw[zh (zl e hp)];exact e,AU _,λ_ _ _ e=>e,λ_ h=>.inl h⟩
theorem yt.same(S:yt K cl B φ H st)(k:∀b o,H b=AA o->H' b=AA o):yt K cl B φ H' st:=by
 have s:Step φ H φ H':=⟨λb o _ e=>k b o e,AU _,λ_ _ _ e=>e,λ_ h=>.inl h⟩;refine⟨S.len,S.inj,λn a e=>?_,S.liv,S.nb,λa h=>?_⟩
 .let⟨o,q,r⟩:=S.obj n a e;let⟨u,z⟩:=r.there;exact⟨o,q,r.step s ((k a u z).trans z.symm)⟩
 .let⟨o,q⟩:=S.dom a h;exact⟨o,k a o q⟩
theorem yt.upd{p:AI}{o:HO}(S:yt K cl B φ H st)(hp:H p=AC):yt K cl B φ (upd H p o) st:=S.same λb u e=>by rw[zh (zl e hp)];exact e
mutual
theorem yd.moreB{B':AI->Prop}(hn:∀y,B' y->B y \/ H y=AC):∀(v:PV) (x:V),yd K cl B φ H v x->yd K cl B' φ H v x
 |.non,x,h=>by erw[yd]at h ⊢;exact h
 |.bl b,x,h=>by erw[yd]at h ⊢;exact h
 |.int i,x,h=>by erw[yd]at h ⊢;exact h
 |.str y,x,h=>by erw[yd]at h ⊢;exact h
 |.tp k vs,x,h=>by
  erw[yd]at h ⊢;let⟨y,xs,e,r,l⟩:=h;refine⟨y,xs,e,?_,ye.moreB hn vs xs l⟩;rcases r with⟨r,b,n⟩|r
  .exact .inl ⟨r,λz=>(hn y z).elim b λq=>(by rw[q]at r;cases r),n⟩
  .exact .inr r
 |.lst vs,x,h=>by
  erw[yd]at h ⊢;let⟨y,xs,e,⟨r,b,n⟩,l⟩:=h;exact⟨y,xs,e,⟨r,λz=>(hn y z).elim b λq=>(by rw[q]at r;cases r),n⟩,ye.moreB hn vs xs l⟩
 |.loc n,x,h=>by erw[yd]at h ⊢;exact h
 |.exn c,x,h=>by
  erw[yd]at h ⊢;let⟨y,e,r,b,n⟩:=h;exact⟨y,e,r,λz=>(hn y z).elim b λq=>(by rw[q]at r;cases r),n⟩
 |.scr vs,x,h=>by
  erw[yd]at h ⊢;let⟨y,xs,e,r,l⟩:=h;refine⟨y,xs,e,?_,ye.moreB hn vs xs l⟩;rcases r with⟨r,b,n⟩|r
  .refine .inl ⟨r,λz=>(hn y z).elim b λq=>?_,n⟩;rcases r with r|⟨o,r⟩<;>(rw[q]at r;cases r)
  .exact .inr r
theorem ye.moreB{B':AI->Prop}(hn:∀y,B' y->B y \/ H y=AC):∀(v:List PV) (x:List V),ye K cl B φ H v x->ye K cl B' φ H v x
 |[],x,h=>by erw[ye]at h ⊢;exact h
 |v::vs,x,h=>by
  erw[ye]at h ⊢;let⟨y,ys,e,r,l⟩:=h;exact⟨y,ys,e,yd.moreB hn v y r,ye.moreB hn vs ys l⟩
end
end
end L2
namespace L2
open PySem PySem.Spec PyProof.Rows
def CXH(X:Cx)(H:Hp)(s:AJ)(E:XK)(e:AF)(s':AJ):Prop:=
 ∃(C a:AI) (cls a0 fl:AF) (H':Hp) (B:Ay),X.s₀.heap.objs.size<=C/\e=.ref a/\s'.os=s.os/\DR s'.gens /\
  (B.StaysIn s'.heap/\B.get? a=AC/\s'.heap.FunFrames B X.stack/\s'.heap.TracedAtW B a cls a0 fl)/\HOk X.prog X.w H' s'.heap/\Un (frs X.stack) [C] H H' s.heap s'.heap /\
  (∀b o,s.heap.get? b=AA o->H b=AC->b∉frs X.stack->b≠C->B.get? b=AA o)/\(∀b u,H' b=AA u->∃o,B.get? b=AA o)/\(∀b o,s.heap.get? b=AA o->b∉frs X.stack->b≠C->∃o',B.get? b=AA o')/\E cls AC H'
theorem CXH.mono{X:Cx}{H:Hp}{s:AJ}{E E':XK}{e:AF}{s':AJ}(h:CXH X H s E e s')(n:∀cls H',E cls AC H'->E' cls AC H'):CXH X H s E' e s':=by
 let⟨C,a,cls,a0,fl,H',B,r1,r2,r3,r4,r5,r6,r7,r8,r9,r10,r11⟩:=h;exact⟨C,a,cls,a0,fl,H',B,r1,r2,r3,r4,r5,r6,r7,r8,r9,r10,n _ _ r11⟩
section
variable {M:Model}{A:Am}{E:AF->AJ->Prop}{s:AJ}
theorem zeW{base:Ay}{env:Env}{outer:List Env}{L e:AI}{cls a0 fl:AF}{Q:Unit->AJ->Prop}
  (hfr:A.frames=AA (env::outer)) (hf:env.frame=AA L) (f1:base.StaysIn s.heap) (f2:base.get? e=AC) (f3:s.heap.FunFrames base (env::outer)) (f4:s.heap.TracedAtW base e cls a0 fl)
  (hQ:∀h',Go base outer e cls a0 h'->s.heap.UpToSlots h'->Q () {s with heap:=h'}):A3 M A («leaving» env (.ref e)) Q E s:=by
 by_cases hfl:fl=rawInt L
 .subst hfl;unfold «leaving»;refine AH (wpAny_noteFrame_againW hf f4 ?_);refine wpAny_landsW ⟨f1,f2,f3,f4⟩ λh' hfl up=>?_;let⟨k1,k2,⟨_,_,k3⟩,k4⟩:=hfl;exact hQ h' ⟨k1,k2,k3,k4⟩ up
 .let⟨oe,vs,T,oT,ts,he,⟨hcls,h0⟩,hd,h1,hnT,hTe,hT,hdT,h3⟩:=f4;subst hcls;unfold «leaving» noteFrame;erw[hf];refine AH (AH (BM he hd h1 ?_));rw[if_pos (show (Af T != Bz)=AB from by simp)];refine AH (BM hT hdT h3 ?_);rw[if_neg (show ¬((fl==rawInt L)=AB)from λz=>hfl (eq_of_beq z))];refine AH (Et hT hdT (Do.mp h3).1 ?_);have other:∀b,b≠T->(s.heap.update T (Obj.mapFields (·.setIfInBounds 3 Bz))).get? b=s.heap.get? b:=λb hb=>DD _ _ (BI hb);have noRecord:∀b o,s.heap.get? b=AA o->(∀vs,o.data ≠ .fields vs)->b≠T:=λb o hb hnf q=>by
   rw[q,hT]at hb;injection hb with hb;subst hb;exact hnf ts hdT
  refine wpAny_newEntryW hfr (f3.of_keeps λb o hb hnf=>⟨o,(other b (noRecord b o hb hnf)).trans hb,rfl⟩) hf ((other e (BI hTe)).trans he)
   (λb o hbo=>(other b λq=>by rw[q,hnT]at hbo;cases hbo).trans (f1 b o hbo)) f2 hd (Do.mp h1).1 h0
   λh' ⟨x1,⟨_,_,x2⟩,x3,x4⟩=>hQ h' ⟨x1,f2,x2,x3⟩ λb o hb hnf=>x4 b o ((other b (noRecord b o hb hnf)).trans hb) hnf
end
section
variable {P:A7}{w:Ag}{K:AE}{mg:AQ->Option AF}{base:Ay}{N:List AQ}{qual:AQ}{scope:Bc}{f:AI}{cd:AF}{A:Am}{outer:List Env}{s₀:AJ}{H₀:Hp}{E:XK}
theorem yd3{pins:List (AI×Bs)}{σ:St}{H:Hp}{s:AJ}{e:AF}{s':AJ}(I:Inv (yaM (CX1 P w) P w K mg base N qual scope f cd A outer s₀ H₀ E) pins σ H s)(h:CXH (yaM (CX1 P w) P w K mg base N qual scope f cd A outer s₀ H₀ E) H s E e s'):
  (yaM (CX1 P w) P w K mg base N qual scope f cd A outer s₀ H₀ E).xe e s':=by
 let⟨C,a,cls,a0,fl,H',B,hC,rfl,os,bare,⟨f1,f2,f3,f4⟩,hok,un,hB,tr,hT,hE⟩:=h;have bse:Un (frs outer) [] H₀ H s₀.heap s.heap:=I.base;have lt:∀b o,s₀.heap.get? b=AA o->b≠s₀.heap.objs.size:=λb o q=>Ah (AW q);have neC:∀b o,s₀.heap.get? b=AA o->b≠C:=λb o q=>Ah (A6 (AW q) hC);have niC:∀b o,s₀.heap.get? b=AA o->b∉[C]:=λb o q z=>neC b o q (by simpa using z);have hst:∀b,b∈frs (envOfC qual scope s₀.heap.objs.size f cd::outer)->b=s₀.heap.objs.size \/ b∈frs outer:=λb hb=>by
  have hb':b∈s₀.heap.objs.size::frs outer:=hb;exact Ad.mp hb'
 have un':Un (frs (envOfC qual scope s₀.heap.objs.size f cd::outer)) [C] H H' s.heap s'.heap:=un;have kB:∀b o,s₀.heap.get? b=AA o->H₀ b=AC->b∉frs outer->B.get? b=AA o:=λb o q n hb=>hB b o (bse.keep b o q n hb (by simp)) (bse.free b o q n (by simp)) (λz=>by
  rcases hst b z with z|z
  .exact lt b o q z
  .exact hb z) (neC b o q)
 have kT:∀b o,s₀.heap.get? b=AA o->b∉frs outer->∃o',B.get? b=AA o':=λb o q hb=>by
  let⟨o',q1⟩:=bse.there b o q (by simp);refine hT b o' q1 (λz=>?_) (neC b o q);rcases hst b z with z|z
  .exact lt b o q z
  .exact hb z
 refine zeW I.ok.frames rfl f1 f2 f3 f4 λh'' fl' up=>?_;refine⟨a,cls,a0,H',B,rfl,os.trans I.os,bare,fl',HOk.inB hok f1 fl'.1 tr,⟨λb o q n hb _=>fl'.1 b o (kB b o q n hb),λb o q n hb _=>?_,λb o q n _=>?_,λb o q _=>?_,λb xs q=>un'.tups b xs (bse.tups b xs q),λb o u q=>un'.frzs b o u (bse.frzs b o u q),λb ps q=>?_⟩,kB,tr,kT,hE⟩
 .let⟨sl,q1⟩:=bse.slot b o q n hb (by simp);have n1:=bse.free b o q n (by simp);let⟨sl1,q2⟩:=un'.slot b _ q1 n1 (AX _ hb) (niC b o q);let⟨_,o',ho',hd⟩:=CC f3 (show b∈DF (λ(z:Env)=>z.frame) _ from AX _ hb);let⟨sl',q3⟩:=up b _ q2 (by rw[ho']at q2;cases q2;exact hd);exact⟨sl',q3⟩
 .let⟨o',q1⟩:=bse.there b o q (by simp);exact un'.free b o' q1 (bse.free b o q n (by simp)) (niC b o q)
 .let⟨o',q1⟩:=bse.there b o q (by simp);let⟨o2,q2⟩:=un'.there b o' q1 (niC b o q)
  by_cases hb:b∈frs outer
  .let⟨_,o3,ho3,hd⟩:=CC f3 (show b∈DF (λ(z:Env)=>z.frame) _ from AX _ hb);let⟨sl',q3⟩:=up b _ ho3 hd;exact⟨_,q3⟩
  .let⟨o4,q4⟩:=kT b o q hb;exact⟨o4,fl'.1 b o4 q4⟩
 .let⟨m1,e1⟩:=bse.tbls b ps q;let⟨m2,e2⟩:=un'.tbls b _ e1;exact⟨m1++m2,by rw[e2,Db]⟩
end
section
variable {pg:A7}{wd:Ag}{A:Am}{R:G2->AJ->Prop}{s:AJ}
end
section
variable {X:Cx}{sc:Bc}{NC:List AQ}{slots:List (Option Nat)}{elt tg iter:AS}{ifs:List AS}{pos:CH}{g:TG}{ti:TT}{te:CI->TE}{E:XK}
end
end L2
namespace L2
open PySem PySem.Spec PyProof.Rows IC
structure Se where
 cl:Nat->AI
 call:Nat->List PV->SO->R PV
 may:Bool
section
variable (S:Se)(X:Cx)
def ExcAt(σ:St)(B:AI->Prop)(φ:Ph)(H:Hp)(k:Nat)(st':SO)(e:AF)(s':AJ):Prop:=
 (∃pins H1 s φ1,Inv X pins σ H1 s/\Step φ H φ1 H1/\CX1 X.prog X.w X.stack H1 s (λcls _ H'=>cls=.ref (S.cl k)/\∃φ',Step φ1 H1 φ' H'/\yt X.K S.cl B φ' H' st') e s') \/
 (S.may=AB/\∃pins H1 s φ1 h' e0 vs,Inv X pins σ H1 s/\Step φ H φ1 H1/\yt X.K S.cl B φ1 H1 st'/\G7 s.heap h' e0 (.ref (S.cl k)) vs/\e=.ref e0/\s'={s with heap:=h'}) \/
 (S.may=AB/\∃pins H1 s,Inv X pins σ H1 s/\CXH X H1 s (λcls _ H'=>cls=.ref (S.cl k)/\∃φ',Step φ H φ' H'/\yt X.K S.cl B φ' H' st') e s')
def Run{α β:Type}(σ:St)(B:AI->Prop)(φ:Ph)(H:Hp)(Rel:Ph->Hp->α->β->Prop)(r:R α)(Q:β->Hp->Prop):Prop:=
 match r with
 |.ok v st'=>∀x H' φ',Step φ H φ' H'->yt X.K S.cl B φ' H' st'->Rel φ' H' v x->Q x H'
 |.exc k st'=>∀e s',ExcAt S X σ B φ H k st' e s'->X.xe e s'
 |.bad=>False
abbrev RV(B:AI->Prop):Ph->Hp->PV->V->Prop:=λφ H=>yd X.K S.cl B φ H
abbrev RL(B:AI->Prop):Ph->Hp->List PV->List V->Prop:=λφ H=>ye X.K S.cl B φ H
noncomputable abbrev RB:Ph->Hp->Bool->Bool->Prop:=λ_ _ b c=>b=c
def tE(c:Ce):TE:=λσ H Q=>∃B φ st ρ,yt X.K S.cl B φ H st/\yI X.K S.cl B φ H ρ σ/\Run S X σ B φ H (RV S X B) (ev S.call ρ st c) Q
def tAs(c:Ces):TA:=λσ H Q=>∃B φ st ρ,yt X.K S.cl B φ H st/\yI X.K S.cl B φ H ρ σ/\Run S X σ B φ H (RL S X B) (evs S.call ρ st c) Q
def yaU(r:R PV):R Bool:=r.bind λx st=>onO (yaF st x) λb=>.ok b st
def tTs(c:Ce):TT:=λσ H Q=>∃B φ st ρ,yt X.K S.cl B φ H st/\yI X.K S.cl B φ H ρ σ/\Run S X σ B φ H RB (yaU (ev S.call ρ st c)) Q
end
section
variable {S:Se}{X:Cx}{σ:St}{B:AI->Prop}{φ φ1:Ph}{H H1:Hp}
theorem ExcAt.back{k:Nat}{st':SO}{e:AF}{s':AJ}(s:Step φ H φ1 H1)(h:ExcAt S X σ B φ1 H1 k st' e s'):ExcAt S X σ B φ H k st' e s':=by
 rcases h with⟨pins,H2,t,φ2,I,q,c⟩|⟨m,pins,H2,t,φ2,h',e0,vs,I,q,c⟩|⟨m,pins,H2,t,I,c⟩
 .exact .inl ⟨pins,H2,t,φ2,I,s.trans q,c⟩
 .exact .inr (.inl ⟨m,pins,H2,t,φ2,h',e0,vs,I,s.trans q,c⟩)
 .exact .inr (.inr ⟨m,pins,H2,t,I,c.mono λcls H' ⟨e1,φ',s2,r⟩=>⟨e1,φ',s.trans s2,r⟩⟩)
variable {α β γ δ:Type}{Rel:Ph->Hp->α->β->Prop}{Gp:Ph->Hp->γ->δ->Prop}
theorem Run.on{r:R α}{Q:β->Hp->Prop}(s:Step φ H φ1 H1)(h:Run S X σ B φ H Rel r Q):Run S X σ B φ1 H1 Rel r Q:=by
 cases r with
 |ok v st'=>exact λx H' φ' t=>h x H' φ' (s.trans t)
 |exc k st'=>exact λe s' x=>h e s' (x.back s)
 |bad=>exact h
theorem Run.mono{r:R α}{Q Q':β->Hp->Prop}(h:Run S X σ B φ H Rel r Q)(k:∀x H',Q x H'->Q' x H'):Run S X σ B φ H Rel r Q':=by
 cases r with
 |ok v st'=>exact λx H' φ' t rs rv=>k x H' (h x H' φ' t rs rv)
 |exc c st'=>exact h
 |bad=>exact h
theorem Run.bind{r:R α}{k:α->SO->R γ}{Q:δ->Hp->Prop}(h:Run S X σ B φ H Gp (r.bind k) Q):
  Run S X σ B φ H Rel r λx H1=>∃v st1 φ1,Step φ H φ1 H1/\yt X.K S.cl B φ1 H1 st1/\Rel φ1 H1 v x/\Run S X σ B φ1 H1 Gp (k v st1) Q:=by
 cases r with
 |ok v st'=>exact λx H' φ' t rs rv=>⟨v,st',φ',t,rs,rv,Run.on t h⟩
 |exc c st'=>exact h
 |bad=>exact h
theorem Run.ok{v:α}{st:SO}{Q:β->Hp->Prop}(h:Run S X σ B φ H Rel (.ok v st) Q)(rs:yt X.K S.cl B φ H st){x:β}(rv:Rel φ H v x):Q x H:=h x H φ .rfl rs rv
theorem PE.imp{e:AS}{t t':TE}(h:PE X e t')(k:∀σ H Q,t σ H Q->t' σ H Q):PE X e t:=λpins s σ H Q I q=>h pins s σ H Q I (k σ H Q q)
theorem PT.imp{e:AS}{t t':TT}(h:PT X e t')(k:∀σ H Q,t σ H Q->t' σ H Q):PT X e t:=λpins s σ H Q I q=>h pins s σ H Q I (k σ H Q q)
theorem PW.imp{e:AS}{t t':TT}(h:PW X e t')(k:∀σ H Q,t σ H Q->t' σ H Q):PW X e t:=λwh pins s σ H Q I q=>h wh pins s σ H Q I (k σ H Q q)
theorem PA.imp{e:List AS}{t t':TA}(h:PA X e t')(k:∀σ H Q,t σ H Q->t' σ H Q):PA X e t:=λpos pins s σ H Q I q=>h pos pins s σ H Q I (k σ H Q q)
theorem tE.bind{c:Ce}{ρ:IC.Env}{st:SO}{k:PV->SO->R γ}{Q:δ->Hp->Prop}{P:V->Hp->Prop}(rs:yt X.K S.cl B φ H st)(re:yI X.K S.cl B φ H ρ σ)(h:Run S X σ B φ H Gp ((ev S.call ρ st c).bind k) Q)
  (n:∀x H1 v st1 φ1,Step φ H φ1 H1->yt X.K S.cl B φ1 H1 st1->yI X.K S.cl B φ1 H1 ρ σ->yd X.K S.cl B φ1 H1 v x->Run S X σ B φ1 H1 Gp (k v st1) Q->P x H1):tE S X c σ H P:=
 ⟨B,φ,st,ρ,rs,re,(Run.bind h).mono λx H1 ⟨v,st1,φ1,s,rs1,rv,h1⟩=>n x H1 v st1 φ1 s rs1 (re.step s) rv h1⟩
theorem tAs.bind{c:Ces}{ρ:IC.Env}{st:SO}{k:List PV->SO->R γ}{Q:δ->Hp->Prop}{P:List V->Hp->Prop}(rs:yt X.K S.cl B φ H st)(re:yI X.K S.cl B φ H ρ σ)(h:Run S X σ B φ H Gp ((evs S.call ρ st c).bind k) Q)
  (n:∀x H1 v st1 φ1,Step φ H φ1 H1->yt X.K S.cl B φ1 H1 st1->yI X.K S.cl B φ1 H1 ρ σ->ye X.K S.cl B φ1 H1 v x->Run S X σ B φ1 H1 Gp (k v st1) Q->P x H1):tAs S X c σ H P:=
 ⟨B,φ,st,ρ,rs,re,(Run.bind h).mono λx H1 ⟨v,st1,φ1,s,rs1,rv,h1⟩=>n x H1 v st1 φ1 s rs1 (re.step s) rv h1⟩
variable {i:Int}{b:Bool}{x:AQ}{j:Nat}{pos:CH}{e a a':AS}{c ca cb cc:Ce}
theorem zja:PE X (.Constant (.int i) j pos) (tE S X (.cst (.int i))):=ycX.imp λσ H Q ⟨B,φ,st,ρ,rs,re,h⟩=>by
 erw[ev]at h;exact h.ok rs (by erw[yd])
theorem zob:PE X (.Constant (.bool b) j pos) (tE S X (.cst (.bl b))):=ydU.imp λσ H Q ⟨B,φ,st,ρ,rs,re,h⟩=>by
 erw[ev]at h;exact h.ok rs (by erw[yd])
theorem zlF:PE X (.Constant .none j pos) (tE S X (.cst .non)):=yc3.imp λσ H Q ⟨B,φ,st,ρ,rs,re,h⟩=>by
 erw[ev]at h;exact h.ok rs (by erw[yd])
theorem zme:PE X (.Constant (.str x) j pos) (tE S X (.cst (.str x))):=ycY.imp λσ H Q ⟨B,φ,st,ρ,rs,re,h⟩=>by
 erw[ev]at h;exact h.ok rs (by erw[yd])
theorem zlP{i:Nat}(hN:X.N[i]?=AA x)(hv:Vis X.env.scope x)(hd:(x==("__debug__":AQ))=false:=by decide)(hcd:(x==("__classdict__":AQ))=false:=by decide):PE X (.Name x pos) (tE S X (.var i)):=
 (zjj hN hv hd hcd).imp λσ H Q ⟨B,φ,st,ρ,rs,re,h⟩=>by
  erw[ev]at h
  cases q:ρ[i]? with
  |none=>rw[q]at h;exact h.elim
  |some o=>
   cases o with
   |none=>rw[q]at h;exact h.elim
   |some v=>
    rw[q]at h;let⟨y,hy,rv⟩:=re.get i v q;exact⟨y,hy,h.ok rs rv⟩
theorem zjU{v:PV}{y:AI}(hg:Gl X x)(hm:X.mg x=AA (.ref y))(hk:∀B φ H,yd X.K S.cl B φ H v (.ref y))(hd:(x==("__debug__":AQ))=false:=by decide):PE X (.Name x pos) (tE S X (.cst v)):=
 (zcR hg hm (show RelV (.ref y) (.ref y)from rfl) hd).imp λσ H Q ⟨B,φ,st,ρ,rs,re,h⟩=>by
  erw[ev]at h;exact h.ok rs (hk B φ H)
theorem z5{o:Option PV}{st:SO}{Q:VK}(h:Run S X σ B φ H (RV S X B) (toR o st) Q)(rs:yt X.K S.cl B φ H st):∃z,o=AA z/\∀z' H' φ',Step φ H φ' H'->yt X.K S.cl B φ' H' st->yd X.K S.cl B φ' H' z z'->Q z' H':=by
 cases o with
 |none=>exact h.elim
 |some z=>exact⟨z,rfl,h⟩
def rT2(S:Se)(X:Cx)(f:PV->PV->Option PV):R2:=λx y H Q=>∃B φ st v w z,yt X.K S.cl B φ H st/\yd X.K S.cl B φ H v x/\yd X.K S.cl B φ H w y/\f v w=AA z /\
 ∀z' H' φ',Step φ H φ' H'->yt X.K S.cl B φ' H' st->yd X.K S.cl B φ' H' z z'->Q z' H'
theorem zlW{op:DW}{o:BOp}(ho:OpR X (binaryOp op) (rT2 S X (yr o)))(ha:PE X a (tE S X ca))(hb:PE X a' (tE S X cb)):PE X (.BinOp a op a' pos) (tE S X (.bin o ca cb)):=
 (znO ho ha hb).imp λσ H Q ⟨B,φ,st,ρ,rs,re,h⟩=>by
  erw[ev]at h;refine tE.bind rs re h λx H1 v st1 φ1 s1 rs1 re1 rv h1=>tE.bind rs1 re1 h1 λy H2 w st2 φ2 s2 rs2 re2 rw h2=>?_;let⟨z,e,q⟩:=z5 h2 rs2;exact⟨B,φ2,st2,v,w,z,rs2,rv.step s2,rw,e,q⟩
theorem zlC{op:FN}{o:COp}(ho:OpR X (compareOp op) (rT2 S X (yx o)))(ha:PE X a (tE S X ca))(hb:PE X a' (tE S X cb))(hm:behindInMarks op a'=AD):PE X (.Compare a [op] [a'] pos) (tE S X (.cmp o ca cb)):=
 (zgR ho ha hb hm).imp λσ H Q ⟨B,φ,st,ρ,rs,re,h⟩=>by
  erw[ev]at h;refine tE.bind rs re h λx H1 v st1 φ1 s1 rs1 re1 rv h1=>tE.bind rs1 re1 h1 λy H2 w st2 φ2 s2 rs2 re2 rw h2=>?_;let⟨z,e,q⟩:=z5 h2 rs2;exact⟨B,φ2,st2,v,w,z,rs2,rv.step s2,rw,e,q⟩
end
section
variable {S:Se}{X:Cx}{σ:St}{B:AI->Prop}{φ φ1:Ph}{H H1:Hp}{K:AE}{cl:Nat->AI}{st:SO}
theorem ybx.sq{k:Bool}{a:AI}{xs:List V}(r:ybx K B φ H k a xs):SqT K H a xs:=by
 rcases r with⟨r,_⟩|r
 .exact .inl (.inl r)
 .exact .inr r.2
theorem ycm.sq{a:AI}{xs:List V}(r:ycm B φ H a xs):SqL K H a xs:=.inl (.inl r.1)
theorem yd.tup_new{vs:List PV}{xs:List V}{p:AI}(hp:H p=AC)(rs:yt K cl B φ H st)(r:ye K cl B φ H vs xs):yd K cl B φ (upd H p (.tup xs)) (.tup vs) (.ref p):=by
 erw[yd];refine⟨p,xs,rfl,.inl ⟨zp,λz=>?_,λz=>?_⟩,r.step (.upd hp)⟩
 .let⟨o,e⟩:=rs.dom p z;rw[hp]at e;cases e
 .let⟨o,e⟩:=rs.there z;rw[hp]at e;cases e
theorem yd.lst_new{vs:List PV}{xs:List V}{p:AI}(hp:H p=AC)(rs:yt K cl B φ H st)(r:ye K cl B φ H vs xs):yd K cl B φ (upd H p (.lst xs)) (.lst vs) (.ref p):=by
 erw[yd];refine⟨p,xs,rfl,⟨zp,λz=>?_,λz=>?_⟩,r.step (.upd hp)⟩
 .let⟨o,e⟩:=rs.dom p z;rw[hp]at e;cases e
 .let⟨o,e⟩:=rs.there z;rw[hp]at e;cases e
theorem ye.append:∀{vs ws:List PV} {xs ys:List V},ye K cl B φ H vs xs->ye K cl B φ H ws ys->ye K cl B φ H (vs++ws) (xs++ys)
 |[],ws,xs,ys,h,q=>by erw[ye]at h;subst h;exact q
 |v::vs,ws,xs,ys,h,q=>by
  erw[ye]at h;let⟨y,zs,rfl,r,l⟩:=h;show ye K cl B φ H (v::(vs++ws)) (y::(zs++ys));erw[ye];exact⟨y,zs++ys,rfl,r,ye.append l q⟩
theorem ye.get:∀{vs:List PV} {xs:List V} (j:Nat) {v:PV},ye K cl B φ H vs xs->vs[j]?=AA v->∃x,xs[j]?=AA x/\yd K cl B φ H v x
 |[],xs,j,v,h,e=>by simp at e
 |w::vs,xs,0,v,h,e=>by
  erw[ye]at h;let⟨y,zs,rfl,r,l⟩:=h;simp at e;subst e;exact⟨y,rfl,r⟩
 |w::vs,xs,j+1,v,h,e=>by
  erw[ye]at h;let⟨y,zs,rfl,r,l⟩:=h;let⟨x,q1,q2⟩:=ye.get j l (by simpa using e);exact⟨x,by simpa using q1,q2⟩
theorem ye.drop:∀{vs:List PV} {xs:List V} (n:Nat),ye K cl B φ H vs xs->ye K cl B φ H (vs.drop n) (xs.drop n)
 |vs,xs,0,h=>by simpa using h
 |[],xs,n+1,h=>by erw[ye]at h;subst h;simp[ye]
 |v::vs,xs,n+1,h=>by
  erw[ye]at h;let⟨y,ys,rfl,_,l⟩:=h;simpa using ye.drop n l
theorem ye.take:∀{vs:List PV} {xs:List V} (n:Nat),ye K cl B φ H vs xs->ye K cl B φ H (vs.take n) (xs.take n)
 |vs,xs,0,h=>by simp[ye]
 |[],xs,n+1,h=>by erw[ye]at h;subst h;simp[ye]
 |v::vs,xs,n+1,h=>by
  erw[ye]at h;let⟨y,ys,rfl,r,l⟩:=h;erw[List.take_succ_cons,ye];exact⟨y,ys.take n,rfl,r,ye.take n l⟩
theorem zbK{f:AF->AF->Gd AF}{o:BOp}{C:Int->Int->Prop}{g:Int->Int->Int}(h:OpR X f (rI C λi j=>.int (g i j)))
  (hb:∀v w z,yr o v w=AA z->∃i j,v=.int i/\w=.int j/\C i j/\z=.int (g i j)):OpR X f (rT2 S X (yr o)):=by
 rintro pins s σ H x y v u Q I rx ry ⟨B,φ,st,a,b,z,rs,ra,rb,e,q⟩
 let⟨i,j,rfl,rfl,hc,rfl⟩:=hb a b z e;erw[yd]at ra rb;subst ra rb;exact h pins s σ H _ _ v u Q I rx ry ⟨i,j,rfl,rfl,hc,q _ H φ .rfl rs (by erw[yd])⟩
theorem zce{f:AF->AF->Gd AF}{o:BOp}{g:Int->Int->Int}(h:OpR X f (rI0 λi j=>.int (g i j)))
  (hb:∀v w z,yr o v w=AA z->∃i j,v=.int i/\w=.int j/\z=.int (g i j)):OpR X f (rT2 S X (yr o)):=by
 rintro pins s σ H x y v u Q I rx ry ⟨B,φ,st,a,b,z,rs,ra,rb,e,q⟩
 let⟨i,j,rfl,rfl,rfl⟩:=hb a b z e;erw[yd]at ra rb;subst ra rb;exact h pins s σ H _ _ v u Q I rx ry ⟨i,j,rfl,rfl,q _ H φ .rfl rs (by erw[yd])⟩
theorem zkP(v w z:PV)(h:yr .sub v w=AA z):∃i j,v=.int i/\w=.int j/\z=.int (i-j):=by
 unfold yr at h;split at h<;>first|(cases h;done)|skip
 exact⟨_,_,rfl,rfl,(AY h).symm⟩
theorem zkn(v w z:PV)(h:yr .mul v w=AA z):∃i j,v=.int i/\w=.int j/\ycF i j/\z=.int (i*j):=by
 unfold yr at h;split at h<;>first|(cases h;done)|skip
 rename_i i j;erw[IC.binI]at h;split at h
 .rename_i c;refine⟨i,j,rfl,rfl,?_,(AY h).symm⟩;erw[yaw,Ct,decide_eq_true_eq]at c;unfold ycF;rcases c with c|c
  .left;constructor<;>lia
  .right;constructor<;>lia
 .cases h
theorem ziw(v w z:PV)(h:yr .fdiv v w=AA z):∃i j,v=.int i/\w=.int j/\yc7 i j/\z=.int (i/j):=by
 unfold yr at h;split at h<;>first|(cases h;done)|skip
 rename_i i j;erw[IC.binI]at h;split at h
 .rename_i c;exact⟨i,j,rfl,rfl,c,(AY h).symm⟩
 .cases h
theorem zj5(v w z:PV)(h:yr .mod v w=AA z):∃i j,v=.int i/\w=.int j/\0<j/\z=.int (i%j):=by
 unfold yr at h;split at h<;>first|(cases h;done)|skip
 rename_i i j;erw[IC.binI]at h;split at h
 .rename_i c;exact⟨i,j,rfl,rfl,c,(AY h).symm⟩
 .cases h
theorem zlb(v w z:PV)(h:yr .pow v w=AA z):∃i j,v=.int i/\w=.int j/\ydq i j/\z=.int (i^j.toNat):=by
 unfold yr at h;split at h<;>first|(cases h;done)|skip
 rename_i i j;erw[IC.binI]at h;split at h
 .rename_i c;exact⟨i,j,rfl,rfl,⟨c.1,c.2.1,by have:=c.2.2;lia⟩,(AY h).symm⟩
 .cases h
theorem zkH(v w z:PV)(h:yr .shl v w=AA z):∃i j,v=.int i/\w=.int j/\ydq i j/\z=.int (i*2^j.toNat):=by
 unfold yr at h;split at h<;>first|(cases h;done)|skip
 rename_i i j;erw[IC.binI]at h;split at h
 .rename_i c;exact⟨i,j,rfl,rfl,⟨c.1,c.2.1,by have:=c.2.2;lia⟩,(AY h).symm⟩
 .cases h
theorem zk4(v w z:PV)(h:yr .shr v w=AA z):∃i j,v=.int i/\w=.int j/\0<=j/\z=.int (i/2^j.toNat):=by
 unfold yr at h;split at h<;>first|(cases h;done)|skip
 rename_i i j;erw[IC.binI]at h;split at h
 .rename_i c;exact⟨i,j,rfl,rfl,c,(AY h).symm⟩
 .cases h
theorem ziG(v w z:PV)(h:yr .band v w=AA z):∃i j,v=.int i/\w=.int j/\z=.int (Ab i j):=by
 unfold yr at h;split at h<;>first|(cases h;done)|skip
 exact⟨_,_,rfl,rfl,(AY h).symm⟩
theorem zkg(v w z:PV)(h:yr .bor v w=AA z):∃i j,v=.int i/\w=.int j/\z=.int (BD i j):=by
 unfold yr at h;split at h<;>first|(cases h;done)|skip
 exact⟨_,_,rfl,rfl,(AY h).symm⟩
theorem zii(v w z:PV)(h:yr .bxor v w=AA z):∃i j,v=.int i/\w=.int j/\z=.int (Ax i j):=by
 unfold yr at h;split at h<;>first|(cases h;done)|skip
 exact⟨_,_,rfl,rfl,(AY h).symm⟩
theorem zmW:OpR X (binaryOp .Sub) (rT2 S X (yr .sub)):=zce zlz zkP
theorem zlj:OpR X (binaryOp .Mult) (rT2 S X (yr .mul)):=zbK zlQ zkn
theorem zk7:OpR X (binaryOp .FloorDiv) (rT2 S X (yr .fdiv)):=zbK ziv ziw
theorem zns:OpR X (binaryOp .Mod) (rT2 S X (yr .mod)):=zbK zm6 zj5
theorem zmq:OpR X (binaryOp .Pow) (rT2 S X (yr .pow)):=zbK zmB zlb
theorem zno:OpR X (binaryOp .LShift) (rT2 S X (yr .shl)):=zbK zmD zkH
theorem zm7:OpR X (binaryOp .RShift) (rT2 S X (yr .shr)):=zbK zlG zk4
theorem zle:OpR X (binaryOp .BitAnd) (rT2 S X (yr .band)):=zce zmM ziG
theorem zlg:OpR X (binaryOp .BitOr) (rT2 S X (yr .bor)):=zce znZ zkg
theorem zjW:OpR X (binaryOp .BitXor) (rT2 S X (yr .bxor)):=zce zl0 zii
theorem zu:sizeMax=sizeLine:=by rw[DX];rfl
theorem zj3:OpR X (binaryOp .Add) (λx y H Q=>∃a b ys,x=.ref a/\y=.ref b/\SqT X.K H a []/\SqT X.K H b ys/\Q (.ref b) H):=by
 intro pins s σ H x y v u Q I rx ry h;let⟨a,b,ys,rfl,rfl,ha,hb,q⟩:=h
 cases rx
 cases ry
 let⟨its,r1,p1,_⟩:=I.tuple ha;let⟨its2,r2,p2,_⟩:=I.tuple hb;have:its=[]:=r1.nil_iff.mpr rfl;subst this;let⟨⟨cls,dd,data,sl⟩,ho,hc,n,hd⟩:=id p1;let⟨⟨cls2,dd2,data2,sl2⟩,ho2,hc2,n2,hd2⟩:=id p2;simp only at hc hd hc2 hd2;subst hc hd hc2 hd2;exact Fa ⟨_,ho,rfl⟩ ⟨_,ho2,rfl⟩ EQ FO DC Cz (Co _ _)
   (tuple_addW0 a b [].toArray its2.toArray n n2 dd dd2 sl sl2 (by simp)) ⟨ho,ho2,⟨.ref b,H,I,rfl,q⟩⟩
theorem zlN:OpR X (binaryOp .Add) (rT2 S X (yr .add)):=by
 rintro pins s σ H x y v u Q I rx ry ⟨B,φ,st,a,b,z,rs,ra,rb,e,q⟩
 unfold yr at e;split at e
 .rename_i i j;erw[yd]at ra rb;subst ra rb
  cases e
  exact zmY pins s σ H _ _ v u Q I rx ry ⟨i,j,rfl,rfl,q _ H φ .rfl rs (by erw[yd])⟩
 .rename_i i k;erw[yd]at ra rb;subst ra rb
  cases e
  exact zg0 pins s σ H _ _ v u Q I rx ry ⟨i,k,rfl,rfl,q _ H φ .rfl rs (by erw[yd];cases k<;>rfl)⟩
 .rename_i i j;erw[yd]at ra rb;subst ra rb;dsimp only at e;split at e
  .rename_i c
   cases e
   exact zf4 pins s σ H _ _ v u Q I rx ry ⟨i,j,rfl,rfl,by rw[<-zu];exact c,q _ H φ .rfl rs (by erw[yd])⟩
  .cases e
 .rename_i k1 vs k2 ws;erw[yd]at ra rb;let⟨p,xs,rfl,r1,l1⟩:=ra;let⟨p',ys,rfl,r2,l2⟩:=rb;dsimp only at e;split at e
  .rename_i c
   cases e
   have n1:=l1.length;have n2:=l2.length;unfold ydA at q
   cases vs with
   |nil=>
    have:xs=[]:=by cases xs with|nil=>rfl|cons _ _=>simp at n1
    subst this;refine zj3 pins s σ H _ _ v u Q I rx ry ⟨p,p',ys,rfl,rfl,r1.sq,r2.sq,q _ H φ .rfl rs ?_⟩;erw[GE,if_true,yd];exact⟨p',ys,rfl,r2,l2⟩
   |cons v1 vr=>
    erw[Fh,BU,if_false]at q;refine zkJ pins s σ H _ _ v u Q I rx ry ⟨p,p',xs,ys,rfl,rfl,r1.sq,r2.sq,?_,by rw[<-zu];lia,λz=>?_,λz t ht=>?_⟩
    .rintro rfl
     simp at n1
    .subst z;have:ws=[]:=by cases ws with|nil=>rfl|cons _ _=>simp at n2
     subst this;erw[GE,if_true]at q;refine q _ H φ .rfl rs ?_;erw[yd];exact⟨p,xs,rfl,r1,l1⟩
    .cases ws with
     |nil=>exact absurd (List.length_eq_zero_iff.mp n2.symm) z
     |cons w1 wr=>
      erw[Fh,BU,if_false]at q;exact q _ _ φ (.upd ht) (rs.upd ht) (.tup_new ht rs (l1.append l2))
  .cases e
 .rename_i vs ws;erw[yd]at ra rb;let⟨p,xs,rfl,r1,l1⟩:=ra;let⟨p',ys,rfl,r2,l2⟩:=rb;dsimp only at e;split at e
  .rename_i c
   cases e
   have n1:=l1.length;have n2:=l2.length;exact zlX pins s σ H _ _ v u Q I rx ry ⟨p,p',xs,ys,rfl,rfl,r1.1,r2.1,by rw[<-zu];lia,λt ht=>q _ _ φ (.upd ht) (rs.upd ht) (.lst_new ht rs (l1.append l2))⟩
  .cases e
 .cases e
end
mutual
noncomputable def toD:PV->PyData
 |.non=>.none
 |.bl b=>.bool b
 |.int i=>.int i
 |.str x=>.str x
 |.tp _ xs=>.tuple (ybp xs)
 |.lst xs=>.list (ybp xs)
 |_=>.none
noncomputable def ybp:List PV->List PyData
 |[]=>[]
 |x::xs=>toD x::ybp xs
end
mutual
theorem zht:∀(v:PV) (n:Nat),shd n v=AB->(toD v).canLay0=AB/\(toD v).depth<=n
 |.non,n,h=>by simp[toD,Cc,DH]
 |.bl b,n,h=>by simp[toD,Cc,DH]
 |.int i,n,h=>by simp[toD,Cc,DH]
 |.str x,n,h=>by
  erw[shd]at h;erw[toD,Cc,DH,Cy,and_true];exact h
 |.tp _ xs,n,h=>by
  erw[shd,AK,decide_eq_true_eq]at h;let⟨q1,q2⟩:=zdP xs (n-1) h.2;erw[toD,Cc,DH];exact⟨q1,by lia⟩
 |.lst xs,n,h=>by
  erw[shd,AK,decide_eq_true_eq]at h;let⟨q1,q2⟩:=zdP xs (n-1) h.2;erw[toD,Cc,DH];exact⟨q1,by lia⟩
 |.loc k,n,h=>by simp[shd]at h
 |.exn k,n,h=>by simp[shd]at h
 |.scr xs,n,h=>by simp[shd]at h
theorem zdP:∀(v:List PV) (n:Nat),ybd n v=AB->EC (ybp v)=AB/\Ei (ybp v)<=n
 |[],n,h=>by simp[ybp,EC,Ei]
 |v::vs,n,h=>by
  erw[ybd,AK]at h;let⟨q1,q2⟩:=zht v n h.1;let⟨q3,q4⟩:=zdP vs n h.2;erw[ybp,EC,Ei,AK];exact⟨⟨q1,q3⟩,by lia⟩
end
theorem zaX{v:PV}(h:shp v=AB):Gq (toD v)=true:=by
 let⟨q1,q2⟩:=zht v 60 h;unfold Gq;rw[q1,DU,decide_eq_true_eq];lia
mutual
theorem ze8:∀(v w:PV) (n m:Nat),shd n v=AB->shd m w=AB->BZ (toD v) (toD w)=peq v w
 |.non,w,n,m,h,q=>by cases w<;>simp_all[toD,BZ,peq,shd]
 |.bl b,w,n,m,h,q=>by cases w<;>simp_all[toD,BZ,peq,shd,bi]
 |.int i,w,n,m,h,q=>by cases w<;>simp_all[toD,BZ,peq,shd,bi]
 |.str x,w,n,m,h,q=>by cases w<;>simp_all[toD,BZ,peq,shd]
 |.tp _ xs,.tp _ ys,n,m,h,q=>by
  erw[shd,AK]at h q;erw[toD,BZ,peq];exact zdW xs ys (n-1) (m-1) h.2 q.2
 |.lst xs,.lst ys,n,m,h,q=>by
  erw[shd,AK]at h q;erw[toD,BZ,peq];exact zdW xs ys (n-1) (m-1) h.2 q.2
 |.tp _ xs,.non,n,m,h,q=>by simp[toD,BZ,peq]
 |.tp _ xs,.bl _,n,m,h,q=>by simp[toD,BZ,peq]
 |.tp _ xs,.int _,n,m,h,q=>by simp[toD,BZ,peq]
 |.tp _ xs,.str _,n,m,h,q=>by simp[toD,BZ,peq]
 |.tp _ xs,.lst _,n,m,h,q=>by simp[toD,BZ,peq]
 |.lst xs,.non,n,m,h,q=>by simp[toD,BZ,peq]
 |.lst xs,.bl _,n,m,h,q=>by simp[toD,BZ,peq]
 |.lst xs,.int _,n,m,h,q=>by simp[toD,BZ,peq]
 |.lst xs,.str _,n,m,h,q=>by simp[toD,BZ,peq]
 |.lst xs,.tp _ _,n,m,h,q=>by simp[toD,BZ,peq]
 |.loc k,w,n,m,h,q=>by simp[shd]at h
 |.exn k,w,n,m,h,q=>by simp[shd]at h
 |.scr k,w,n,m,h,q=>by simp[shd]at h
 |v,.loc k,n,m,h,q=>by simp[shd]at q
 |v,.exn k,n,m,h,q=>by simp[shd]at q
 |v,.scr k,n,m,h,q=>by simp[shd]at q
theorem zdW:∀(v w:List PV) (n m:Nat),ybd n v=AB->ybd m w=AB->DV (ybp v) (ybp w)=ya6 v w
 |[],[],n,m,h,q=>by simp[ybp,DV,ya6]
 |[],y::ys,n,m,h,q=>by simp[ybp,DV,ya6]
 |x::xs,[],n,m,h,q=>by simp[ybp,DV,ya6]
 |x::xs,y::ys,n,m,h,q=>by
  erw[ybd,AK]at h q;erw[ybp,DV,ya6];rw[ze8 x y n m h.1 q.1,zdW xs ys n m h.2 q.2]
end
section
variable {S:Se}{X:Cx}{σ:St}{B:AI->Prop}{φ φ1:Ph}{H H1:Hp}{st:SO}{pins:List (AI×Bs)}{s:AJ}
mutual
theorem zbi(I:Inv X pins σ H s):∀(v:PV) (n:Nat) (x:V) (u:AF),shd n v=AB->yd X.K S.cl B φ H v x->RelV x u->∃as,Reads s.heap u (toD v) as
 |.non,n,x,u,h,r,q=>by
  erw[yd]at r;subst r;cases (show u=Bz from q);exact⟨_,.none⟩
 |.bl b,n,x,u,h,r,q=>by
  erw[yd]at r;subst r;cases (show u=Da b from q);exact⟨_,.bool b⟩
 |.int i,n,x,u,h,r,q=>by
  erw[yd]at r;subst r;let⟨t,rfl⟩:=q;exact⟨_,.int i t⟩
 |.str y,n,x,u,h,r,q=>by
  erw[yd]at r;subst r;let⟨t,rfl⟩:=q;exact⟨_,.str y t⟩
 |.tp _ vs,n,x,u,h,r,q=>by
  erw[yd]at r;let⟨a,xs,rfl,rt,l⟩:=r
  cases (show u=Af a from q)
  erw[shd,AK]at h;let⟨its,rv,⟨o,g,c,k,d⟩,_⟩:=I.tuple rt.sq;let⟨as,z⟩:=zcZ I vs (n-1) xs its h.2 l rv;exact⟨as,.tuple g c d (by simpa using z)⟩
 |.lst vs,n,x,u,h,r,q=>by
  erw[yd]at r;let⟨a,xs,rfl,rt,l⟩:=r
  cases (show u=Af a from q)
  erw[shd,AK]at h;let⟨its,rv,⟨o,k,g,c,_,d⟩,_⟩:=I.list (rt.sq (K:=X.K));let⟨as,z⟩:=zcZ I vs (n-1) xs its h.2 l rv;exact⟨_,.list g c d (by simpa using z)⟩
 |.loc k,n,x,u,h,r,q=>by simp[shd]at h
 |.exn k,n,x,u,h,r,q=>by simp[shd]at h
 |.scr k,n,x,u,h,r,q=>by simp[shd]at h
theorem zcZ(I:Inv X pins σ H s):∀(v:List PV) (n:Nat) (x:List V) (u:List AF),ybd n v=AB->ye X.K S.cl B φ H v x->Vals x u->∃as,ReadsAll s.heap u (ybp v) as
 |[],n,x,u,h,r,q=>by
  erw[ye]at r;subst r;cases q;exact⟨_,.nil⟩
 |v::vs,n,x,u,h,r,q=>by
  erw[ye]at r;let⟨y,ys,rfl,rv,l⟩:=r;erw[ybd,AK]at h
  cases q with
  |cons q1 q2=>
   let⟨as,z1⟩:=zbi I v n y _ h.1 rv q1;let⟨bs,z2⟩:=zcZ I vs n ys _ h.2 l q2;exact⟨_,.cons z1 z2⟩
end
theorem znH(hu:X.A.units+64<cLine):OpR X (compareOp .Eq) (rT2 S X (yx .eq)):=by
 rintro pins s σ H x y v u Q I rx ry ⟨B,φ,st,a,b,z,rs,ra,rb,e,q⟩
 erw[yx]at e;split at e
 .rename_i c;rw[AK]at c
  cases e
  let⟨as,z1⟩:=zbi (S:=S) I a 60 x v c.1 ra rx;let⟨bs,z2⟩:=zbi (S:=S) I b 60 y u c.2 rb ry;refine eq_dataH z1 z2 (zaX c.1) (zaX c.2) hu ⟨.bl _,H,I,rfl,?_⟩;rw[ze8 a b 60 60 c.1 c.2];exact q _ H φ .rfl rs (by erw[yd])
 .cases e
theorem zn9(hu:X.A.units+64<cLine):OpR X (compareOp .NotEq) (rT2 S X (yx .ne)):=by
 rintro pins s σ H x y v u Q I rx ry ⟨B,φ,st,a,b,z,rs,ra,rb,e,q⟩
 erw[yx]at e;split at e
 .rename_i c;rw[AK]at c
  cases e
  let⟨as,z1⟩:=zbi (S:=S) I a 60 x v c.1 ra rx;let⟨bs,z2⟩:=zbi (S:=S) I b 60 y u c.2 rb ry;refine ne_dataH z1 z2 (zaX c.1) (zaX c.2) hu ⟨.bl _,H,I,rfl,?_⟩;rw[ze8 a b 60 60 c.1 c.2];exact q _ H φ .rfl rs (by erw[yd])
 .cases e
theorem zgp{f:AF->AF->Gd AF}{o:COp}{g:Int->Int->Bool}(h:OpR X f (rI0 λi j=>.bl (g i j)))
  (hb:∀v w z,yx o v w=AA z->∃i j,v=.int i/\w=.int j/\z=.bl (g i j)):OpR X f (rT2 S X (yx o)):=by
 rintro pins s σ H x y v u Q I rx ry ⟨B,φ,st,a,b,z,rs,ra,rb,e,q⟩
 let⟨i,j,rfl,rfl,rfl⟩:=hb a b z e;erw[yd]at ra rb;subst ra rb;exact h pins s σ H _ _ v u Q I rx ry ⟨i,j,rfl,rfl,q _ H φ .rfl rs (by erw[yd])⟩
theorem zhN:OpR X (compareOp .LtE) (λx y H Q=>∃i j,x=.str i/\y=.str j/\Q (.bl (!decide (j.cps.toList<i.cps.toList))) H):=by
 intro pins s σ H x y v u Q I rx ry h;let⟨i,j,rfl,rfl,q⟩:=h;let⟨t,rfl⟩:=rx;let⟨t',rfl⟩:=ry;exact PySem.P.le_str (zgW I q rfl)
theorem znM:OpR X (compareOp .Lt) (rT2 S X (yx .lt)):=by
 rintro pins s σ H x y v u Q I rx ry ⟨B,φ,st,a,b,z,rs,ra,rb,e,q⟩
 erw[yx]at e;split at e
 .rename_i i j;erw[yd]at ra rb;subst ra rb
  cases e
  exact znU pins s σ H _ _ v u Q I rx ry ⟨i,j,rfl,rfl,q _ H φ .rfl rs (by erw[yd])⟩
 .rename_i i j;erw[yd]at ra rb;subst ra rb
  cases e
  exact zha pins s σ H _ _ v u Q I rx ry ⟨i,j,rfl,rfl,q _ H φ .rfl rs (by erw[yd])⟩
 .cases e
theorem zn1:OpR X (compareOp .LtE) (rT2 S X (yx .le)):=by
 rintro pins s σ H x y v u Q I rx ry ⟨B,φ,st,a,b,z,rs,ra,rb,e,q⟩
 erw[yx]at e;split at e
 .rename_i i j;erw[yd]at ra rb;subst ra rb
  cases e
  exact zof pins s σ H _ _ v u Q I rx ry ⟨i,j,rfl,rfl,q _ H φ .rfl rs (by erw[yd])⟩
 .rename_i i j;erw[yd]at ra rb;subst ra rb
  cases e
  exact zhN pins s σ H _ _ v u Q I rx ry ⟨i,j,rfl,rfl,q _ H φ .rfl rs (by erw[yd])⟩
 .cases e
theorem zfl{o:COp}{g:Int->Int->Bool}(ho:∀v w,yx o v w=match v,w with
   |.int i,.int j=>ybm o i j
   |.str a,.str b=>ydJ o a b
   |_,_=>AC) (hs:∀a b,ydJ o a b=AC) (hg:∀i j,ybm o i j=AA (.bl (g i j))) (v w z:PV) (h:yx o v w=AA z):∃i j,v=.int i/\w=.int j/\z=.bl (g i j):=by
 rw[ho]at h;split at h
 .rename_i i j;rw[hg]at h;exact⟨i,j,rfl,rfl,(AY h).symm⟩
 .rw[hs]at h;cases h
 .cases h
theorem zny:OpR X (compareOp .Gt) (rT2 S X (yx .gt)):=zgp zoh (zfl (λ_ _=>rfl) (λ_ _=>rfl) λ_ _=>rfl)
theorem zn5:OpR X (compareOp .GtE) (rT2 S X (yx .ge)):=zgp zn7 (zfl (λ_ _=>rfl) (λ_ _=>rfl) λ_ _=>rfl)
theorem yd.isNon{K:AE}{cl:Nat->AI}{v:PV}{x:V}(r:yd K cl B φ H v x):decide (x=.non)=IC.isNon v:=by
 cases v with
 |loc n=>erw[yd]at r;let⟨_,a,rfl,_⟩:=r;rfl
 |non=>erw[yd]at r;subst r;rfl
 |bl b=>erw[yd]at r;subst r;rfl
 |int b=>erw[yd]at r;subst r;rfl
 |str b=>erw[yd]at r;subst r;rfl
 |tp k vs=>erw[yd]at r;let⟨a,xs,rfl,_⟩:=r;rfl
 |lst vs=>erw[yd]at r;let⟨a,xs,rfl,_⟩:=r;rfl
 |exn vs=>erw[yd]at r;let⟨a,rfl,_⟩:=r;rfl
 |scr vs=>erw[yd]at r;let⟨a,xs,rfl,_⟩:=r;rfl
theorem yd.flat{K:AE}{cl:Nat->AI}{v:PV}{x:V}(r:yd K cl B φ H v x)(h:IC.flat v=AB):yaQ x=AB/\∀(w:PV) (y:V),IC.flat w=AB->yd K cl B φ H w y->eqV x y=peq v w:=by
 cases v with
 |non=>
  erw[yd]at r;subst r;refine⟨rfl,λw y hw rw=>?_⟩
  cases w<;>first|(simp[IC.flat]at hw;done)|(erw[yd]at rw;subst rw;simp[eqV,peq,bi])
 |bl b=>
  erw[yd]at r;subst r;refine⟨rfl,λw y hw rw=>?_⟩
  cases w<;>first|(simp[IC.flat]at hw;done)|(erw[yd]at rw;subst rw;simp[eqV,peq,bi])
 |int b=>
  erw[yd]at r;subst r;refine⟨rfl,λw y hw rw=>?_⟩
  cases w<;>first|(simp[IC.flat]at hw;done)|(erw[yd]at rw;subst rw;simp[eqV,peq,bi])
 |str b=>
  erw[yd]at r;subst r;refine⟨rfl,λw y hw rw=>?_⟩
  cases w<;>first|(simp[IC.flat]at hw;done)|(erw[yd]at rw;subst rw;simp[eqV,peq,bi])
 |_=>simp[IC.flat]at h
theorem zeV{K:AE}{cl:Nat->AI}{v:PV}{x:V}(r:yd K cl B φ H v x)(h:IC.flat v=AB):∀{vs:List PV} {xs:List V},ye K cl B φ H vs xs->vs.all IC.flat=AB->xs.all yaQ=AB/\inV x xs=inL v vs
 |[],xs,l,_=>by erw[ye]at l;subst l;exact⟨rfl,rfl⟩
 |w::vs,xs,l,f=>by
  erw[ye]at l;let⟨y,ys,rfl,rw,l⟩:=l;rw[B5,AK]at f;let⟨q1,q2⟩:=zeV r h l f.2;let⟨q3,q4⟩:=rw.flat f.1;refine⟨by rw[B5,q3,q1];rfl,?_⟩;unfold inV at q2 ⊢;rw[BH,q2,q4 v x h r];rfl
end
theorem zkI(a b:AQ):(!(EM b a 0 b.length 1).isEmpty)=inS a b:=by
 rw[Cu,StrLaws.found_iff];unfold inS;rw[ES];constructor
 .rintro⟨i,h1,h2⟩
  exact⟨i,by rw[GZ];lia,by rw[AK,decide_eq_true_eq];exact⟨h1,h2⟩⟩
 .rintro⟨i,_,h⟩
  rw[AK,decide_eq_true_eq]at h;exact⟨i,h.1,h.2⟩
section
variable {S:Se}{X:Cx}{σ:St}{B:AI->Prop}{φ φ1:Ph}{H H1:Hp}{st:SO}
theorem znP:OpR X (compareOp .In) (rT2 S X (yx .isin)):=by
 rintro pins s σ H x y v u Q I rx ry ⟨B,φ,st,a,b,z,rs,ra,rb,e,q⟩
 erw[yx]at e;split at e
 .rename_i i j;erw[yd]at ra rb;subst ra rb
  cases e
  exact zgY pins s σ H _ _ v u Q I rx ry ⟨i,j,rfl,rfl,by rw[zkI];exact q _ H φ .rfl rs (by erw[yd])⟩
 .rename_i l;split at e
  .rename_i c;rw[AK]at c
   cases e
   erw[yd]at rb;let⟨p,xs,rfl,r,l'⟩:=rb;let⟨q1,q2⟩:=zeV ra c.1 l' c.2;exact zeG pins s σ H _ _ v u Q I rx ry ⟨p,xs,rfl,.inr r.sq,(ra.flat c.1).1,q1,q _ H φ .rfl rs (by erw[yd];rw[<-q2];rfl)⟩
  .cases e
 .rename_i l;split at e
  .rename_i c;rw[AK]at c
   cases e
   erw[yd]at rb;let⟨p,xs,rfl,r,l'⟩:=rb;let⟨q1,q2⟩:=zeV ra c.1 l' c.2;exact zeG pins s σ H _ _ v u Q I rx ry ⟨p,xs,rfl,.inl r.sq,(ra.flat c.1).1,q1,q _ H φ .rfl rs (by erw[yd];rw[<-q2];rfl)⟩
  .cases e
 .cases e
theorem ye.empty{K:AE}{cl:Nat->AI}{vs:List PV}{xs:List V}(l:ye K cl B φ H vs xs):vs.isEmpty=xs.isEmpty:=by
 have:=l.length
 cases vs<;>cases xs<;>simp_all
theorem zkS{K:AE}{cl:Nat->AI}{v:PV}{x:V}{k:Bool}(rs:yt K cl B φ H st)(r:yd K cl B φ H v x)(h:yaF st v=AA k):ydQ K x H k:=by
 cases v with
 |non=>erw[yd]at r;subst r;cases h;rfl
 |bl b=>erw[yd]at r;subst r;cases h;rfl
 |int b=>erw[yd]at r;subst r;cases h;rfl
 |str b=>
  erw[yd]at r;subst r;erw[yaF]at h;split at h
  .rename_i c
   cases h
   exact⟨by rw[<-zu];exact c,rfl⟩
  .cases h
 |tp k vs=>
  erw[yd]at r;let⟨a,xs,rfl,rt,l⟩:=r
  cases h
  exact .inr (.inl ⟨xs,rt.sq,by rw[l.empty]⟩)
 |lst vs=>
  erw[yd]at r;let⟨a,xs,rfl,rt,l⟩:=r
  cases h
  exact .inl ⟨xs,rt.sq,by rw[l.empty]⟩
 |loc n=>
  erw[yd]at r;let⟨hn,a,rfl,ha⟩:=r;erw[yaF]at h;split at h
  .rename_i vs hv
   cases h
   let⟨b,hb⟩:=rs.liv n _ hv (by intro z;cases z);obtain rfl:=ha b hb;let⟨o,ho,ro⟩:=rs.obj n b hb;rw[hv]at ho;cases ho;let⟨xs,hx,l⟩:=ro;exact .inl ⟨xs,.of hx,by rw[l.empty]⟩
  .cases h
 |exn c=>cases h
 |scr c=>cases h
end
theorem R.bind_assoc{α β γ:Type}{r:R α}{k:α->SO->R β}{l:β->SO->R γ}:(r.bind k).bind l=r.bind λa s=>(k a s).bind l:=by
 cases r<;>rfl
section
variable {S:Se}{X:Cx}{σ:St}{B:AI->Prop}{φ φ1:Ph}{H H1:Hp}{st:SO}{ρ:IC.Env}{pos:CH}{a b c d:AS}{ca cb cc:Ce}{es:List AS}{ces:Ces}
theorem zdT{o:COp}{v w z:PV}(h:yx o v w=AA z):∃k,z=.bl k:=by
 cases o<;>erw[yx]at h
 all_goals (repeat' split at h)<;>first|(cases h;done)|(cases h;exact⟨_,rfl⟩)|skip
 all_goals (erw[ybm]at h;cases h;exact⟨_,rfl⟩)
theorem zmK{op:FN}{o:COp}(ho:OpR X (compareOp op) (rT2 S X (yx o)))(ha:PE X a (tE S X ca))(hb:PE X b (tE S X cb))(hm:behindInMarks op b=AD):PT X (.Compare a [op] [b] pos) (tTs S X (.cmp o ca cb)):=
 (zki ho ha hb hm).imp λσ H Q ⟨B,φ,st,ρ,rs,re,h⟩=>by
  erw[ev,yaU,R.bind_assoc]at h;refine tE.bind rs re h λx H1 v st1 φ1 s1 rs1 re1 rv h1=>tE.bind rs1 re1 h1 λy H2 w st2 φ2 s2 rs2 re2 rw h2=>?_
  cases e:yx o v w with
  |none=>rw[e]at h2;exact h2.elim
  |some z=>
   let⟨k,rfl⟩:=zdT e;rw[e]at h2;refine⟨B,φ2,st2,v,w,.bl k,rs2,rv.step s2,rw,e,λz' H' φ' s' rs' rz=>?_⟩;erw[yd]at rz;exact⟨k,rz,h2 k H' φ' s' rs' rfl⟩
theorem znd(ha:PE X a (tE S X ca))(he:∀whole,isTrue a X.env whole=(do let v <-whole;standAt a.pos;holding [v] (truthy v)):=by intro _;rfl):PT X a (tTs S X ca):=
 (ziW ha he).imp λσ H Q ⟨B,φ,st,ρ,rs,re,h⟩=>by
  erw[yaU]at h;refine tE.bind rs re h λx H1 v st1 φ1 s1 rs1 re1 rv h1=>?_
  cases e:yaF st1 v with
  |none=>rw[e]at h1;exact h1.elim
  |some k=>
   rw[e]at h1;exact⟨k,zkS rs1 rv e,h1.ok rs1 rfl⟩
theorem tTs.bind{γ δ:Type}{Gp:Ph->Hp->γ->δ->Prop}{k:Bool->SO->R γ}{Q:δ->Hp->Prop}{P:Bool->Hp->Prop}(rs:yt X.K S.cl B φ H st)(re:yI X.K S.cl B φ H ρ σ)(h:Run S X σ B φ H Gp ((yaU (ev S.call ρ st ca)).bind k) Q)
  (n:∀b H1 st1 φ1,Step φ H φ1 H1->yt X.K S.cl B φ1 H1 st1->yI X.K S.cl B φ1 H1 ρ σ->Run S X σ B φ1 H1 Gp (k b st1) Q->P b H1):tTs S X ca σ H P:=
 ⟨B,φ,st,ρ,rs,re,(Run.bind h).mono λx H1 ⟨v,st1,φ1,s,rs1,rv,h1⟩=>by
  subst rv;exact n v H1 st1 φ1 s rs1 (re.step s) h1⟩
theorem zeZ(r:R PV)(f:Bool->SO->R PV):yaU (r.bind λx st1=>onBl x λb=>f b st1)=r.bind λx st1=>onBl x λb=>yaU (f b st1):=by
 unfold yaU;rw[R.bind_assoc]
 congr 1
 funext x st1
 cases x<;>rfl
theorem Run.bl_tru{r:R PV}{k:Bool->SO->R Bool}{Q:Bool->Hp->Prop}(h:Run S X σ B φ H RB (r.bind λx st1=>onBl x λb=>k b st1) Q):Run S X σ B φ H RB ((yaU r).bind k) Q:=by
 cases r with
 |bad=>exact h
 |exc c s=>exact h
 |ok v s=>
  cases v with
  |bl b=>exact h
  |_=>exact h.elim
theorem zmI(ha:PT X a (tTs S X ca)):PT X (.UnaryOp .Not a pos) (tTs S X (.not ca)):=
 (zmO ha).imp λσ H Q ⟨B,φ,st,ρ,rs,re,h⟩=>by
  erw[ev]at h;rw[zeZ _ λk st1=>.ok (.bl (!k)) st1]at h;exact tTs.bind rs re (Run.bl_tru (k:=λb st1=>.ok (!b) st1) h) λb H1 st1 φ1 s1 rs1 re1 h1=>h1.ok rs1 rfl
variable {rest:List AS}
theorem zk2(ha:PT X a (tTs S X ca)):PW X (.BoolOp .And [a] pos) (tTs S X ca):=zkp ha
theorem zne(ha:PT X a (tTs S X ca)):PW X (.BoolOp .Or [a] pos) (tTs S X ca):=zlU ha
theorem zmo(ha:PT X a (tTs S X ca))(hb:PW X (.BoolOp .And (b::rest) pos) (tTs S X cb)):PW X (.BoolOp .And (a::b::rest) pos) (tTs S X (.and ca cb)):=
 (zlt ha hb).imp λσ H Q ⟨B,φ,st,ρ,rs,re,h⟩=>by
  erw[ev]at h;rw[zeZ _ λk st1=>cond k (ev S.call ρ st1 cb) (.ok (.bl AD) st1)]at h;refine tTs.bind rs re (Run.bl_tru h) λk H1 st1 φ1 s1 rs1 re1 h1=>?_
  cases k with
  |false=>exact h1.ok rs1 rfl
  |true=>exact⟨B,φ1,st1,ρ,rs1,re1,h1⟩
theorem znQ(ha:PT X a (tTs S X ca))(hb:PW X (.BoolOp .Or (b::rest) pos) (tTs S X cb)):PW X (.BoolOp .Or (a::b::rest) pos) (tTs S X (.or ca cb)):=
 (zoa ha hb).imp λσ H Q ⟨B,φ,st,ρ,rs,re,h⟩=>by
  erw[ev]at h;rw[zeZ _ λk st1=>cond k (.ok (.bl AB) st1) (ev S.call ρ st1 cb)]at h;refine tTs.bind rs re (Run.bl_tru h) λk H1 st1 φ1 s1 rs1 re1 h1=>?_
  cases k with
  |true=>exact h1.ok rs1 rfl
  |false=>exact⟨B,φ1,st1,ρ,rs1,re1,h1⟩
theorem zjd{op:Gr}(h:PE X a (tE S X ca)):PE X (.BoolOp op [a] pos) (tE S X ca):=zmZ h
theorem zjg(ha:PE X a (tE S X ca))(hb:PE X (.BoolOp .And (b::rest) pos) (tE S X cb)):PE X (.BoolOp .And (a::b::rest) pos) (tE S X (.and ca cb)):=
 (zl5 ha hb).imp λσ H Q ⟨B,φ,st,ρ,rs,re,h⟩=>by
  erw[ev]at h;refine tE.bind rs re h λx H1 v st1 φ1 s1 rs1 re1 rv h1=>?_
  cases v with
  |bl k=>
   erw[yd]at rv;refine⟨k,rv,?_⟩
   cases k with
   |true=>exact⟨B,φ1,st1,ρ,rs1,re1,h1⟩
   |false=>exact h1.ok rs1 (by erw[yd])
  |_=>exact h1.elim
theorem znb(ha:PE X a (tE S X ca))(hb:PE X (.BoolOp .Or (b::rest) pos) (tE S X cb)):PE X (.BoolOp .Or (a::b::rest) pos) (tE S X (.or ca cb)):=
 (znN ha hb).imp λσ H Q ⟨B,φ,st,ρ,rs,re,h⟩=>by
  erw[ev]at h;refine tE.bind rs re h λx H1 v st1 φ1 s1 rs1 re1 rv h1=>?_
  cases v with
  |bl k=>
   erw[yd]at rv;refine⟨k,rv,?_⟩
   cases k with
   |false=>exact⟨B,φ1,st1,ρ,rs1,re1,h1⟩
   |true=>exact h1.ok rs1 (by erw[yd])
  |_=>exact h1.elim
theorem zm8(ha:PE X a (tE S X ca)):PE X (.UnaryOp .Not a pos) (tE S X (.not ca)):=
 (zmx ha).imp λσ H Q ⟨B,φ,st,ρ,rs,re,h⟩=>by
  erw[ev]at h;refine tE.bind rs re h λx H1 v st1 φ1 s1 rs1 re1 rv h1=>?_
  cases v with
  |bl k=>
   erw[yd]at rv;exact⟨k,rv,h1.ok rs1 (by erw[yd])⟩
  |_=>exact h1.elim
theorem zjs(ha:PE X a (tE S X ca)):PE X (.UnaryOp .USub a pos) (tE S X (.neg ca)):=
 (znL zlK ha).imp λσ H Q ⟨B,φ,st,ρ,rs,re,h⟩=>by
  erw[ev]at h;refine tE.bind rs re h λx H1 v st1 φ1 s1 rs1 re1 rv h1=>?_;split at h1
  .simp only[yd]at rv;exact⟨_,rv,h1.ok rs1 (by erw[yd])⟩
  .exact h1.elim
theorem zma(hc:PT X c (tTs S X cc))(ha:PE X a (tE S X ca))(hb:PE X b (tE S X cb)):PE X (.IfExp c a b pos) (tE S X (.ite cc ca cb)):=
 (zhY hc ha hb).imp λσ H Q ⟨B,φ,st,ρ,rs,re,h⟩=>by
  erw[ev]at h;have e:((ev S.call ρ st cc).bind λx st1=>onO (yaF st1 x) λk=>cond k (ev S.call ρ st1 ca) (ev S.call ρ st1 cb))=(yaU (ev S.call ρ st cc)).bind λk st1=>cond k (ev S.call ρ st1 ca) (ev S.call ρ st1 cb):=by
   unfold yaU;rw[R.bind_assoc]
   congr 1
   funext x st1
   cases yaF st1 x<;>rfl
  rw[e]at h;refine tTs.bind rs re h λk H1 st1 φ1 s1 rs1 re1 h1=>?_
  cases k with
  |true=>exact⟨B,φ1,st1,ρ,rs1,re1,h1⟩
  |false=>exact⟨B,φ1,st1,ρ,rs1,re1,h1⟩
theorem zgr:PA X [] (tAs S X .nil):=yba.imp λσ H Q ⟨B,φ,st,ρ,rs,re,h⟩=>by
 erw[evs]at h;exact h.ok rs (by erw[ye])
theorem zdF(ha:PE X a (tE S X ca))(hr:PA X es (tAs S X ces))(hs:starEach (a::es) X.env=(AD,eval a X.env)::starEach es X.env:=by rfl):PA X (a::es) (tAs S X (.cons ca ces)):=
 (zbd ha hr hs).imp λσ H Q ⟨B,φ,st,ρ,rs,re,h⟩=>by
  erw[evs]at h;refine tE.bind rs re h λx H1 v st1 φ1 s1 rs1 re1 rv h1=>tAs.bind rs1 re1 h1 λxs H2 vs st2 φ2 s2 rs2 re2 rvs h2=>?_;refine h2.ok rs2 ?_;erw[ye];exact⟨x,xs,rfl,rv.step s2,rvs⟩
theorem znh{k:Nat}(h:PA X es (tAs S X ces)):PE X (.Tuple es k pos) (tE S X (.tup ces)):=
 (zll h).imp λσ H Q ⟨B,φ,st,ρ,rs,re,h⟩=>by
  erw[ev]at h;refine tAs.bind rs re h λxs H1 vs st1 φ1 s1 rs1 re1 rv h1=>?_;split at h1
  .rename_i c;refine⟨by rw[<-zu,<-rv.length];exact c,λp hp=>h1 _ _ φ1 (.upd hp) (rs1.upd hp) (.tup_new hp rs1 rv)⟩
  .exact h1.elim
theorem zmL(h:PA X es (tAs S X ces)):PE X (.List es pos) (tE S X (.lst ces)):=
 (zjE h).imp λσ H Q ⟨B,φ,st,ρ,rs,re,h⟩=>by
  erw[ev]at h;refine tAs.bind rs re h λxs H1 vs st1 φ1 s1 rs1 re1 rv h1=>?_;split at h1
  .rename_i c;refine⟨by rw[<-zu,<-rv.length];exact c,λp hp=>h1 _ _ φ1 (.upd hp) (rs1.upd hp) (.lst_new hp rs1 rv)⟩
  .exact h1.elim
theorem Step.push{p:AI}{o:HO}(hp:H p=AC):Step φ H (φ++[AA p]) (L2.upd H p o):=by
 refine⟨λb u n e=>by rw[zh (zl e hp)];exact e,by simp,λn a hn e=>?_,λb h=>?_⟩
 .rw[Ae hn]at e;exact e
 .rw[Cr]at h;rcases h with h|h
  .exact .inl h
  .have:b=p:=by simpa using h
   subst this;exact .inr hp
theorem yt.push{K:AE}{cl:Nat->AI}{p:AI}{u:HO}{o:Ob}(rs:yt K cl B φ H st)(hp:H p=AC)(hb:¬B p)(ho:ybU K cl B (φ++[AA p]) (L2.upd H p u) o p):yt K cl B (φ++[AA p]) (L2.upd H p u) (st++[o]):=by
 have s:Step φ H (φ++[AA p]) (L2.upd H p u):=.push hp;have np:AA p∉φ:=λz=>by
  let⟨w,e⟩:=rs.there z;rw[hp]at e;cases e
 have hl:φ.length=st.length:=rs.len;refine⟨by simp[hl],λm n a e1 e2=>?_,λn a e=>?_,λn o' e ho'=>?_,λa h=>?_,λa h=>?_⟩
 .by_cases hm:m<φ.length
  .rw[Ae hm]at e1
   by_cases hn:n<φ.length
   .rw[Ae hn]at e2;exact rs.inj m n a e1 e2
   .rw[Al (by lia)]at e2;have:a=p:=by
     cases q:n-φ.length with
     |zero=>rw[q]at e2;simpa using e2.symm
     |succ k=>rw[q]at e2;simp at e2
    subst this;exact absurd (A4 e1) np
  .rw[Al (by lia)]at e1;have:m-φ.length=0/\a=p:=by
    cases q:m-φ.length with
    |zero=>rw[q]at e1;exact⟨rfl,by simpa using e1.symm⟩
    |succ k=>rw[q]at e1;simp at e1
   let⟨q1,rfl⟩:=this
   by_cases hn:n<φ.length
   .rw[Ae hn]at e2;exact absurd (A4 e2) np
   .rw[Al (by lia)]at e2;have:n-φ.length=0:=by
     cases q:n-φ.length with
     |zero=>rfl
     |succ k=>rw[q]at e2;simp at e2
    lia
 .by_cases hn:n<φ.length
  .rw[Ae hn]at e;let⟨o',q,r⟩:=rs.obj n a e;refine⟨o',by rw[Ae (by lia)];exact q,r.step s ?_⟩;rw[zh]
   rintro rfl
   exact np (A4 e)
  .rw[Al (by lia)]at e;have:n-φ.length=0/\a=p:=by
    cases q:n-φ.length with
    |zero=>rw[q]at e;exact⟨rfl,by simpa using e.symm⟩
    |succ k=>rw[q]at e;simp at e
   let⟨q1,rfl⟩:=this;refine⟨o,?_,ho⟩;rw[Al (by lia)];have:n-st.length=0:=by lia
   rw[this];rfl
 .by_cases hn:n<φ.length
  .rw[Ae (by lia)]at e;let⟨a,q⟩:=rs.liv n o' e ho';exact⟨a,by rw[Ae hn];exact q⟩
  .rw[Al (by lia)]at e;have:n-st.length=0:=by
    cases q:n-st.length with
    |zero=>rfl
    |succ k=>rw[q]at e;simp at e
   refine⟨p,?_⟩;rw[Al (by lia)];have:n-φ.length=0:=by lia
   rw[this];rfl
 .rw[Cr]at h;rcases h with h|h
  .exact rs.nb a h
  .have:a=p:=by simpa using h
   subst this;exact hb
 .let⟨w,e⟩:=rs.dom a h;exact⟨w,by rw[zh (zl e hp)];exact e⟩
theorem yt.nB{K:AE}{cl:Nat->AI}{p:AI}(rs:yt K cl B φ H st)(hp:H p=AC):¬B p:=λz=>by
 let⟨o,e⟩:=rs.dom p z;rw[hp]at e;cases e
theorem yd.loc_new{K:AE}{cl:Nat->AI}{p:AI}(rs:yt K cl B φ H st):yd K cl B (φ++[AA p]) H1 (.loc st.length) (.ref p):=by
 erw[yd];have hl:=rs.len;refine⟨by simp[hl],p,rfl,λb e=>?_⟩;rw[Al (by lia)]at e;have:st.length-φ.length=0:=by lia
 rw[this]at e;simpa using e.symm
theorem zkL(h:PA X es (tAs S X ces)):PE X (.List es pos) (tE S X (.newl ces)):=
 (zjE h).imp λσ H Q ⟨B,φ,st,ρ,rs,re,h⟩=>by
  erw[ev]at h;refine tAs.bind rs re h λxs H1 vs st1 φ1 s1 rs1 re1 rv h1=>?_;split at h1
  .rename_i c;refine⟨by rw[<-zu,<-rv.length];exact c,λp hp=>h1 _ _ (φ1++[AA p]) (.push hp) (rs1.push hp (rs1.nB hp) ⟨xs,zp,rv.step (.push hp)⟩) (.loc_new rs1)⟩
  .exact h1.elim
end
section
variable {S:Se}{X:Cx}{σ:St}{B:AI->Prop}{φ φ1:Ph}{H H1:Hp}{st:SO}{ρ:IC.Env}{pos p2:CH}{a b c d:AS}{ca cb cc:Ce}{es:List AS}{ces:Ces}{K:AE}{cl:Nat->AI}
theorem zg6{o:COp}{v w:PV}{α β:Type}{Rel:Ph->Hp->α->β->Prop}{k:Bool->R α}{Q:β->Hp->Prop}(h:Run S X σ B φ H Rel (onO (blO (yx o v w)) k) Q):∃b,yx o v w=AA (.bl b)/\Run S X σ B φ H Rel (k b) Q:=by
 cases e:yx o v w with
 |none=>rw[e]at h;exact h.elim
 |some z=>
  let⟨b,rfl⟩:=zdT e;rw[e]at h;exact⟨b,rfl,h⟩
theorem zih{op op':FN}{o p:COp}(ho:OpR X (compareOp op) (rT2 S X (yx o)))(ho':OpR X (compareOp op') (rT2 S X (yx p)))(ha:PE X a (tE S X ca))(hb:PE X b (tE S X cb))(hc:PE X c (tE S X cc))
  (hm:lastMarks [op,op'] [b,c]=false:=by ac_rfl):PE X (.Compare a [op,op'] [b,c] pos) (tE S X (.chain o p ca cb cc)):=
 (zid ho ho' ha hb hc hm).imp λσ H Q ⟨B,φ,st,ρ,rs,re,h⟩=>by
  erw[ev]at h;refine tE.bind rs re h λx H1 v st1 φ1 s1 rs1 re1 rv h1=>tE.bind rs1 re1 h1 λy H2 w st2 φ2 s2 rs2 re2 rw h2=>?_;let⟨k,e,h2⟩:=zg6 h2;refine⟨B,φ2,st2,v,w,.bl k,rs2,rv.step s2,rw,e,λz' H' φ' s' rs' rz=>?_⟩;erw[yd]at rz;refine⟨k,rz,?_⟩
  cases k with
  |false=>exact h2 _ H' φ' s' rs' (by erw[yd])
  |true=>
   refine tE.bind rs' (re2.step s') (Run.on s' h2) λz H3 v3 st3 φ3 s3 rs3 re3 rv3 h3=>?_;let⟨q,eq,hq⟩:=z5 h3 rs3;exact⟨B,φ3,st3,w,v3,q,rs3,(rw.step s').step s3,rv3,eq,hq⟩
theorem zij{op op':FN}{o p:COp}(ho:OpR X (compareOp op) (rT2 S X (yx o)))(ho':OpR X (compareOp op') (rT2 S X (yx p)))(ha:PE X a (tE S X ca))(hb:PE X b (tE S X cb))(hc:PE X c (tE S X cc))
  (hm:lastMarks [op,op'] [b,c]=false:=by ac_rfl):PT X (.Compare a [op,op'] [b,c] pos) (tTs S X (.chain o p ca cb cc)):=
 (zh8 ho ho' ha hb hc hm).imp λσ H Q ⟨B,φ,st,ρ,rs,re,h⟩=>by
  erw[ev,yaU,R.bind_assoc]at h;refine tE.bind rs re h λx H1 v st1 φ1 s1 rs1 re1 rv h1=>tE.bind rs1 re1 h1 λy H2 w st2 φ2 s2 rs2 re2 rw h2=>?_;have h2':Run S X σ B φ2 H2 RB (onO (blO (yx o v w)) λk=>cond k ((ev S.call ρ st2 cc).bind λz st3=>(toR (yx p w z) st3).bind λx st=>onO (yaF st x) λb=>.ok b st) (.ok AD st2)) Q:=by
   cases e:yx o v w with
   |none=>rw[e]at h2;exact h2
   |some z=>
    let⟨b,rfl⟩:=zdT e;rw[e]at h2
    cases b with
    |false=>exact h2
    |true=>
     erw[blO,onO,cond_true,R.bind_assoc]at h2 ⊢;exact h2
  let⟨k,e,h2⟩:=zg6 h2';refine⟨B,φ2,st2,v,w,.bl k,rs2,rv.step s2,rw,e,λz' H' φ' s' rs' rz=>?_⟩;erw[yd]at rz;refine⟨k,rz,?_⟩
  cases k with
  |false=>exact⟨AD,rfl,h2 _ H' φ' s' rs' rfl⟩
  |true=>
   refine tE.bind rs' (re2.step s') (Run.on s' h2) λz H3 v3 st3 φ3 s3 rs3 re3 rv3 h3=>?_
   cases eq:yx p w v3 with
   |none=>rw[eq]at h3;exact h3.elim
   |some q=>
    let⟨b,rfl⟩:=zdT eq;rw[eq]at h3;refine⟨B,φ3,st3,w,v3,.bl b,rs3,(rw.step s').step s3,rv3,eq,λz2 H4 φ4 s4 rs4 rz4=>?_⟩;erw[yd]at rz4;exact⟨b,rz4,h3 b H4 φ4 s4 rs4 rfl⟩
theorem ye.at{vs:List PV}{xs:List V}{i:Int}{v:PV}(l:ye K cl B φ H vs xs)(h:at? vs i=AA v):∃x,atI xs i=AA x/\yd K cl B φ H v x:=by
 unfold at? at h;rw[l.length]at h;unfold atI
 cases e:ixI xs.length i with
 |none=>rw[e]at h;cases h
 |some j=>
  rw[e]at h;have e':ixN xs.length i=AA j:=e;rw[e'];exact l.get j h
theorem yt.list{n:Nat}{vs:List PV}{x:V}(rs:yt K cl B φ H st)(r:yd K cl B φ H (.loc n) x)(h:st[n]?=AA (.lst vs)):∃a xs,x=.ref a/\φ[n]?=AA (AA a)/\H a=AA (.lst xs)/\ye K cl B φ H vs xs:=by
 erw[yd]at r;let⟨hn,a,rfl,ha⟩:=r;let⟨b,hb⟩:=rs.liv n _ h (by intro z;cases z);obtain rfl:=ha b hb;let⟨o,ho,ro⟩:=rs.obj n b hb;rw[h]at ho;cases ho;let⟨xs,hx,l⟩:=ro;exact⟨b,xs,rfl,hb,hx,l⟩
def rTS(S:Se)(X:Cx)(f:SO->PV->PV->Option PV):R2:=λx y H Q=>∃B φ st v w z,yt X.K S.cl B φ H st/\yd X.K S.cl B φ H v x/\yd X.K S.cl B φ H w y/\f st v w=AA z /\
 ∀z' H' φ',Step φ H φ' H'->yt X.K S.cl B φ' H' st->yd X.K S.cl B φ' H' z z'->Q z' H'
theorem zb4{α:Type}{xs:List α}{i:PV}{z:α}(h:yaS xs i=AA z):∃k,i=.int k/\at? xs k=AA z:=by
 cases i with
 |int k=>exact⟨k,rfl,h⟩
 |_=>cases h
theorem zkx:IxR X (rTS S X idxV):=by
 rintro value slice pins s σ H x y v u Q I rx ry ⟨B,φ,st,a,i,z,rs,ra,ri,e,q⟩ hs
 cases a with
 |tp k vs=>
  let⟨k,rfl,e⟩:=zb4 e;erw[yd]at ra ri;subst ri;let⟨p,xs,rfl,rt,l⟩:=ra;let⟨w,e1,rw⟩:=l.at e;exact zfF value slice pins s σ H _ _ v u Q I rx ry (.inr (.inl ⟨p,xs,k,w,rfl,rfl,rt.sq,e1,q w H φ .rfl rs rw⟩)) hs
 |lst vs=>
  let⟨k,rfl,e⟩:=zb4 e;erw[yd]at ra ri;subst ri;let⟨p,xs,rfl,rt,l⟩:=ra;let⟨w,e1,rw⟩:=l.at e;exact zfF value slice pins s σ H _ _ v u Q I rx ry (.inl ⟨p,xs,k,w,rfl,rfl,rt.sq,e1,q w H φ .rfl rs rw⟩) hs
 |loc n=>
  erw[idxV]at e;split at e
  .rename_i vs h1;let⟨k,rfl,e⟩:=zb4 e;erw[yd]at ri;subst ri;let⟨p,xs,rfl,_,hx,l⟩:=rs.list ra h1;let⟨w,e1,rw⟩:=l.at e;exact zfF value slice pins s σ H _ _ v u Q I rx ry (.inl ⟨p,xs,k,w,rfl,rfl,.of hx,e1,q w H φ .rfl rs rw⟩) hs
  .cases e
 |str t=>
  erw[idxV]at e;split at e
  .rename_i hl
   cases e1:yaS t.cps.toList i with
   |none=>rw[e1]at e;cases e
   |some c=>
    rw[e1]at e
    cases e
    let⟨k,rfl,e1⟩:=zb4 e1;erw[yd]at ra ri;subst ra ri;exact zfF value slice pins s σ H _ _ v u Q I rx ry (.inr (.inr ⟨t,k,c,rfl,rfl,by rw[<-zu];exact hl,e1,q _ H φ .rfl rs (by erw[yd])⟩)) hs
  .cases e
 |_=>cases e
theorem zlu(ha:PE X a (tE S X ca))(hb:PE X b (tE S X cb))(hs:ybj b:=by exact λ_ _=>rfl):PE X (.Subscript a b pos) (tE S X (.idx ca cb)):=
 (znW zkx ha hb hs).imp λσ H Q ⟨B,φ,st,ρ,rs,re,h⟩=>by
  erw[ev]at h;refine tE.bind rs re h λx H1 v st1 φ1 s1 rs1 re1 rv h1=>tE.bind rs1 re1 h1 λy H2 w st2 φ2 s2 rs2 re2 rw h2=>?_;let⟨z,e,q⟩:=z5 h2 rs2;exact⟨B,φ2,st2,v,w,z,rs2,rv.step s2,rw,e,q⟩
theorem ye.cut{vs:List PV}{xs:List V}(lo hi:Option Int)(l:ye K cl B φ H vs xs):ye K cl B φ H (IC.cut vs lo hi) (yb4 xs lo hi):=by
 have e1:∀n o,ycy n o=HT.sIx n 0 o:=λn o=>by cases o<;>rfl
 have e2:∀n o,ydh n o=HT.sIx n n o:=λn o=>by cases o<;>rfl
 unfold IC.cut yb4;rw[l.length,e1,e2];exact(l.drop _).take _
def tO(S:Se)(X:Cx)(c:Ce):TO:=λσ H Q=>tE S X c σ H λx H1=>(x=.non/\Q AC H1) \/ ∃i,x=.int i/\Q (AA i) H1
theorem zkd:PO X AC (tO S X (.cst .non)):=λpins s σ H Q I h=>by
 refine zj8 pins s σ H Q I ?_;let⟨B,φ,st,ρ,rs,re,h⟩:=h;erw[ev]at h;rcases h.ok rs (x:=V.non) (by erw[yd])with q|⟨i,z,_⟩
 .exact q.2
 .cases z
theorem zlf(ha:PE X a (tE S X ca)):PO X (AA a) (tO S X ca):=by
 intro pins s σ H Q I hw;rw[evalPart_some];refine thn (ha pins s σ H _ I hw) λu s1 kq=>?_;let⟨x,H1,I1,r1,q1⟩:=kq;rcases q1 with⟨rfl,q⟩|⟨i,rfl,q⟩
 .cases r1
  exact⟨AC,H1,I1,.none,q⟩
 .let⟨t,rfl⟩:=r1;exact⟨AA i,H1,I1,.int i t,q⟩
def rSl(S:Se)(X:Cx):V->Option Int->Option Int->Hp->VK->Prop:=λx lo hi H Q=>∃B φ st v z,yt X.K S.cl B φ H st/\yd X.K S.cl B φ H v x/\yce v lo hi=AA z /\
 ∀z' H' φ',Step φ H φ' H'->yt X.K S.cl B φ' H' st->yd X.K S.cl B φ' H' z z'->Q z' H'
theorem zbb{prog:A7}{w:Ag}{A:Am}{E:AF->AJ->Prop}{s:AJ}{t sl:AI}{items:Array AF}{vl vu:AF}{lo hi:Option Int}{Q:AF->AJ->Prop}(ht:HC s.heap t items)(hs:s.heap.IsSliceOf sl vl vu .none)(pl:EY vl lo)(pu:EY vu hi)
  (hw:HT.sIx items.size 0 lo=0/\HT.sIx items.size items.size hi=items.size)
  (h:Q (.ref t) s):A3 (model prog w) A (getItem (.ref t) (.ref sl)) Q E s:=by
 let⟨os,hos,hcs,hds⟩:=id hs;have hTs:s.TypeIs (.ref sl) "slice":=⟨os,hos,hcs⟩;unfold getItem
 try with_reducible refine DS ?_
 first|refine AH (AV ?_)|skip
 refine AH (Fb ht.typeIs (by decide) ?_);refine AH (B8 (name:=AG "__getitem__") ht.typeIs BC
  (CT BC ht.typeIs FE ?_ (FZ _ _)))
 show A3 _ _ (Dn (.ref t) >>= _) _ _ s;refine AH (FA ht ?_);refine AH (Fc hTs ?_);rw[if_pos (by decide)];refine AH (HT.sliceApplied_gen hs pl pu ?_);have hyes:(((HT.sIx items.size 0 lo:Nat):Int)==0&&(1:Int)==1&&(HT.sIx items.size items.size hi-HT.sIx items.size 0 lo)==items.size)=true:=by
  rw[hw.1,hw.2];simp
 show A3 _ _ (if (((HT.sIx items.size 0 lo:Nat):Int)==0&&(1:Int)==1&&(HT.sIx items.size items.size hi-HT.sIx items.size 0 lo)==items.size)=AB then _ else _) _ _ s;rw[if_pos hyes];refine AH (AH (Fc ht.typeIs (AV ?_)));rw[if_pos (by decide)]
 first
  |exact AH (AV (AV ⟨_,rfl,AV h⟩))
  |exact AH (EV (AV ⟨_,rfl,AV h⟩))
  |(wp_step;wp_step;exact⟨_,rfl,AV h⟩)
noncomputable def yfu(K:AE):V->Option Int->Option Int->Hp->VK->Prop:=λx lo hi H Q=>∃a xs,x=.ref a/\SqT K H a xs /\
 (HT.sIx xs.length 0 lo=0/\HT.sIx xs.length xs.length hi=xs.length)/\Q (.ref a) H
theorem ziH:SlR X (yfu X.K):=by
 intro pins s σ H x v vl vu lo hi sl Q I rx hs pl pu h;let⟨a,xs,rfl,hx,hw,q⟩:=h
 cases rx
 let⟨its,r,ht,hz⟩:=I.tuple hx;have hlen:its.toArray.size=xs.length:=by rw[AZ];exact r.length.symm
 refine⟨"tuple",_,BC.lookup,ht.typeIs,?_⟩;exact zbb ht hs pl pu (by rw[hlen];exact hw) ⟨.ref a,H,I,rfl,q⟩
noncomputable def yfq:V->Option Int->Option Int->Hp->VK->Prop:=λx lo hi H Q=>∃y:AQ,x=.str y/\y.length<=sizeLine/\Q (.str ⟨((y.cps.toList.drop (HT.sIx y.cps.toList.length 0 lo)).take (HT.sIx y.cps.toList.length y.cps.toList.length hi-HT.sIx y.cps.toList.length 0 lo)).toArray⟩) H
theorem yfy(lo hi:Option Int)(n:Nat):D9 lo hi 1 n=sliceRange ((HT.sIx n 0 lo:Nat):Int) ((HT.sIx n n hi:Nat):Int) 1:=by
 unfold D9;erw[show (1:Int) > 0 by decide,if_true]
 congr 1
 .cases lo with
  |none=>simp[HT.sIx]
  |some i=>
   erw[HT.sIx]
   by_cases h:i<0
   .simp only[h,if_true]<;>lia
   .simp only[h,if_false]<;>lia
 .cases hi with
  |none=>simp[HT.sIx]
  |some i=>
   erw[HT.sIx]
   by_cases h:i<0
   .simp only[h,if_true]<;>lia
   .simp only[h,if_false]<;>lia
theorem zhm(y:AQ)(lo hi:Option Int):Txt.slice y lo hi=⟨((y.cps.toList.drop (HT.sIx y.cps.toList.length 0 lo)).take (HT.sIx y.cps.toList.length y.cps.toList.length hi-HT.sIx y.cps.toList.length 0 lo)).toArray⟩:=by
 have hn:y.length=y.cps.toList.length:=by simp[Str.length]
 unfold Txt.slice;rw[yfy,hn,sliceRange_one];have ha:=HT.sIx_le y.cps.toList.length 0 (Cy _) lo;have hb:=HT.sIx_le y.cps.toList.length y.cps.toList.length (AU _) hi;generalize HT.sIx y.cps.toList.length 0 lo=a at *;generalize HT.sIx y.cps.toList.length y.cps.toList.length hi=b at *;split
 .rename_i c;erw[BK,List.length_range,AK,beq_iff_eq]at c;obtain⟨rfl,rfl⟩:a=0/\b=y.cps.toList.length:=by lia
  rw[List.drop_zero,Nat.sub_zero,GF]
 .rw[pick_run]
theorem zjY:SlR X yfq:=by
 intro pins s σ H x v vl vu lo hi sl Q I rx hs pl pu h;let⟨y,rfl,hz,q⟩:=h;let⟨t,rfl⟩:=rx;rw[<-zhm]at q;refine⟨"str",_,PySem.F.slot_str_getitem.lookup,G5 _ _ _,?_⟩;have go:∀l u:Option (Int×HQ),vl=partValue l->vu=partValue u->lo=l.map (·.1)->hi=u.map (·.1)->A3 (model X.prog X.w) X.A (getItem (.str y t) (.ref sl)) (EP X pins σ Q) X.xe s:=by
  rintro l u rfl rfl rfl rfl
  refine wpAny_getItem_str_slice (l:=l) (u:=u) (st:=AC) hs rfl ?_;exact post_val_or_str ⟨BQ (Txt.slice_le y _ _) hz,λt' k=>⟨.str _,H,I.tok k,⟨_,rfl⟩,q⟩⟩
 cases pl with
 |none=>
  cases pu with
  |none=>exact go AC AC rfl rfl rfl rfl
  |int j u=>exact go AC (AA (j,u)) rfl rfl rfl rfl
 |int i t1=>
  cases pu with
  |none=>exact go (AA (i,t1)) AC rfl rfl rfl rfl
  |int j u=>exact go (AA (i,t1)) (AA (j,u)) rfl rfl rfl rfl
theorem zk1:SlR X (rSl S X):=by
 rintro pins s σ H x v vl vu lo hi sl Q I rx hs pl pu ⟨B,φ,st,w,z,rs,rw,e,q⟩
 have e1:∀n o,ycy n o=HT.sIx n 0 o:=λn o=>by cases o<;>rfl
 have e2:∀n o,ydh n o=HT.sIx n n o:=λn o=>by cases o<;>rfl
 cases w with
 |tp k vs=>
  erw[yce]at e;split at e
  .rename_i c
   cases e
   have rw':=rw;erw[yd]at rw;let⟨p,xs,rfl,rt,l⟩:=rw;refine ziH pins s σ H _ v vl vu lo hi sl Q I rx hs pl pu ⟨p,xs,rfl,rt.sq,?_,q _ H φ .rfl rs rw'⟩;rw[l.length,e1,e2]at c;exact c
  .rename_i c
   cases e
   erw[yd]at rw;let⟨p,xs,rfl,rt,l⟩:=rw;refine zmC pins s σ H _ v vl vu lo hi sl Q I rx hs pl pu ⟨p,xs,rfl,rt.sq,?_,λt ht=>q _ _ φ (.upd ht) (rs.upd ht) (.tup_new ht rs (l.cut lo hi))⟩;rw[l.length,e1,e2]at c;exact c
 |str y=>
  erw[yce]at e;split at e
  .rename_i c
   cases e
   erw[yd]at rw;subst rw;refine zjY pins s σ H _ v vl vu lo hi sl Q I rx hs pl pu ⟨y,rfl,by rw[<-zu];exact c,?_⟩;have:=q (.str ⟨(cut y.cps.toList lo hi).toArray⟩) H φ .rfl rs (by erw[yd]);rw[cut,e1,e2]at this;exact this
  .cases e
 |lst vs=>
  erw[yce]at e
  cases e
  erw[yd]at rw;let⟨p,xs,rfl,rt,l⟩:=rw;exact zhW pins s σ H _ v vl vu lo hi sl Q I rx hs pl pu ⟨p,xs,rfl,rt.sq,λt ht=>q _ _ φ (.upd ht) (rs.upd ht) (.lst_new ht rs (l.cut lo hi))⟩
 |scr vs=>
  erw[yce]at e
  cases e
  erw[yd]at rw;let⟨p,xs,rfl,rt,l⟩:=rw;exact zhW pins s σ H _ v vl vu lo hi sl Q I rx hs pl pu ⟨p,xs,rfl,(by rcases rt with rt|rt;exact .inl rt.1;exact .inr rt),λt ht=>q _ _ φ (.upd ht) (rs.upd ht) (.lst_new ht rs (l.cut lo hi))⟩
 |_=>cases e
theorem znu{lo hi:Option AS}(ha:PE X a (tE S X ca))(hl:PO X lo (tO S X cb))(hh:PO X hi (tO S X cc)):PE X (.Subscript a (.Slice lo hi AC p2) pos) (tE S X (.slc ca cb cc)):=
 (zig zk1 ha hl hh).imp λσ H Q ⟨B,φ,st,ρ,rs,re,h⟩=>by
  erw[ev]at h;have oi:∀{v:PV} {x:V} {o:Option Int} {B φ H},yd X.K S.cl B φ H v x->ybW v=AA o->(x=.non/\o=AC) \/ ∃i,x=.int i/\o=AA i:=λ{v x o B φ H} r e=>by
   cases v with
   |non=>erw[yd]at r;cases e;exact .inl ⟨r,rfl⟩
   |int i=>erw[yd]at r;cases e;exact .inr ⟨i,r,rfl⟩
   |_=>cases e
  refine tE.bind rs re h λx H1 v st1 φ1 s1 rs1 re1 rv h1=>tE.bind rs1 re1 h1 λy H2 w st2 φ2 s2 rs2 re2 rw h2=>?_
  cases eo:ybW w with
  |none=>rw[eo]at h2;exact h2.elim
  |some o1=>
   rw[eo]at h2;have key:tO S X cc σ H2 λu H3=>rSl S X x o1 u H3 Q:=by
    refine tE.bind rs2 re2 h2 λy' H3 w' st3 φ3 s3 rs3 re3 rw' h3=>?_;let⟨z,e,q⟩:=z5 h3 rs3;unfold ycx at e
    cases eo':ybW w' with
    |none=>rw[eo']at e;cases e
    |some o2=>
     rw[eo']at e;have fin:rSl S X x o1 o2 H3 Q:=⟨B,φ3,st3,v,z,rs3,(rv.step s2).step s3,e,q⟩;rcases oi rw' eo' with⟨rfl,rfl⟩|⟨i,rfl,rfl⟩
     .exact .inl ⟨rfl,fin⟩
     .exact .inr ⟨i,rfl,fin⟩
   rcases oi rw eo with⟨rfl,rfl⟩|⟨i,rfl,rfl⟩
   .exact .inl ⟨rfl,key⟩
   .exact .inr ⟨i,rfl,key⟩
end
section
variable {S:Se}{X:Cx}{σ:St}{B:AI->Prop}{φ φ1:Ph}{H H1:Hp}{st:SO}{ρ:IC.Env}{p pos p2:CH}{a b c d:AS}{ca cb cc:Ce}{es:List AS}{ces:Ces}{K:AE}{cl:Nat->AI}
def rB(S:Se)(X:Cx)(k:Blt):List V->Hp->VK->Prop:=λxs H Q=>∃B φ st vs z,yt X.K S.cl B φ H st/\ye X.K S.cl B φ H vs xs/\yay k st vs=AA z /\
 ∀z' H' φ',Step φ H φ' H'->yt X.K S.cl B φ' H' st->yd X.K S.cl B φ' H' z z'->Q z' H'
theorem ye.one{v:PV}{xs:List V}(l:ye K cl B φ H [v] xs):∃x,xs=[x]/\yd K cl B φ H v x:=by
 erw[ye]at l;let⟨y,ys,rfl,r,rfl⟩:=l;exact⟨y,rfl,r⟩
theorem ye.two{v w:PV}{xs:List V}(l:ye K cl B φ H [v,w] xs):∃x y,xs=[x,y]/\yd K cl B φ H v x/\yd K cl B φ H w y:=by
 erw[ye]at l;let⟨y,ys,rfl,r,z,zs,rfl,r2,rfl⟩:=l;exact⟨y,z,rfl,r,r2⟩
theorem zbL{k:Blt}{st:SO}{vs:List PV}{z:PV}(h:yay k st vs=AA z)(h2:∀x y,yay k st [x,y]=AC):∃x,vs=[x]:=by
 match vs,h with
 |[x],_=>exact⟨x,rfl⟩
 |[x,y],h=>rw[h2]at h;cases h
theorem zcw{v:PV}{x:V}{vs:List PV}(rs:yt K cl B φ H st)(r:yd K cl B φ H v x)(h:yX st v=AA vs):∃a xs,x=.ref a/\SqL K H a xs/\ye K cl B φ H vs xs:=by
 cases v with
 |lst ws=>
  cases h
  erw[yd]at r;let⟨a,xs,rfl,rt,l⟩:=r;exact⟨a,xs,rfl,rt.sq,l⟩
 |loc n=>
  erw[yX]at h;split at h
  .rename_i ws hw
   cases h
   let⟨a,xs,rfl,_,hx,l⟩:=rs.list r hw;exact⟨a,xs,rfl,.of hx,l⟩
  .cases h
 |_=>cases h
theorem zmA{v:PV}{x:V}{vs:List PV}(rs:yt K cl B φ H st)(r:yd K cl B φ H v x)(h:ybL st v=AA vs):∃a xs,x=.ref a/\(SqL K H a xs \/ SqT K H a xs)/\ye K cl B φ H vs xs:=by
 cases v with
 |tp k ws=>
  cases h
  erw[yd]at r;let⟨a,xs,rfl,rt,l⟩:=r;exact⟨a,xs,rfl,.inr rt.sq,l⟩
 |lst ws=>
  let⟨a,xs,e,q,l⟩:=zcw rs r (vs:=vs) h;exact⟨a,xs,e,.inl q,l⟩
 |loc n=>
  let⟨a,xs,e,q,l⟩:=zcw rs r (vs:=vs) h;exact⟨a,xs,e,.inl q,l⟩
 |_=>cases h
theorem zni:yab X (.builtin "len") (rB S X .len):=by
 rintro pins s σ H xs us Q I r ⟨B,φ,st,vs,z,rs,l,e,q⟩
 let⟨v,rfl⟩:=zbL e λ_ _=>rfl;let⟨x,rfl,rv⟩:=l.one;erw[yay,lenV]at e;split at e
 .rename_i t;split at e
  .rename_i c
   cases e
   erw[yd]at rv;subst rv;exact zeA pins s σ H _ us Q I r ⟨t,rfl,by rw[<-zu];exact c,q _ H φ .rfl rs (by erw[yd])⟩
  .cases e
 .cases e1:ybL st v with
  |none=>rw[e1]at e;cases e
  |some ws=>
   rw[e1]at e
   cases e
   let⟨a,ys,rfl,h,l⟩:=zmA rs rv e1;refine zeq pins s σ H _ us Q I r ⟨a,ys,rfl,?_,q _ H φ .rfl rs (by erw[yd];rw[l.length])⟩;exact h
theorem zmR:yab X (.type "int") (rB S X .int):=by
 rintro pins s σ H xs us Q I r ⟨B,φ,st,vs,z,rs,l,e,q⟩
 let⟨v,rfl⟩:=zbL e λ_ _=>rfl;let⟨x,rfl,rv⟩:=l.one;erw[yay]at e
 cases v with
 |int i=>
  cases e
  erw[yd]at rv;subst rv;exact zeL pins s σ H _ us Q I r (.inl ⟨i,rfl,q _ H φ .rfl rs (by erw[yd])⟩)
 |bl k=>
  cases e
  erw[yd]at rv;subst rv;exact zeL pins s σ H _ us Q I r (.inr ⟨k,rfl,q _ H φ .rfl rs (by erw[yd,bi])⟩)
 |_=>cases e
theorem zmg:yab X (.builtin "abs") (rB S X .abs):=by
 rintro pins s σ H xs us Q I r ⟨B,φ,st,vs,z,rs,l,e,q⟩
 let⟨v,rfl⟩:=zbL e λ_ _=>rfl;let⟨x,rfl,rv⟩:=l.one;erw[yay]at e
 cases v with
 |int i=>
  cases e
  erw[yd]at rv;subst rv;exact zi2 pins s σ H _ us Q I r ⟨i,rfl,q _ H φ .rfl rs (by erw[yd])⟩
 |_=>cases e
theorem zjB:∀{vs:List PV} {m:Int},ycR vs=AA m->∃ns:List Int,vs=ns.map .int/\m∈ns/\∀a∈ns,a<=m
 |[],m,h=>by cases h
 |[.int i],m,h=>by cases h;exact⟨[i],rfl,by simp,by simp⟩
 |.int i::w::r,m,h=>by
  erw[ycR]at h;split at h
  .rename_i c e
   cases h
   let⟨ns,e1,e2,e3⟩:=zjB e;refine⟨i::ns,by rw[e1];rfl,?_,λa ha=>?_⟩
   .split
    .exact AX _ e2
    .exact BA
   .rcases Ad.mp ha with rfl|ha
    .split<;>lia
    .have:=e3 a ha;split<;>lia
  .cases h
 |.non::r,m,h=>by cases r<;>cases h
 |.bl _::r,m,h=>by cases r<;>cases h
 |.str _::r,m,h=>by cases r<;>cases h
 |.tp _ _::r,m,h=>by cases r<;>cases h
 |.lst _::r,m,h=>by cases r<;>cases h
 |.loc _::r,m,h=>by cases r<;>cases h
 |.exn _::r,m,h=>by cases r<;>cases h
 |.scr _::r,m,h=>by cases r<;>cases h
theorem ye.ints:∀{ns:List Int} {xs:List V},ye K cl B φ H (ns.map .int) xs->xs=ns.map V.int
 |[],xs,h=>by simpa only[Ar,ye] using h
 |n::ns,xs,h=>by
  erw[AO,ye]at h;let⟨y,ys,rfl,r,l⟩:=h;erw[yd]at r;rw[r,ye.ints l];rfl
theorem ye.bls:∀{ns:List Bool} {xs:List V},ye K cl B φ H (ns.map .bl) xs->xs=ns.map V.bl
 |[],xs,h=>by simpa only[Ar,ye] using h
 |n::ns,xs,h=>by
  erw[AO,ye]at h;let⟨y,ys,rfl,r,l⟩:=h;erw[yd]at r;rw[r,ye.bls l];rfl
theorem zjP{v w z:PV}(e:maxV v w=AA z):∃i j,v=.int i/\w=.int j/\z=.int (if i<j then j else i):=by
 unfold maxV at e;split at e
 .exact⟨_,_,rfl,rfl,(AY e).symm⟩
 .cases e
theorem zm2(hc:X.calm=AB):yab X (.builtin "max") (rB S X .max):=by
 rintro pins s σ H xs us Q I r ⟨B,φ,st,vs,z,rs,l,e,q⟩
 rcases vs with _|⟨v,_|⟨w,_|⟨u',t⟩⟩⟩
 .simp[yay]at e
 .let⟨x,rfl,rv⟩:=l.one;erw[yay]at e
  cases e1:yX st v with
  |none=>rw[e1]at e;cases e
  |some ws=>
   rw[e1]at e;erw[Bk]at e
   cases e2:ycR ws with
   |none=>rw[e2]at e;cases e
   |some m=>
    rw[e2]at e;obtain rfl:=AY e;let⟨ns,rfl,hm,hb⟩:=zjB e2;let⟨a,ys,rfl,h,l⟩:=zcw rs rv e1;rw[l.ints]at h;refine zhE hc pins s σ H _ us Q I r ⟨a,ns,rfl,h,List.length_pos_of_mem hm,λM h1 h2=>?_⟩;have:M=m:=by
     have:=hb M h1;have:=h2 m hm;lia
    subst this;exact q _ H φ .rfl rs (by erw[yd])
 .let⟨x,y,rfl,rv,rw⟩:=l.two;have e:maxV v w=AA z:=e;let⟨i,j,rfl,rfl,rfl⟩:=zjP e;erw[yd]at rv rw;subst rv rw;exact zhr hc pins s σ H _ us Q I r ⟨i,j,rfl,q (.int (if i<j then j else i)) H φ .rfl rs (by erw[yd])⟩
 .simp[yay]at e
theorem ziM:yab X (.type "tuple") (rB S X .tuple):=by
 rintro pins s σ H xs us Q I r ⟨B,φ,st,vs,z,rs,l,e,q⟩
 let⟨v,rfl⟩:=zbL e λ_ _=>rfl;let⟨x,rfl,rv⟩:=l.one;erw[yay,ydO]at e;split at e
 .cases e
  erw[yd]at rv;let⟨a,ys,rfl,rt,l⟩:=rv;exact zby pins s σ H _ us Q I r ⟨a,ys,rfl,.inr ⟨rt.sq,q _ H φ .rfl rs (by erw[yd];exact⟨a,ys,rfl,rt,l⟩)⟩⟩
 .cases e1:yX st v with
  |none=>rw[e1]at e;cases e
  |some ws=>
   rw[e1]at e
   cases e
   let⟨a,ys,rfl,h,l⟩:=zcw rs rv e1;exact zby pins s σ H _ us Q I r ⟨a,ys,rfl,.inl ⟨h,λt ht=>q _ _ φ (.upd ht) (rs.upd ht) (.tup_new ht rs l)⟩⟩
theorem zjz:∀{vs:List PV} {m:Bool},IC.allB vs=AA m->∃ns:List Bool,vs=ns.map .bl/\m=ns.all id
 |[],m,h=>by cases h;exact⟨[],rfl,rfl⟩
 |.bl i::r,m,h=>by
  erw[IC.allB]at h;split at h
  .rename_i c e
   cases h
   let⟨ns,e1,e2⟩:=zjz e;exact⟨i::ns,by rw[e1];rfl,by rw[e2];rfl⟩
  .cases h
 |.non::r,m,h=>by cases h
 |.int _::r,m,h=>by cases h
 |.str _::r,m,h=>by cases h
 |.tp _ _::r,m,h=>by cases h
 |.lst _::r,m,h=>by cases h
 |.loc _::r,m,h=>by cases h
 |.exn _::r,m,h=>by cases h
 |.scr _::r,m,h=>by cases h
theorem zmz(hc:X.calm=AB):yab X (.builtin "all") (rB S X .all):=by
 rintro pins s σ H xs us Q I r ⟨B,φ,st,vs,z,rs,l,e,q⟩
 let⟨v,rfl⟩:=zbL e λ_ _=>rfl;let⟨x,rfl,rv⟩:=l.one;erw[yay]at e
 cases e1:yX st v with
 |none=>rw[e1]at e;cases e
 |some ws=>
  rw[e1]at e;erw[Bk]at e
  cases e2:IC.allB ws with
  |none=>rw[e2]at e;cases e
  |some m=>
   rw[e2]at e
   cases e
   let⟨ns,rfl,rfl⟩:=zjz e2;let⟨a,ys,rfl,h,l⟩:=zcw rs rv e1;rw[l.bls]at h;exact ziZ hc pins s σ H _ us Q I r ⟨a,ns,rfl,h,q _ H φ .rfl rs (by erw[yd])⟩
variable {x:AQ}{id T:String}{k:Blt}
theorem zlH(hc:yab X (.builtin id) (rB S X k))(hg:Gl X x)(hm:X.mg x=AC)(hv:bootBuiltins x=AA (.builtin id))(ha:PA X (a::es) (tAs S X ces))(hn:x ≠ "__name__":=by decide)(hdb:(x==("__debug__":AQ))=false:=by decide)
  (he:starEach (a::es) X.env=(AD,eval a X.env)::starEach es X.env:=by rfl) (hpl:(backTo pos (starEach es X.env)).any (·.1)=false:=by rfl):PE X (.Call (.Name x p) (a::es) [] pos) (tE S X (.blt k ces)):=
 (zfJ hc hg hm hv ha hn hdb he hpl).imp λσ H Q ⟨B,φ,st,ρ,rs,re,h⟩=>by
  erw[ev]at h;refine tAs.bind rs re h λxs H1 vs st1 φ1 s1 rs1 re1 rv h1=>?_;let⟨z,e,q⟩:=z5 h1 rs1;exact⟨B,φ1,st1,vs,z,rs1,rv,e,q⟩
theorem zjL(hc:yab X (.type T) (rB S X k))(hg:Gl X x)(hm:X.mg x=AC)(hv:bootBuiltins x=AA (.type T))(ha:PA X (a::es) (tAs S X ces))(hn:x ≠ "__name__":=by decide)(hdb:(x==("__debug__":AQ))=false:=by decide)
  (he:starEach (a::es) X.env=(AD,eval a X.env)::starEach es X.env:=by rfl) (hpl:(backTo pos (starEach es X.env)).any (·.1)=false:=by rfl):PE X (.Call (.Name x p) (a::es) [] pos) (tE S X (.blt k ces)):=
 (zgH hc hg hm hv ha hn hdb he hpl).imp λσ H Q ⟨B,φ,st,ρ,rs,re,h⟩=>by
  erw[ev]at h;refine tAs.bind rs re h λxs H1 vs st1 φ1 s1 rs1 re1 rv h1=>?_;let⟨z,e,q⟩:=z5 h1 rs1;exact⟨B,φ1,st1,vs,z,rs1,rv,e,q⟩
end
section
variable {S:Se}{X:Cx}{σ:St}{B:AI->Prop}{φ φ1:Ph}{H H1:Hp}{st:SO}{ρ:IC.Env}{p pos p2 apos:CH}{a b c d:AS}{ca cb cc:Ce}{es:List AS}{ces:Ces}{K:AE}{cl:Nat->AI}
theorem Step.put{l:AI}{u:HO}(hl:AA l∈φ):Step φ H φ (L2.upd H l u):=
 ⟨λb o n e=>by rw[zh (show b≠l from λz=>n (by rw[z];exact hl))];exact e,AU _,λ_ _ _ e=>e,λ_ h=>.inl h⟩
theorem yt.put{n:Nat}{l:AI}{u:HO}{o:Ob}(rs:yt K cl B φ H st)(hn:φ[n]?=AA (AA l))(ho:ybU K cl B φ (L2.upd H l u) o l):yt K cl B φ (L2.upd H l u) (st.set n o):=by
 have hm:AA l∈φ:=A4 hn;have s:Step φ H φ (L2.upd H l u):=.put hm;have hlt:n<st.length:=by rw[<-rs.len];exact(BE.mp hn).1
 refine⟨by rw[BW];exact rs.len,rs.inj,λm a e=>?_,λm o' e ho'=>?_,rs.nb,λa h=>?_⟩
 .by_cases hmn:m=n
  .subst hmn;rw[hn]at e;cases e;exact⟨o,by rw[A8 hlt],ho⟩
  .let⟨o',q,r⟩:=rs.obj m a e;refine⟨o',by rw[AR (BI hmn)];exact q,r.step s ?_⟩;rw[zh]
   rintro rfl
   exact hmn (rs.inj m n a e hn)
 .by_cases hmn:m=n
  .subst hmn;exact⟨l,hn⟩
  .rw[AR (BI hmn)]at e;exact rs.liv m o' e ho'
 .let⟨w,e⟩:=rs.dom a h
  by_cases z:a=l
  .subst z;exact⟨u,zp⟩
  .exact⟨w,by rw[zh z];exact e⟩
theorem ybC:1000000<=sizeLine:=by rw[DX];decide
theorem zhS{m:Mth}{v:PV}{st:SO}{α β:Type}{Rel:Ph->Hp->α->β->Prop}{k:Bool->R α}{Q:β->Hp->Prop}(h:Run S X σ B φ H Rel (onO (yaO m st v) k) Q):∃b,yaO m st v=AA b/\Run S X σ B φ H Rel (k b) Q:=by
 cases e:yaO m st v with
 |none=>rw[e]at h;exact h.elim
 |some z=>rw[e]at h;exact⟨z,rfl,h⟩
theorem zhj(ha:PE X a (tE S X ca))(hb:PE X b (tE S X cb))(hs:starEach [b] X.env=[(AD,eval b X.env)]:=by rfl)(hbase:attributeBase a "append" X.env (eval a X.env)=eval a X.env:=by rfl)(hline:(apos.endLine==pos.line)=true:=by rfl)
  (hfew:((backTo pos (starEach [b] X.env)).all (λx=>!x.1)&&(backToKw pos (keywordEach [] X.env)).all (λx=>x.1.isSome)&&decide (([b]:List AS).length+([]:List CQ).length+(if ([]:List CQ).isEmpty then 0 else 1)<30))=true:=by rfl):
  PE X (.Call (.Attribute a "append" apos) [b] [] pos) (tE S X (.mth .append ca (.cons cb .nil))):=
 (zn8 PySem.F.plainAttrs_list El PySem.F.type_list_append zes ha (zdF (S:=S) hb zgr hs) hbase hfew hline hs rfl).imp λσ H Q ⟨B,φ,st,ρ,rs,re,h⟩=>by
  erw[ev]at h;refine tE.bind rs re h λx H1 v st1 φ1 s1 rs1 re1 rv h1=>?_;let⟨_,e1,h1⟩:=zhS h1;have t1:∃ws,yX st1 v=AA ws:=by
   erw[yaO]at e1
   cases q:yX st1 v with
   |none=>rw[q]at e1;cases e1
   |some ws=>exact⟨ws,rfl⟩
  let⟨ws,t1⟩:=t1;let⟨l,xs,rfl,hl,_⟩:=zcw rs1 rv t1;refine⟨.inl ⟨rfl,xs,hl⟩,tAs.bind rs1 re1 h1 λys H2 vs st2 φ2 s2 rs2 re2 rvs h2=>?_⟩;have rv2:=rv.step s2;rcases vs with _|⟨w,_|⟨w',t⟩⟩
  .exact h2.elim
  .let⟨y,rfl,rw⟩:=rvs.one;unfold ycl at h2;erw[ydZ]at h2;split at h2
   .rename_i n;split at h2
    .rename_i zs hz;split at h2
     .rename_i c;let⟨l',xs',e,hn,hx,lr⟩:=rs2.list rv2 hz
      cases e
      refine⟨l,xs',y,rfl,rfl,hx,by have:=ybC;have:=lr.length;lia,?_⟩;exact h2 _ _ φ2 (.put (A4 hn)) (rs2.put hn ⟨_,zp,(lr.append (by erw[ye];exact⟨y,[],rfl,rw,rfl⟩)).step (.put (A4 hn))⟩) (by erw[yd])
     .exact h2.elim
    .exact h2.elim
   .exact h2.elim
  .exact h2.elim
theorem zmr(ha:PE X a (tE S X ca)):PE X a (tE S X (.frz ca)):=
 ha.imp λσ H Q ⟨B,φ,st,ρ,rs,re,h⟩=>by
  erw[ev]at h;refine tE.bind rs re h λx H1 v st1 φ1 s1 rs1 re1 rv h1=>?_;unfold yel at h1;split at h1
  .rename_i n;split at h1
   .rename_i vs hv;let⟨l,xs,rfl,hn,hx,lr⟩:=rs1.list rv hv;have hm:AA l∈φ1:=A4 hn;have hlt:n<φ1.length:=(BE.mp hn).1;have nl:AA l∉φ1.set n none:=λz=>by
     let⟨m,e⟩:=DN.mp z
     by_cases hmn:m=n
     .subst hmn;rw[A8 hlt]at e;cases e
     .rw[AR (BI hmn)]at e;exact hmn (rs1.inj m n l e hn)
    have sb:∀b,AA b∈φ1.set n AC->AA b∈φ1:=λb z=>by
     let⟨m,e⟩:=DN.mp z
     by_cases hmn:m=n
     .subst hmn;rw[A8 hlt]at e;cases e
     .rw[AR (BI hmn)]at e;exact A4 e
    have s:Step φ1 H1 (φ1.set n AC) H1:=⟨λ_ _ _ e=>e,by simp,λm a hm' e=>by
     by_cases hmn:m=n
     .subst hmn;rw[A8 hlt]at e;cases e
     .rw[AR (BI hmn)]at e;exact e,λb z=>.inl (sb b z)⟩
    refine h1 _ H1 (φ1.set n AC) s ⟨by simp[rs1.len],λm k a e1 e2=>?_,λm a e=>?_,λm o e ho=>?_,λa z=>rs1.nb a (sb a z),rs1.dom⟩ ?_
    .by_cases h1':m=n
     .subst h1';rw[A8 hlt]at e1;cases e1
     .by_cases h2':k=n
      .subst h2';rw[A8 hlt]at e2;cases e2
      .rw[AR (BI h1')]at e1;rw[AR (BI h2')]at e2;exact rs1.inj m k a e1 e2
    .by_cases hmn:m=n
     .subst hmn;rw[A8 hlt]at e;cases e
     .rw[AR (BI hmn)]at e;let⟨o,q,r⟩:=rs1.obj m a e;exact⟨o,by rw[AR (BI hmn)];exact q,r.step s rfl⟩
    .by_cases hmn:m=n
     .subst hmn;rw[A8 (by rw[<-rs1.len];exact hlt)]at e;cases e;exact absurd rfl ho
     .rw[AR (BI hmn)]at e ⊢;exact rs1.liv m o e ho
    .simp only[yd];exact⟨l,xs,rfl,⟨hx,rs1.nb l hm,nl⟩,lr.step s⟩
   .exact h1.elim
  .exact h1.ok rs1 rv
end
section
variable (S:Se)(X:Cx)
def yaB(B:AI->Prop)(φ:Ph)(H:Hp)(f:Fl)(D:Ends):Prop:=
 match f with
 |.nx ρ' st'=>∀σ' H' φ',Step φ H φ' H'->yt X.K S.cl B φ' H' st'->yI X.K S.cl B φ' H' ρ' σ'->D.nx σ' H'
 |.rt v st'=>∀x H' φ',Step φ H φ' H'->yt X.K S.cl B φ' H' st'->yd X.K S.cl B φ' H' v x->D.rt x H'
 |.bk ρ' st'=>∀σ' H' φ',Step φ H φ' H'->yt X.K S.cl B φ' H' st'->yI X.K S.cl B φ' H' ρ' σ'->D.bk σ' H'
 |.ct ρ' st'=>∀σ' H' φ',Step φ H φ' H'->yt X.K S.cl B φ' H' st'->yI X.K S.cl B φ' H' ρ' σ'->D.ct σ' H'
 |.exc k ρ' st'=>∀σ' φ1 H1 e s',Step φ H φ1 H1->yI X.K S.cl B φ1 H1 ρ' σ'->ExcAt S X σ' B φ1 H1 k st' e s'->X.xe e s'
 |.bad=>False
def tS(c:Cs):TS:=λD σ H=>∃B φ st ρ,yt X.K S.cl B φ H st/\yI X.K S.cl B φ H ρ σ/\yaB S X B φ H (ex S.call ρ st c) D
def tSs(c:Css):TS:=λD σ H=>∃B φ st ρ,yt X.K S.cl B φ H st/\yI X.K S.cl B φ H ρ σ/\yaB S X B φ H (exs S.call ρ st c) D
end
section
variable {S:Se}{X:Cx}{σ:St}{B:AI->Prop}{φ φ1:Ph}{H H1:Hp}{st:SO}{ρ:IC.Env}{D:Ends}{pos p2 px:CH}{a b c o:AS}{ca cb cc:Ce}{s1:Bn}{ss ss':List Bn}{c1:Cs}{cs cs':Css}
theorem yaB.on{f:Fl}(s:Step φ H φ1 H1)(h:yaB S X B φ H f D):yaB S X B φ1 H1 f D:=by
 cases f with
 |nx ρ st=>exact λσ' H' φ' t=>h σ' H' φ' (s.trans t)
 |rt ρ st=>exact λσ' H' φ' t=>h σ' H' φ' (s.trans t)
 |bk ρ st=>exact λσ' H' φ' t=>h σ' H' φ' (s.trans t)
 |ct ρ st=>exact λσ' H' φ' t=>h σ' H' φ' (s.trans t)
 |exc k ρ st=>exact λσ' φ2 H2 e s' t=>h σ' φ2 H2 e s' (s.trans t)
 |bad=>exact h
theorem tE.fl{k:PV->SO->Fl}{P:V->Hp->Prop}(rs:yt X.K S.cl B φ H st)(re:yI X.K S.cl B φ H ρ σ)(h:yaB S X B φ H ((ev S.call ρ st ca).fl ρ k) D)
  (n:∀x H1 v st1 φ1,Step φ H φ1 H1->yt X.K S.cl B φ1 H1 st1->yI X.K S.cl B φ1 H1 ρ σ->yd X.K S.cl B φ1 H1 v x->yaB S X B φ1 H1 (k v st1) D->P x H1):tE S X ca σ H P:=by
 refine⟨B,φ,st,ρ,rs,re,?_⟩
 cases e:ev S.call ρ st ca with
 |ok v st'=>
  rw[e]at h;exact λx H' φ' s rs' rv=>n x H' v st' φ' s rs' (re.step s) rv (h.on s)
 |exc k st'=>
  rw[e]at h;exact λe s' x=>h σ φ H e s' .rfl re x
 |bad=>rw[e]at h;exact h
theorem PS.imp{t t':TS}(h:PS X s1 t')(k:∀D σ H,t D σ H->t' D σ H):PS X s1 t:=λpins s σ H D I q=>h pins s σ H D I (k D σ H q)
theorem PSs.imp{t t':TS}(h:PSs X ss t')(k:∀D σ H,t D σ H->t' D σ H):PSs X ss t:=λpins s σ H D I q=>h pins s σ H D I (k D σ H q)
theorem yI.set{K:AE}{cl:Nat->AI}(r:yI K cl B φ H ρ σ)(i:Nat){v:PV}{x:V}(rv:yd K cl B φ H v x):yI K cl B φ H (ρ.set i (AA v)) (σ.set i (AA x)):=by
 refine⟨by rw[BW,BW];exact r.len,λj w e=>?_⟩
 by_cases h:j=i
 .subst h
  by_cases hl:j<ρ.length
  .rw[A8 hl]at e
   cases e
   exact⟨x,by rw[A8 (by rw[<-r.len];exact hl)],rv⟩
  .rw[BO (by rw[BW];lia)]at e
   cases e
 .rw[AR (BI h)]at e ⊢;exact r.get j w e
theorem znp:PSs X [] (tSs S X .nil):=ycs.imp λD σ H ⟨B,φ,st,ρ,rs,re,h⟩=>by
 erw[exs]at h;exact h σ H φ .rfl rs re
theorem zj6(h1:PS X s1 (tS S X c1))(h2:PSs X ss (tSs S X cs)):PSs X (s1::ss) (tSs S X (.cons c1 cs)):=
 (zfP h1 h2).imp λD σ H ⟨B,φ,st,ρ,rs,re,h⟩=>by
  erw[exs]at h;refine⟨B,φ,st,ρ,rs,re,?_⟩
  cases e:ex S.call ρ st c1 with
  |nx ρ1 st1=>
   rw[e]at h;exact λσ' H' φ' s rs' re'=>⟨B,φ',st1,ρ1,rs',re',h.on s⟩
  |rt v st1=>rw[e]at h;exact h
  |bk ρ1 st1=>rw[e]at h;exact h
  |ct ρ1 st1=>rw[e]at h;exact h
  |exc k ρ1 st1=>rw[e]at h;exact h
  |bad=>rw[e]at h;exact h
theorem zkz(he:PE X a (tE S X ca))(hs:swapsWith a AC pos.line X.env=pure false:=by rfl):PS X (.Expr a pos) (tS S X (.expr ca)):=
 (zkG he hs).imp λD σ H ⟨B,φ,st,ρ,rs,re,h⟩=>by
  erw[ex]at h;exact tE.fl rs re h λx H1 v st1 φ1 s rs1 re1 rv h1=>h1 σ H1 φ1 .rfl rs1 re1
theorem znf(he:PE X a (tE S X ca)):PS X (.Return (AA a) pos) (tS S X (.ret ca)):=
 (zjG he).imp λD σ H ⟨B,φ,st,ρ,rs,re,h⟩=>by
  erw[ex]at h;exact tE.fl rs re h λx H1 v st1 φ1 s rs1 re1 rv h1=>h1 x H1 φ1 .rfl rs1 rv
theorem zk8:PS X (.Return AC pos) (tS S X (.ret (.cst .non))):=
 ycw.imp λD σ H ⟨B,φ,st,ρ,rs,re,h⟩=>by
  erw[ex,ev,R.fl]at h;exact h .non H φ .rfl rs (by erw[yd])
theorem zmS{i:Nat}{x:AQ}(hN:X.N.Nodup)(hi:X.N[i]?=AA x)(hx:Loc X.env.scope x)(he:PE X a (tE S X ca))(hs:swapsWith a (AA (.Name x px)) pos.line X.env=pure false:=by rfl)
  (hf:X.fn x=AB \/ X.env.scope.names.lookup x=AA .local:=by first|exact .inl rfl|exact .inr rfl|assumption):PS X (.Assign [.Name x px] a pos) (tS S X (.asg (.n i) ca)):=
 (zjD hN hi hx he hs hf).imp λD σ H ⟨B,φ,st,ρ,rs,re,h⟩=>by
  erw[ex]at h;exact tE.fl rs re h λx H1 v st1 φ1 s rs1 re1 rv h1=>h1 _ H1 φ1 .rfl rs1 (re1.set i rv)
theorem flT(r:R PV)(f:Bool->SO->Fl):(r.fl ρ λx st1=>onF (yaF st1 x) λk=>f k st1)=(yaU r).fl ρ f:=by
 cases r with
 |ok v s=>
  erw[R.fl,yaU,R.bind]
  cases yaF s v<;>rfl
 |exc c s=>rfl
 |bad=>rfl
theorem tTs.fl{k:Bool->SO->Fl}{P:Bool->Hp->Prop}(rs:yt X.K S.cl B φ H st)(re:yI X.K S.cl B φ H ρ σ)(h:yaB S X B φ H ((yaU (ev S.call ρ st ca)).fl ρ k) D)
  (n:∀b H1 st1 φ1,Step φ H φ1 H1->yt X.K S.cl B φ1 H1 st1->yI X.K S.cl B φ1 H1 ρ σ->yaB S X B φ1 H1 (k b st1) D->P b H1):tTs S X ca σ H P:=by
 refine⟨B,φ,st,ρ,rs,re,?_⟩
 cases e:yaU (ev S.call ρ st ca)with
 |ok v st'=>
  rw[e]at h;exact λx H' φ' s rs' rv=>by
   subst rv;exact n v H' st' φ' s rs' (re.step s) (h.on s)
 |exc k st'=>
  rw[e]at h;exact λe s' x=>h σ φ H e s' .rfl re x
 |bad=>rw[e]at h;exact h
theorem zn6(hc:PT X c (tTs S X cc))(ha:PSs X ss (tSs S X cs))(hb:PSs X ss' (tSs S X cs')):PS X (.If c ss ss' pos) (tS S X (.ite cc cs cs')):=
 (znY hc ha hb).imp λD σ H ⟨B,φ,st,ρ,rs,re,h⟩=>by
  erw[ex]at h;rw[flT _ λk st1=>cond k (exs S.call ρ st1 cs) (exs S.call ρ st1 cs')]at h;refine tTs.fl rs re h λk H1 st1 φ1 s rs1 re1 h1=>?_
  cases k with
  |true=>exact⟨B,φ1,st1,ρ,rs1,re1,h1⟩
  |false=>exact⟨B,φ1,st1,ρ,rs1,re1,h1⟩
theorem zmQ{i:Nat}{x:AQ}{op:DW}{bo:BOp}(hN:X.N.Nodup)(hi:X.N[i]?=AA x)(hx:Loc X.env.scope x)(he:PE X a (tE S X ca))(ho:PIp X op (rT2 S X (ybv bo)))
  (hf:X.fn x=AB \/ X.env.scope.names.lookup x=AA .local:=by first|exact .inl rfl|exact .inr rfl|assumption) (hd:(x==("__debug__":AQ))=false:=by decide) (hcd:(x==("__classdict__":AQ))=false:=by decide):PS X (.AugAssign (.Name x px) op a pos) (tS S X (.aug i bo ca)):=
 (zjC hN hi hx he ho hf).imp λD σ H ⟨B,φ,st,ρ,rs,re,h⟩=>by
  erw[ex]at h
  cases q:ρ[i]? with
  |none=>rw[q]at h;exact h.elim
  |some w=>
   cases w with
   |none=>rw[q]at h;exact h.elim
   |some w=>
    rw[q]at h;let⟨y,hy,rw⟩:=re.get i w q;refine⟨y,hy,tE.fl rs re h λz H1 v st1 φ1 s rs1 re1 rv h1=>?_⟩
    cases e:ybv bo w v with
    |none=>rw[e]at h1;exact h1.elim
    |some u=>
     rw[e]at h1;exact⟨B,φ1,st1,w,v,u,rs1,rw.step s,rv,e,λz' H' φ' s' rs' rz=>h1 _ H' φ' s' rs' ((re1.step s').set i rz)⟩
end
section
variable (S:Se)(X:Cx)
structure Drw(B:AI->Prop)(φ0:Ph)(H0:Hp)(xs:List PV)(J:It):Prop where
 stop:∀φ H,Step φ0 H0 φ H->J.stop xs.length H
 go:∀(i:Nat) φ H,Step φ0 H0 φ H->i<xs.length->J.go i H
 yld:∀(i:Nat) φ H st x H' (B':AI->Prop),(∀y,B' y->B y \/ H0 y=AC)->Step φ0 H0 φ H->yt X.K S.cl B' φ H st->i<xs.length->J.yld i H x H'->∃v,xs[i]?=AA v/\yd X.K S.cl B' φ H' v x/\∀b o,H b=AA o->H' b=AA o
noncomputable abbrev RD(B:AI->Prop):Ph->Hp->List PV->It->Prop:=λφ H=>Drw S X B φ H
def tI(c:Cit):TI:=λσ H R=>∃B φ st ρ,yt X.K S.cl B φ H st/\yI X.K S.cl B φ H ρ σ/\Run S X σ B φ H (RD S X B) (evi S.call ρ st c) R
end
section
variable {S:Se}{X:Cx}{σ:St}{B:AI->Prop}{φ φ1:Ph}{H H1:Hp}{st:SO}{ρ:IC.Env}{D:Ends}{pos p p2 px:CH}{a b c o tg l:AS}{ca cb cc:Ce}{es:List AS}{ces:Ces}{ss:List Bn}{cs:Css}{ci:Cit}{ct:Tg}
theorem zkc:PE X a (tE S X .nope):=λpins s σ H Q I ⟨B,φ,st,ρ,rs,re,h⟩=>by
 erw[ev]at h;exact h.elim
theorem zj1{s1:Bn}:PS X s1 (tS S X .nope):=λpins s σ H D I ⟨B,φ,st,ρ,rs,re,h⟩=>by
 erw[ex]at h;exact h.elim
theorem PI.imp{t t':TI}(h:PI X tg l t')(k:∀σ H R,t σ H R->t' σ H R):PI X tg l t:=λpins s σ H R I q=>h pins s σ H R I (k σ H R q)
theorem zlD{tl:TE}(hl:PE X l tl):PI X tg l (λσ H R=>tl σ H λx H1=>∃a,x=.ref a/\(((∃xs,SqL X.K H1 a xs)/\R (Itl X.K a) H1) \/ ((∃xs,SqT X.K H1 a xs)/\R (Itt X.K a) H1))):=by
 intro pins s σ H R I h;refine thn (hl pins s σ H _ I h) λv s1 kq=>?_;let⟨x,H1,I1,r1,q1⟩:=kq;let⟨a,e,q1⟩:=q1;subst e
 cases r1
 rcases q1 with⟨⟨xs,hq⟩,q⟩|⟨⟨xs,hq⟩,q⟩
 .let⟨its,rv,p,hz⟩:=I1.list hq;refine EB p.isList ?_;refine⟨s1.heap.objs.size,[s1.heap.objs.size],_,_,H1,rfl,I1.kept (t':=s1.toks) λb o e=>AN _ e,zhB a _,⟨_,A0 _ rfl,rfl,rfl⟩,λb hb=>?_,q⟩;have e:b=s1.heap.objs.size:=by simpa using hb
  subst e;exact I1.fpOk (AU _) (I1.hok.fresh (AU _))
 .let⟨its,rv,p,hz⟩:=I1.tuple hq;refine Bj (show s1.heap.IsTuple a its.toArray from p) ?_;refine⟨s1.heap.objs.size,[s1.heap.objs.size],_,_,H1,rfl,I1.kept (t':=s1.toks) λb o e=>AN _ e,zfZ a _,⟨_,A0 _ rfl,rfl,rfl⟩,λb hb=>?_,q⟩;have e:b=s1.heap.objs.size:=by simpa using hb
  subst e;exact I1.fpOk (AU _) (I1.hok.fresh (AU _))
theorem zk6{k:Bool}{vs:List PV}{xs:List V}{y:AI}(rt:ybx X.K B φ H k y xs)(l:ye X.K S.cl B φ H vs xs):Drw S X B φ H vs (Itt X.K y):=by
 have hl:=l.length;refine⟨λφ' H' s=>⟨xs,(rt.step s).sq,by lia⟩,λi φ' H' s hi=>⟨xs,xs[i]'(by lia),(rt.step s).sq,by simp[show i<xs.length by lia]⟩,λi φ' H' st x H2 B' hB s rs hi q=>?_⟩;let⟨rfl,q⟩:=q;obtain⟨v,hv⟩:∃v,vs[i]?=AA v:=⟨vs[i],by simp[hi]⟩;let⟨x',hx',rv⟩:=l.get i hv;have:=q xs (rt.step s).sq;rw[this]at hx'
 cases hx'
 exact⟨v,hv,(rv.moreB hB).step s,λ_ _ e=>e⟩
theorem zks{vs:List PV}{xs:List V}{y:AI}(rt:ycm B φ H y xs)(l:ye X.K S.cl B φ H vs xs):Drw S X B φ H vs (Itl X.K y):=by
 have hl:=l.length;refine⟨λφ' H' s=>⟨xs,(rt.step s).sq,by lia⟩,λi φ' H' s hi=>⟨xs,xs[i]'(by lia),(rt.step s).sq,by simp[show i<xs.length by lia]⟩,λi φ' H' st x H2 B' hB s rs hi q=>?_⟩;let⟨rfl,q⟩:=q;obtain⟨v,hv⟩:∃v,vs[i]?=AA v:=⟨vs[i],by simp[hi]⟩;let⟨x',hx',rv⟩:=l.get i hv;have:=q xs (rt.step s).sq;rw[this]at hx'
 cases hx'
 exact⟨v,hv,(rv.moreB hB).step s,λ_ _ e=>e⟩
theorem zmJ(hl:PE X l (tE S X ca)):PI X tg l (tI S X (.seq ca)):=
 (zlD hl).imp λσ H R ⟨B,φ,st,ρ,rs,re,h⟩=>by
  erw[evi]at h;refine tE.bind rs re h λx H1 v st1 φ1 s1 rs1 re1 rv h1=>?_
  cases v with
  |tp k vs=>
   erw[yd]at rv;let⟨y,xs,rfl,rt,l⟩:=rv;exact⟨y,rfl,.inr ⟨⟨xs,rt.sq⟩,h1.ok rs1 (zk6 rt l)⟩⟩
  |lst vs=>
   erw[yd]at rv;let⟨y,xs,rfl,rt,l⟩:=rv;exact⟨y,rfl,.inl ⟨⟨xs,rt.sq⟩,h1.ok rs1 (zks rt l)⟩⟩
  |_=>exact h1.elim
theorem zc1:∀(n:Nat) (lo d:Int) (i:Nat),(yh n lo d)[i]?=if i<n then AA (.int (lo+i*d))else AC
 |0,lo,d,i=>by simp[yh]
 |n+1,lo,d,0=>by simp[yh]
 |n+1,lo,d,i+1=>by
  erw[yh,AL];rw[zc1 n (lo+d) d i]
  by_cases h:i<n
  .rw[if_pos h,if_pos (by lia),Int.natCast_succ,ED,CK,Int.add_assoc,Ec d]
  .rw[if_neg h,if_neg (by lia)]
theorem zaY:∀(n:Nat) (lo d:Int),(yh n lo d).length=n
 |0,lo,d=>rfl
 |n+1,lo,d=>by simp[yh,zaY n]
theorem zhA{lo:Int}{n:Nat}:Drw S X B φ H (yh n lo 1) (Itr lo n):=by
 refine⟨λφ' H' s=>by rw[zaY];exact AU _,λi φ' H' s hi=>by rw[zaY]at hi;exact hi,λi φ' H' st x H2 B' hB s rs hi q=>?_⟩;rw[zaY]at hi;let⟨rfl,rfl⟩:=q;refine⟨.int (lo+i),?_,by erw[yd],λ_ _ e=>e⟩;rw[zc1,if_pos hi,C9]
theorem zgA{o:Option (List PV)}{st:SO}{Q:It->Hp->Prop}(h:Run S X σ B φ H (RD S X B) (toL o st) Q):∃xs,o=AA xs/\Run S X σ B φ H (RD S X B) (.ok xs st) Q:=by
 cases o with
 |none=>exact h.elim
 |some z=>exact⟨z,rfl,h⟩
theorem zhK(hg:Gl X "range")(hm:X.mg "range"=AC)(ha:PE X a (tE S X ca))(hs:starEach [a] X.env=[(AD,eval a X.env)]:=by rfl):PI X tg (.Call (.Name "range" p) [a] [] pos) (tI S X (.range1 ca)):=
 (zhH hg hm (zbd ha yba hs) hs).imp λσ H R ⟨B,φ,st,ρ,rs,re,h⟩=>by
  erw[evi]at h;refine tE.bind rs re h λx H1 v st1 φ1 s1 rs1 re1 rv h1=>?_;let⟨xs,e,h1⟩:=zgA h1
  cases v with
  |int j=>
   erw[ybM]at e;split at e
   .cases e
    erw[yd]at rv;subst rv;exact⟨j,rfl,by lia,by lia,h1.ok rs1 zhA⟩
   .cases e
  |_=>cases e
theorem zc0:∀(xs:List PV) (k i:Nat),(yQ k xs)[i]?=(xs[i]?).map λx=>.tup [.int ((k+i:Nat):Int),x]
 |[],k,i=>by simp[yQ]
 |x::xs,k,0=>by simp[yQ]
 |x::xs,k,i+1=>by
  erw[yQ,AL];rw[zc0 xs (k+1) i];have:k+1+i=k+(i+1):=by lia
  rw[this]
theorem zcW:∀(xs:List PV) (k:Nat),(yQ k xs).length=xs.length
 |[],k=>rfl
 |x::xs,k=>by simp[yQ,zcW xs]
theorem ziD{k:Bool}{vs:List PV}{xs:List V}{y:AI}(rt:ybx X.K B φ H k y xs)(l:ye X.K S.cl B φ H vs xs):Drw S X B φ H (yQ 0 vs) (Ite X.K y):=by
 have hl:=l.length;have hp:=zcW vs 0;refine⟨λφ' H' s=>⟨xs,(rt.step s).sq,by lia⟩,λi φ' H' s hi=>⟨xs,xs[i]'(by lia),(rt.step s).sq,by simp[show i<xs.length by lia]⟩,λi φ' H' st x H2 B' hB s rs hi q=>?_⟩;let⟨T,hT,rfl,q⟩:=q;obtain⟨v,hv⟩:∃v,vs[i]?=AA v:=⟨vs[i]'(by lia),by simp[show i<vs.length by lia]⟩;let⟨x',hx',rv⟩:=l.get i hv;have e:=q xs x' (rt.step s).sq hx';subst e;refine⟨.tup [.int i,v],?_,.tup_new hT rs ?_,λb o e=>by rw[zh (zl e hT)];exact e⟩
 .rw[zc0,hv];simp
 .simp only[ye,yd];exact⟨_,_,rfl,rfl,x',[],rfl,(rv.moreB hB).step s,rfl⟩
theorem zkv{es:List AS}{kk:Nat}{tp:CH}(hg:Gl X "enumerate")(hm:X.mg "enumerate"=AC)(ha:PE X a (tE S X ca))(hs:starEach [a] X.env=[(AD,eval a X.env)]:=by rfl):
  PI X (.Tuple es kk tp) (.Call (.Name "enumerate" p) [a] [] pos) (tI S X (.enum ca)):=
 (zi0 hg hm (zbd ha yba hs) hs).imp λσ H R ⟨B,φ,st,ρ,rs,re,h⟩=>by
  erw[evi]at h;refine tE.bind rs re h λx H1 v st1 φ1 s1 rs1 re1 rv h1=>?_
  cases v with
  |tp k vs=>
   erw[yd]at rv;let⟨y,xs,rfl,rt,l⟩:=rv;exact⟨y,rfl,⟨xs,rt.sq⟩,h1.ok rs1 (ziD rt l)⟩
  |_=>exact h1.elim
def tG(S:Se)(X:Cx)(t:Tg):TG:=λv σ H Q=>∃B φ st ρ w ρ',yt X.K S.cl B φ H st/\yI X.K S.cl B φ H ρ σ/\yd X.K S.cl B φ H w v/\yH t w ρ=AA ρ'/\∀σ',yI X.K S.cl B φ H ρ' σ'->Q σ' H
theorem PG.imp{t t':TG}(h:PG X tg t')(k:∀v σ H Q,t v σ H Q->t' v σ H Q):PG X tg t:=λpins s σ H v u Q I rv q=>h pins s σ H v u Q I rv (k v σ H Q q)
theorem zkV{i:Nat}{x:AQ}(hN:X.N.Nodup)(hi:X.N[i]?=AA x)(hx:Loc X.env.scope x)(hf:X.fn x=AB \/ X.env.scope.names.lookup x=AA .local:=by first|exact .inl rfl|exact .inr rfl|assumption):PG X (.Name x pos) (tG S X (.n i)):=
 (zhv hN hi hx hf).imp λv σ H Q ⟨B,φ,st,ρ,w,ρ',rs,re,rv,e,q⟩=>by
  cases e
  exact q _ (re.set i rv)
noncomputable def gNs(l:List Nat):TGs:=λvs σ H Q=>vs.length=l.length/\Q ((l.zip vs).foldl (λσ p=>σ.set p.1 (AA p.2)) σ) H
theorem PGs.imp{es:List AS}{t t':TGs}(h:PGs X es t')(k:∀v σ H Q,t v σ H Q->t' v σ H Q):PGs X es t:=λpins s σ H vs us Q I rv q=>h pins s σ H vs us Q I rv (k vs σ H Q q)
theorem zkq:PGs X [] (gNs []):=yca.imp λvs σ H Q ⟨h,q⟩=>by
 cases vs with
 |nil=>exact⟨rfl,q⟩
 |cons _ _=>cases h
theorem zio{es:List AS}{l:List Nat}{i:Nat}{x:AQ}(hN:X.N.Nodup)(hi:X.N[i]?=AA x)(hx:Loc X.env.scope x)(h2:PGs X es (gNs l))(hf:X.fn x=AB \/ X.env.scope.names.lookup x=AA .local:=by first|exact .inl rfl|exact .inr rfl|assumption):PGs X (.Name x pos::es) (gNs (i::l)):=
 (ziP (zhv hN hi hx hf) h2).imp λvs σ H Q ⟨h,q⟩=>by
  cases vs with
  |nil=>cases h
  |cons v vs=>exact⟨v,vs,rfl,by simpa using h,q⟩
theorem yI.sets{K:AE}{cl:Nat->AI}:∀(l:List Nat) {vs:List PV} {xs:List V} {ρ:IC.Env} {σ:St},yI K cl B φ H ρ σ->ye K cl B φ H vs xs ->
  yI K cl B φ H ((l.zip vs).foldl (λρ p=>ρ.set p.1 (AA p.2)) ρ) ((l.zip xs).foldl (λσ p=>σ.set p.1 (AA p.2)) σ)
 |[],vs,xs,ρ,σ,re,l=>by simpa using re
 |i::is,[],xs,ρ,σ,re,l=>by
  erw[ye]at l;subst l;simpa using re
 |i::is,v::vs,xs,ρ,σ,re,l=>by
  erw[ye]at l;let⟨y,ys,rfl,r,l⟩:=l;erw[Dp,D2];exact yI.sets is (re.set i r) l
theorem zmP{es:List AS}{l:List Nat}{k:Nat}(hc:X.calm=AB)(h:PGs X es (gNs l))(hn:(assignEach es X.env).length=l.length:=by rfl)(hst:(assignEach es X.env).findIdx? (·.1)=none:=by rfl):PG X (.Tuple es k pos) (tG S X (.t l)):=
 (zmG hc h hn hst).imp λv σ H Q ⟨B,φ,st,ρ,w,ρ',rs,re,rv,e,q⟩=>by
  cases w with
  |tp kk vs=>
   erw[yH]at e;split at e
   .rename_i c
    cases e
    erw[yd]at rv;let⟨y,xs,rfl,rt,lr⟩:=rv;have hl:=lr.length;exact⟨y,xs,rfl,rt.sq,by lia,by lia,q _ (yI.sets l re lr)⟩
   .cases e
  |_=>cases e
theorem zkW{es:List AS}{l:List Nat}{k:Nat}(he:PE X a (tE S X ca))(hg:PG X (.Tuple es k p2) (tG S X (.t l)))(hs:swapsWithSole [.Tuple es k p2] a pos.line X.env=pure false:=by rfl)(hw:swappedStores [.Tuple es k p2] a X.env=pure none:=by rfl):
  PS X (.Assign [.Tuple es k p2] a pos) (tS S X (.asg (.t l) ca)):=
 (zjq he hg hs hw).imp λD σ H ⟨B,φ,st,ρ,rs,re,h⟩=>by
  erw[ex]at h;refine tE.fl rs re h λx H1 v st1 φ1 s rs1 re1 rv h1=>?_
  cases e:yH (.t l) v ρ with
  |none=>rw[e]at h1;exact h1.elim
  |some ρ'=>
   rw[e]at h1;exact⟨B,φ1,st1,ρ,v,ρ',rs1,re1,rv,e,λσ' re'=>h1 σ' H1 φ1 .rfl rs1 re'⟩
theorem tI.fl{k:List PV->SO->Fl}{P:It->Hp->Prop}(rs:yt X.K S.cl B φ H st)(re:yI X.K S.cl B φ H ρ σ)(h:yaB S X B φ H ((evi S.call ρ st ci).fl ρ k) D)
  (n:∀x H1 v st1 φ1,Step φ H φ1 H1->yt X.K S.cl B φ1 H1 st1->yI X.K S.cl B φ1 H1 ρ σ->Drw S X B φ1 H1 v x->yaB S X B φ1 H1 (k v st1) D->P x H1):tI S X ci σ H P:=by
 refine⟨B,φ,st,ρ,rs,re,?_⟩
 cases e:evi S.call ρ st ci with
 |ok v st'=>
  rw[e]at h;exact λx H' φ' s rs' rv=>n x H' v st' φ' s rs' (re.step s) rv (h.on s)
 |exc k st'=>
  rw[e]at h;exact λe s' x=>h σ φ H e s' .rfl re x
 |bad=>rw[e]at h;exact h
theorem zlZ(hp:EL (model X.prog X.w) X.A X.env X.xe)(hc:X.calm=AB)(hi:PI X tg l (tI S X ci))(hg:PG X tg (tG S X ct))(hb:PSs X ss (tSs S X cs))(hs:∀x,foldedSetIterable l X.env x=pure x:=by intro _;rfl):
  PS X (.For tg l ss [] pos) (tS S X (.for ct ci cs)):=
 (zlo hp hc hi hg hb hs).imp λD σ H ⟨B,φ,st,ρ,rs,re,h⟩=>by
  erw[ex]at h;refine tI.fl rs re h λJ H1 xs st1 φ1 s1 rs1 re1 dr h1=>?_;refine⟨λi m σ H=>∃φ st ρ,i+m=xs.length/\Step φ1 H1 φ H/\yt X.K S.cl B φ H st/\yI X.K S.cl B φ H ρ σ/\yaB S X B φ H (forL ct (λρ2 st2=>exs S.call ρ2 st2 cs) (xs.drop i) ρ st) D,
   ⟨xs.length,φ1,st1,ρ,by lia,.rfl,rs1,re1,by simpa using h1⟩,?_⟩
  rintro i m σ2 H2 ⟨φ2,st2,ρ2,hm,s2,rs2,re2,h2⟩
  by_cases hi:i<xs.length
  .refine .inr ⟨dr.go i φ2 H2 s2 hi,λσ' H'=>∃φ st ρ,Step φ1 H1 φ H'/\yt X.K S.cl B φ H' st/\yI X.K S.cl B φ H' ρ σ'/\yaB S X B φ H' (forL ct (λρ2 st2=>exs S.call ρ2 st2 cs) (xs.drop (i+1)) ρ st) D,
    λσ' H' ⟨φ,st,ρ,s,q⟩=>⟨m-1,by lia,φ,st,ρ,by lia,s,q⟩,λx H3 hy=>?_⟩
   let⟨v,hv,rv,kk⟩:=dr.yld i φ2 H2 st2 x H3 B (λ_ z=>.inl z) s2 rs2 hi hy;have e:xs.drop i=v::xs.drop (i+1):=by
    rw[Dw hi];rw[Cp hi]at hv;rw[AY hv]
   have s3:Step φ2 H2 φ2 H3:=⟨λb o _ e=>kk b o e,AU _,λ_ _ _ e=>e,λ_ h=>.inl h⟩;have rs3:yt X.K S.cl B φ2 H3 st2:=rs2.same kk;rw[e,forL]at h2
   cases eb:yH ct v ρ2 with
   |none=>rw[eb]at h2;exact h2.elim
   |some ρ3=>
    rw[eb]at h2;refine⟨B,φ2,st2,ρ2,v,ρ3,rs3,re2.step s3,rv,eb,λσ' re'=>⟨B,φ2,st2,ρ3,rs3,re',?_⟩⟩;have h3:=yaB.on s3 h2;dsimp only at h3
    cases ee:exs S.call ρ3 st2 cs with
    |nx ρ4 st4=>
     rw[ee]at h3;exact λσ4 H4 φ4 s4 rs4 re4=>⟨φ4,st4,ρ4,s2.trans (s3.trans s4),rs4,re4,yaB.on s4 h3⟩
    |ct ρ4 st4=>
     rw[ee]at h3;exact λσ4 H4 φ4 s4 rs4 re4=>⟨φ4,st4,ρ4,s2.trans (s3.trans s4),rs4,re4,yaB.on s4 h3⟩
    |bk ρ4 st4=>rw[ee]at h3;exact h3
    |rt v4 st4=>rw[ee]at h3;exact h3
    |exc k ρ4 st4=>rw[ee]at h3;exact h3
    |bad=>rw[ee]at h3;exact h3
  .have e:i=xs.length:=by lia
   subst e;rw[GG,forL]at h2;exact .inl ⟨dr.stop φ2 H2 s2,h2 σ2 H2 φ2 .rfl rs2 re2⟩
theorem zh0(hp:EL (model X.prog X.w) X.A X.env X.xe)(hc:PT X c (tTs S X cc))(hb:PSs X ss (tSs S X cs)):PS X (.While c ss [] pos) (tS S X (.while cc cs)):=
 (zh7 hp hc hb).imp λD σ H ⟨B,φ,st,ρ,rs,re,h⟩=>by
  erw[ex]at h;refine⟨λm σ H=>∃φ st ρ,yt X.K S.cl B φ H st/\yI X.K S.cl B φ H ρ σ/\yaB S X B φ H (yal (λρ2 st2=>ev S.call ρ2 st2 cc) (λρ2 st2=>exs S.call ρ2 st2 cs) m ρ st) D,⟨100000,φ,st,ρ,rs,re,h⟩,?_⟩
  rintro m σ2 H2 ⟨φ2,st2,ρ2,rs2,re2,h2⟩
  cases m with
  |zero=>exact h2.elim
  |succ m=>
   rw[yal]at h2;rw[flT _ λk st1=>cond k (yai (exs S.call ρ2 st1 cs) λρ2 st2=>yal (λρ2 st2=>ev S.call ρ2 st2 cc) (λρ2 st2=>exs S.call ρ2 st2 cs) m ρ2 st2) (.nx ρ2 st1)]at h2;refine tTs.fl rs2 re2 h2 λk H3 st3 φ3 s3 rs3 re3 h3=>?_
   cases k with
   |false=>exact h3 σ2 H3 φ3 .rfl rs3 re3
   |true=>
    refine⟨λσ' H'=>∃φ st ρ,yt X.K S.cl B φ H' st/\yI X.K S.cl B φ H' ρ σ'/\yaB S X B φ H' (yal (λρ2 st2=>ev S.call ρ2 st2 cc) (λρ2 st2=>exs S.call ρ2 st2 cs) m ρ st) D,
     λσ' H' q=>⟨m,by lia,q⟩,B,φ3,st3,ρ2,rs3,re3,?_⟩
    erw[cond_true]at h3
    cases ee:exs S.call ρ2 st3 cs with
    |nx ρ4 st4=>
     rw[ee]at h3;exact λσ4 H4 φ4 s4 rs4 re4=>⟨φ4,st4,ρ4,rs4,re4,yaB.on s4 h3⟩
    |ct ρ4 st4=>
     rw[ee]at h3;exact λσ4 H4 φ4 s4 rs4 re4=>⟨φ4,st4,ρ4,rs4,re4,yaB.on s4 h3⟩
    |bk ρ4 st4=>rw[ee]at h3;exact h3
    |rt v4 st4=>rw[ee]at h3;exact h3
    |exc k ρ4 st4=>rw[ee]at h3;exact h3
    |bad=>rw[ee]at h3;exact h3
end
section
variable (S:Se)(K:AE)
def yeE{α β:Type}(B:AI->Prop)(φ:Ph)(H:Hp)(Rel:Ph->Hp->α->β->Prop)(r:R α)(Q:β->Hp->Prop):Prop:=
 match r with
 |.ok v st'=>∀x H' φ',Step φ H φ' H'->yt K S.cl B φ' H' st'->Rel φ' H' v x->Q x H'
 |_=>False
def tE0(c:Ce):TE:=λσ H Q=>∃B φ st ρ,yt K S.cl B φ H st/\yI K S.cl B φ H ρ σ/\yeE S K B φ H (λφ H=>yd K S.cl B φ H) (ev S.call ρ st c) Q
def tT0(c:Ce):TT:=λσ H Q=>∃B φ st ρ,yt K S.cl B φ H st/\yI K S.cl B φ H ρ σ/\yeE S K B φ H RB (yaU (ev S.call ρ st c)) Q
def tG0(t:Tg):TG:=λv σ H Q=>∃B φ st ρ w ρ',yt K S.cl B φ H st/\yI K S.cl B φ H ρ σ/\yd K S.cl B φ H w v/\yH t w ρ=AA ρ'/\∀σ',yI K S.cl B φ H ρ' σ'->Q σ' H
end
section
variable {S:Se}{X:Cx}{K:AE}{cl:Nat->AI}{σ:St}{B:AI->Prop}{φ φ1:Ph}{H H1:Hp}{st:SO}{ρ:IC.Env}{pos p p2 px:CH}{a b c o tg l elt iter:AS}{ca cb cc ce:Ce}{ci:Cit}{ct:Tg}
theorem zkU(hK:X.K=K)(h:PE X a (tE S X ca)):PE X a (tE0 S K ca):=by
 subst hK;refine h.imp λσ H Q kq=>?_;let⟨B,φ,st,ρ,rs,re,q⟩:=kq;refine ⟨B,φ,st,ρ,rs,re,?_⟩
 cases e:ev S.call ρ st ca with
 |ok v st'=>rw[e]at q;exact q
 |exc k st'=>rw[e]at q;exact q.elim
 |bad=>rw[e]at q;exact q
theorem zj9(hK:X.K=K)(h:PT X a (tTs S X ca)):PTs X [a] (tT0 S K ca):=by
 subst hK;refine zj7 (h.imp λσ H Q kq=>?_);let⟨B,φ,st,ρ,rs,re,q⟩:=kq;refine ⟨B,φ,st,ρ,rs,re,?_⟩
 cases e:yaU (ev S.call ρ st ca)with
 |ok v st'=>rw[e]at q;exact q
 |exc k st'=>rw[e]at q;exact q.elim
 |bad=>rw[e]at q;exact q
theorem zi6:PTs X [] (tT0 S K (.cst (.bl AB))):=λpins s σ H Q I ⟨B,φ,st,ρ,rs,re,q⟩=>by
 refine zkB pins s σ H Q I ?_;erw[ev,yaU,R.bind,yaF,onO]at q;exact q AB H φ .rfl rs rfl
theorem zkQ(hK:X.K=K)(h:PG X tg (tG S X ct)):PG X tg (tG0 S K ct):=by
 subst hK;exact h
theorem ybx.skip{k:Bool}{D y:AI}{u:HO}{xs:List V}(hD:B D)(r:ybx K B φ H k y xs):ybx K B φ (L2.upd H D u) k y xs:=by
 rcases r with⟨r,b,n⟩|r
 .exact .inl ⟨by rw[zh (show y≠D from λz=>b (z ▸ hD))];exact r,b,n⟩
 .exact .inr r
mutual
theorem yd.skip{D:AI}{u:HO}(hD:B D):∀(v:PV) (x:V),yd K cl B φ H v x->yd K cl B φ (L2.upd H D u) v x
 |.non,x,h=>by erw[yd]at h ⊢;exact h
 |.bl b,x,h=>by erw[yd]at h ⊢;exact h
 |.int i,x,h=>by erw[yd]at h ⊢;exact h
 |.str y,x,h=>by erw[yd]at h ⊢;exact h
 |.tp k vs,x,h=>by
  erw[yd]at h ⊢;let⟨y,xs,e,r,l⟩:=h;exact⟨y,xs,e,r.skip hD,ye.skip hD vs xs l⟩
 |.lst vs,x,h=>by
  erw[yd]at h ⊢;let⟨y,xs,e,⟨r,b,n⟩,l⟩:=h;exact⟨y,xs,e,⟨by rw[zh (show y≠D from λz=>b (z ▸ hD))];exact r,b,n⟩,ye.skip hD vs xs l⟩
 |.loc n,x,h=>by erw[yd]at h ⊢;exact h
 |.exn c,x,h=>by
  erw[yd]at h ⊢;let⟨y,e,r,b,n⟩:=h;exact⟨y,e,by rw[zh (show y≠D from λz=>b (z ▸ hD))];exact r,b,n⟩
 |.scr vs,x,h=>by
  erw[yd]at h ⊢;let⟨y,xs,e,r,l⟩:=h;refine⟨y,xs,e,?_,ye.skip hD vs xs l⟩;rcases r with⟨r,b,n⟩|r
  .refine .inl ⟨?_,b,n⟩;have ne:y≠D:=λz=>b (z ▸ hD);rcases r with r|⟨o,r⟩
   .exact .inl (by rw[zh ne];exact r)
   .exact .inr ⟨o,by rw[zh ne];exact r⟩
  .exact .inr r
theorem ye.skip{D:AI}{u:HO}(hD:B D):∀(v:List PV) (x:List V),ye K cl B φ H v x->ye K cl B φ (L2.upd H D u) v x
 |[],x,h=>by erw[ye]at h ⊢;exact h
 |v::vs,x,h=>by
  erw[ye]at h ⊢;let⟨y,ys,e,r,l⟩:=h;exact⟨y,ys,e,yd.skip hD v y r,ye.skip hD vs ys l⟩
end
theorem DK.skip{D:AI}{u:HO}(hD:B D):∀{kvs:List (PV×PV)} {ks:List (Key×V)},DK K cl B φ H kvs ks->DK K cl B φ (L2.upd H D u) kvs ks
 |[],ks,h=>h
 |(k,v)::r,ks,h=>by
  let⟨q,x,t,e,m,rv,l⟩:=h;exact⟨q,x,t,e,m,rv.skip hD,DK.skip hD l⟩
theorem DT.skip{D:AI}{u:HO}(hD:B D):∀{kvs:List (PV×PV)} {ks:List (List Key×V)},DT K cl B φ H kvs ks->DT K cl B φ (L2.upd H D u) kvs ks
 |[],ks,h=>h
 |(k,v)::r,ks,h=>by
  let⟨q,x,t,e,m,rv,l⟩:=h;exact⟨q,x,t,e,m,rv.skip hD,DT.skip hD l⟩
theorem FS.skip{D:AI}{u:HO}(hD:B D):∀{kvs:List (AQ×PV)} {ks:List (AQ×V)},FS K cl B φ H kvs ks->FS K cl B φ (L2.upd H D u) kvs ks
 |[],ks,h=>h
 |(k,v)::r,ks,h=>by
  let⟨x,t,e,rv,l⟩:=h;exact⟨x,t,e,rv.skip hD,FS.skip hD l⟩
theorem yt.skip{D:AI}{u:HO}(hD:B D)(rs:yt K cl B φ H st):yt K cl B φ (L2.upd H D u) st:=by
 refine⟨rs.len,rs.inj,λn y e=>?_,rs.liv,rs.nb,λy h=>?_⟩
 .let⟨o,q,r⟩:=rs.obj n y e;have ne:y≠D:=λz=>rs.nb y (A4 e) (z ▸ hD);refine⟨o,q,?_⟩
  cases o with
  |lst vs=>
   let⟨xs,hx,l⟩:=r;exact⟨xs,by rw[zh ne];exact hx,l.skip hD⟩
  |dct t kvs=>
   cases t with
   |false=>
    let⟨xs,hx,l⟩:=r;exact⟨xs,by rw[zh ne];exact hx,l.skip hD⟩
   |true=>
    let⟨xs,hx,l⟩:=r;exact⟨xs,by rw[zh ne];exact hx,l.skip hD⟩
  |ins c fs=>
   let⟨ks,⟨dx,hx⟩,l⟩:=r;exact⟨ks,⟨dx,by rw[zh ne];exact hx⟩,l.skip hD⟩
  |dead=>exact r.elim
 .by_cases z:y=D
  .subst z;exact⟨u,zp⟩
  .let⟨w,e⟩:=rs.dom y h;exact⟨w,by rw[zh z];exact e⟩
theorem yI.skip{D:AI}{u:HO}(hD:B D)(re:yI K cl B φ H ρ σ):yI K cl B φ (L2.upd H D u) ρ σ:=⟨re.len,λi v e=>by
 let⟨x,h,q⟩:=re.get i v e;exact⟨x,h,q.skip hD⟩⟩
noncomputable def Bx(B:AI->Prop)(D:AI):AI->Prop:=λy=>B y \/ y=D
theorem zg3{D:AI}(hn:H D=AC):∀y,Bx B D y->B y \/ H y=none:=λy z=>z.elim .inl λq=>.inr (q ▸ hn)
theorem yd.more{D:AI}(hn:H D=AC){v:PV}{x:V}(h:yd K cl B φ H v x):yd K cl (Bx B D) φ H v x:=h.moreB (zg3 hn)
theorem ye.more{D:AI}(hn:H D=AC){v:List PV}{x:List V}(h:ye K cl B φ H v x):ye K cl (Bx B D) φ H v x:=h.moreB (zg3 hn)
mutual
theorem yd.less{D:AI}:∀(v:PV) (x:V),yd K cl (Bx B D) φ H v x->yd K cl B φ H v x
 |.non,x,h=>by erw[yd]at h ⊢;exact h
 |.bl b,x,h=>by erw[yd]at h ⊢;exact h
 |.int i,x,h=>by erw[yd]at h ⊢;exact h
 |.str y,x,h=>by erw[yd]at h ⊢;exact h
 |.tp k vs,x,h=>by
  erw[yd]at h ⊢;let⟨y,xs,e,r,l⟩:=h;refine⟨y,xs,e,?_,ye.less vs xs l⟩;rcases r with⟨r,b,n⟩|r
  .exact .inl ⟨r,λz=>b (.inl z),n⟩
  .exact .inr r
 |.lst vs,x,h=>by
  erw[yd]at h ⊢;let⟨y,xs,e,⟨r,b,n⟩,l⟩:=h;exact⟨y,xs,e,⟨r,λz=>b (.inl z),n⟩,ye.less vs xs l⟩
 |.loc n,x,h=>by erw[yd]at h ⊢;exact h
 |.exn c,x,h=>by
  erw[yd]at h ⊢;let⟨y,e,r,b,n⟩:=h;exact⟨y,e,r,λz=>b (.inl z),n⟩
 |.scr vs,x,h=>by
  erw[yd]at h ⊢;let⟨y,xs,e,r,l⟩:=h;refine⟨y,xs,e,?_,ye.less vs xs l⟩;rcases r with⟨r,b,n⟩|r
  .exact .inl ⟨r,λz=>b (.inl z),n⟩
  .exact .inr r
theorem ye.less{D:AI}:∀(v:List PV) (x:List V),ye K cl (Bx B D) φ H v x->ye K cl B φ H v x
 |[],x,h=>by erw[ye]at h ⊢;exact h
 |v::vs,x,h=>by
  erw[ye]at h ⊢;let⟨y,ys,e,r,l⟩:=h;exact⟨y,ys,e,yd.less v y r,ye.less vs ys l⟩
end
theorem DK.more{D:AI}(hn:H D=AC):∀{kvs:List (PV×PV)} {ks:List (Key×V)},DK K cl B φ H kvs ks->DK K cl (Bx B D) φ H kvs ks
 |[],ks,h=>h
 |(k,v)::r,ks,h=>by
  let⟨q,x,t,e,m,rv,l⟩:=h;exact⟨q,x,t,e,m,rv.more hn,DK.more hn l⟩
theorem DT.more{D:AI}(hn:H D=AC):∀{kvs:List (PV×PV)} {ks:List (List Key×V)},DT K cl B φ H kvs ks->DT K cl (Bx B D) φ H kvs ks
 |[],ks,h=>h
 |(k,v)::r,ks,h=>by
  let⟨q,x,t,e,m,rv,l⟩:=h;exact⟨q,x,t,e,m,rv.more hn,DT.more hn l⟩
theorem FS.more{D:AI}(hn:H D=AC):∀{kvs:List (AQ×PV)} {ks:List (AQ×V)},FS K cl B φ H kvs ks->FS K cl (Bx B D) φ H kvs ks
 |[],ks,h=>h
 |(k,v)::r,ks,h=>by
  let⟨x,t,e,rv,l⟩:=h;exact⟨x,t,e,rv.more hn,FS.more hn l⟩
theorem DK.less{D:AI}:∀{kvs:List (PV×PV)} {ks:List (Key×V)},DK K cl (Bx B D) φ H kvs ks->DK K cl B φ H kvs ks
 |[],ks,h=>h
 |(k,v)::r,ks,h=>by
  let⟨q,x,t,e,m,rv,l⟩:=h;exact⟨q,x,t,e,m,rv.less,DK.less l⟩
theorem DT.less{D:AI}:∀{kvs:List (PV×PV)} {ks:List (List Key×V)},DT K cl (Bx B D) φ H kvs ks->DT K cl B φ H kvs ks
 |[],ks,h=>h
 |(k,v)::r,ks,h=>by
  let⟨q,x,t,e,m,rv,l⟩:=h;exact⟨q,x,t,e,m,rv.less,DT.less l⟩
theorem FS.less{D:AI}:∀{kvs:List (AQ×PV)} {ks:List (AQ×V)},FS K cl (Bx B D) φ H kvs ks->FS K cl B φ H kvs ks
 |[],ks,h=>h
 |(k,v)::r,ks,h=>by
  let⟨x,t,e,rv,l⟩:=h;exact⟨x,t,e,rv.less,FS.less l⟩
theorem yt.less{D:AI}(rs:yt K cl (Bx B D) φ H st):yt K cl B φ H st:=by
 refine⟨rs.len,rs.inj,λn y e=>?_,rs.liv,λy h z=>rs.nb y h (.inl z),λy h=>rs.dom y (.inl h)⟩;let⟨o,q,r⟩:=rs.obj n y e;refine⟨o,q,?_⟩
 cases o with
 |lst vs=>let⟨xs,hx,l⟩:=r;exact⟨xs,hx,l.less⟩
 |dct t kvs=>cases t<;>(let⟨xs,hx,l⟩:=r;exact⟨xs,hx,l.less⟩)
 |ins c fs=>let⟨ks,hx,l⟩:=r;exact⟨ks,hx,l.less⟩
 |dead=>exact r.elim
theorem yt.more{D:AI}{u:HO}(hn:H D=AC)(rs:yt K cl B φ H st):yt K cl (Bx B D) φ (L2.upd H D u) st:=by
 have nD:AA D∉φ:=λz=>by
  let⟨w,e⟩:=rs.there z;rw[hn]at e;cases e
 have s:Step φ H φ (L2.upd H D u):=.upd hn;have rs':=rs.upd (o:=u) hn;refine⟨rs.len,rs.inj,λn y e=>?_,rs.liv,λy h z=>z.elim (rs.nb y h) λq=>nD (q ▸ h),λy h=>?_⟩
 .let⟨o,q,r⟩:=rs.obj n y e;have ne:y≠D:=λz=>nD (z ▸ A4 e);have hD:Bx B D D:=.inr rfl;refine⟨o,q,?_⟩
  cases o with
  |lst vs=>let⟨xs,hx,l⟩:=r;exact⟨xs,by rw[zh ne];exact hx,(l.more hn).skip hD⟩
  |dct t kvs=>
   cases t with
   |false=>let⟨xs,hx,l⟩:=r;exact⟨xs,by rw[zh ne];exact hx,(l.more hn).skip hD⟩
   |true=>let⟨xs,hx,l⟩:=r;exact⟨xs,by rw[zh ne];exact hx,(l.more hn).skip hD⟩
  |ins c fs=>let⟨ks,⟨dx,hx⟩,l⟩:=r;exact⟨ks,⟨dx,by rw[zh ne];exact hx⟩,(l.more hn).skip hD⟩
  |dead=>exact r.elim
 .rcases h with h|h
  .exact rs'.dom y h
  .subst h;exact⟨u,zp⟩
theorem yI.more{D:AI}{u:HO}(hn:H D=AC)(re:yI K cl B φ H ρ σ):yI K cl (Bx B D) φ (L2.upd H D u) ρ σ:=⟨re.len,λi v e=>by
 let⟨x,h,q⟩:=re.get i v e;exact⟨x,h,(q.more hn).skip (.inr rfl)⟩⟩
noncomputable def yax:Tg->List (Option Nat)->Bool
 |.n i,sl=>decide (sl[i]?=AA AC)
 |.t l,sl=>l.all λi=>decide (sl[i]?=AA AC)
theorem zfG:∀(l:List Nat) (vs:List PV) (ρ:IC.Env) (j:Nat),j∉l->((l.zip vs).foldl (λρ p=>ρ.set p.1 (AA p.2)) ρ)[j]?=ρ[j]?
 |[],vs,ρ,j,h=>by simp
 |i::is,[],ρ,j,h=>by simp
 |i::is,v::vs,ρ,j,h=>by
  erw[Dp,D2];rw[zfG is vs _ j λz=>h (AX _ z),AR]
  rintro rfl
  exact h BA
theorem zfz:∀(l:List Nat) (vs:List PV) (ρ:IC.Env),((l.zip vs).foldl (λρ p=>ρ.set p.1 (AA p.2)) ρ).length=ρ.length
 |[],vs,ρ=>by simp
 |i::is,[],ρ=>by simp
 |i::is,v::vs,ρ=>by
  erw[Dp,D2];rw[zfz is vs,BW]
theorem yI.untgt{sl:List (Option Nat)}{ρ0 ρ1:IC.Env}{v:PV}(hf:yax ct sl=AB)(h0:∀(i:Nat),sl[i]?=AA AC->ρ0[i]?=AA AC)(hb:yH ct v ρ0=AA ρ1)(re:yI K cl B φ H ρ1 σ):yI K cl B φ H ρ0 σ:=by
 cases ct with
 |n i=>
  cases hb
  erw[yax,decide_eq_true_eq]at hf;refine⟨by rw[<-re.len,BW],λj w e=>re.get j w ?_⟩;rw[AR]
  .exact e
  .rintro rfl
   rw[h0 _ hf]at e;cases e
 |t l=>
  cases v with
  |tp k vs=>
   erw[yH]at hb;split at hb
   .cases hb
    erw[yax,Bb,decide_eq_true_eq]at hf;refine⟨by rw[<-re.len,zfz],λj w e=>re.get j w ?_⟩;rw[zfG]
    .exact e
    .intro z;rw[h0 _ (hf j z)]at e;cases e
   .cases hb
  |_=>cases hb
theorem yI.inn{sl:List (Option Nat)}(re:yI K cl B φ H ρ σ):yI K cl B φ H (sl.map λo=>o.bind λj=>(ρ[j]?).join) (L2.inn sl σ):=by
 unfold L2.inn;refine⟨by simp,λi v e=>?_⟩;rw[Bo]at e ⊢
 cases q:sl[i]? with
 |none=>rw[q]at e;cases e
 |some o=>
  rw[q]at e
  cases o with
  |none=>cases e
  |some j=>
   erw[D3,Bk,Option.some.injEq]at e ⊢
   cases q2:ρ[j]? with
   |none=>rw[q2]at e;cases e
   |some w=>
    rw[q2]at e;erw[Option.join_some]at e;subst e;let⟨x,hx,rv⟩:=re.get j v q2;exact⟨x,by rw[hx];rfl,rv⟩
theorem ybZ:1000000<sizeLine:=by rw[DX];decide
theorem zmk{α:Type}{o:Option Bool}{k:Bool->R α}{z:α}{s:SO}(h:onO o k=.ok z s):∃b,o=AA b/\k b=.ok z s:=by
 cases o with
 |none=>cases h
 |some b=>exact⟨b,rfl,h⟩
theorem zaL{α β:Type}{r:R α}{k:α->SO->R β}{z:β}{s:SO}(h:r.bind k=.ok z s):∃a s1,r=.ok a s1/\k a s1=.ok z s:=by
 cases r with
 |ok a s1=>exact⟨a,s1,rfl,h⟩
 |exc c s=>cases h
 |bad=>cases h
theorem zg2{sl:List (Option Nat)}(hf:yax ct sl=AB){H:Hp}{Q:VK}(h:tE S X (.comp sl ct ci cc ce) σ H Q):ycO sl (tI S X ci) (tG0 S X.K ct) (tT0 S X.K cc) (tE0 S X.K ce) σ H Q:=by
  let⟨B,φ,st,ρ,rs,re,h⟩:=h;erw[ev]at h;refine⟨B,φ,st,ρ,rs,re,(Run.bind h).mono λJ H1 kq=>?_⟩;let⟨xs,st1,φ1,s1,rs1,dr,h1⟩:=kq;refine λD hD=>?_
  generalize hone:(λ(x:PV) (st2:SO)=>match yH ct x (sl.map λo=>o.bind λj=>(ρ[j]?).join)with
   |none=>(R.bad:R (Option PV))
   |some ρ1=>(ev S.call ρ1 st2 cc).bind λb st3=>onO (yaF st3 b) λk=>cond k ((ev S.call ρ1 st3 ce).bind λy st4=>.ok (AA y) st4) (.ok AC st3))=one at h1
  cases e:yaL one xs st1 with
  |exc k s=>rw[e]at h1;exact h1.elim
  |bad=>rw[e]at h1;exact h1.elim
  |ok zs st5=>
   rw[e]at h1;erw[ybV]at h1;split at h1
   case isFalse=>exact h1.elim
   rename_i hz;have nB:¬B D:=rs1.nB hD;have nD:AA D∉φ1:=λz=>by
    let⟨w,e⟩:=rs1.there z;rw[hD]at e;cases e
   refine⟨λi m σc ys H2=>∃φ2 st2 vs rest,i+m=xs.length/\Step φ1 H1 φ2 H2/\H2 D=AA (.lst ys)/\AA D∉φ2/\yt X.K S.cl (Bx B D) φ2 H2 st2/\yI X.K S.cl (Bx B D) φ2 H2 (sl.map λo=>o.bind λj=>(ρ[j]?).join) σc /\
     ye X.K S.cl (Bx B D) φ2 H2 vs ys/\yaL one (xs.drop i) st2=.ok rest st5/\vs++rest=zs,
    ⟨xs.length,φ1,st1,[],zs,by lia,.upd hD,zp,nD,rs1.more hD,(yI.inn (re.step s1)).more hD,by erw[ye],by simpa using e,rfl⟩,?_⟩
   rintro i m σc ys H2 ⟨φ2,st2,vs,rest,hm,s2,hD2,nD2,rs2,re2,l2,ec,ez⟩
   refine⟨hD2,?_⟩
   by_cases hi:i<xs.length
   .have hl2:=l2.length;have hml:=ybZ;have hzl:=congrArg CY ez;rw[Bi]at hzl;refine .inr ⟨dr.go i φ2 H2 s2 hi,by lia,λσ' ys' H'=>∃φ2 st2 vs rest,Step φ1 H1 φ2 H'/\H' D=AA (.lst ys')/\AA D∉φ2/\yt X.K S.cl (Bx B D) φ2 H' st2/\yI X.K S.cl (Bx B D) φ2 H' (sl.map λo=>o.bind λj=>(ρ[j]?).join) σ' /\
     ye X.K S.cl (Bx B D) φ2 H' vs ys'/\yaL one (xs.drop (i+1)) st2=.ok rest st5/\vs++rest=zs,λσ' ys' H' ⟨φ2,st2,vs,rest,q⟩=>⟨m-1,by lia,φ2,st2,vs,rest,by lia,q⟩,λx H3 hy=>?_⟩
    let⟨v,hv,rv,kk⟩:=dr.yld i φ2 H2 st2 x H3 (Bx B D) (λy z=>z.elim .inl λq=>.inr (q ▸ hD)) s2 rs2 hi hy;have s3:Step φ2 H2 φ2 H3:=⟨λb o _ e=>kk b o e,AU _,λ_ _ _ e=>e,λ_ h=>.inl h⟩;have rs3:yt X.K S.cl (Bx B D) φ2 H3 st2:=rs2.same kk;have ed:xs.drop i=v::xs.drop (i+1):=by
     rw[Dw hi];rw[Cp hi]at hv;rw[AY hv]
    rw[ed,yaL]at ec;let⟨o,st3,e1,ec⟩:=zaL ec;let⟨rest',st4,e2,ec⟩:=zaL ec;rw[<-hone]at e1;dsimp only at e1
    cases eb:yH ct v (sl.map λo=>o.bind λj=>(ρ[j]?).join)with
    |none=>rw[eb]at e1;cases e1
    |some ρ1=>
     rw[eb]at e1;dsimp only at e1;let⟨bv,st6,e3,e1⟩:=zaL e1;let⟨k,e4,e1⟩:=zmk e1;have er:st4=st5/\ybG o rest'=rest:=by
      injection ec with q1 q2;exact⟨q2,q1⟩
     let⟨rfl,rfl⟩:=er;refine⟨Bx B D,φ2,st2,_,v,ρ1,rs3,re2.step s3,rv,eb,λσ4 re4=>⟨Bx B D,φ2,st2,ρ1,rs3,re4,?_⟩⟩;have et:yaU (ev S.call ρ1 st2 cc)=.ok k st6:=by
      rw[e3];erw[yaU,R.bind,e4,onO]
     rw[et]
     rintro k' H5 φ5 s5 rs5 rfl
     have nD5:AA D∉φ5:=λz=>by
      rcases s5.new D z with q|q
      .exact nD2 q
      .rw[kk D _ hD2]at q;cases q
     have hD5:H5 D=AA (.lst ys):=s5.keep D _ nD2 (kk D _ hD2);have s25:Step φ1 H1 φ5 H5:=s2.trans (s3.trans s5);have l5:=(l2.step s3).step s5;have re5:yI X.K S.cl (Bx B D) φ5 H5 ρ1 σ4:=re4.step s5;have h0:∀(i:Nat),sl[i]?=AA AC->(sl.map λo=>o.bind λj=>(ρ[j]?).join)[i]?=AA none:=λi q=>by
      rw[Bo,q];rfl
     cases k with
     |false=>
      erw[cond_false]at e1
      cases e1
      exact⟨φ5,_,vs,rest',s25,hD5,nD5,rs5,yI.untgt hf h0 eb re5,l5,e2,ez⟩
     |true=>
      erw[cond_true]at e1;let⟨y,st7,e5,e1⟩:=zaL e1
      cases e1
      refine⟨Bx B D,φ5,st6,ρ1,rs5,re5,?_⟩;rw[e5];intro y' H6 φ6 s6 rs6 ry;have nD6:AA D∉φ6:=λz=>by
       rcases s6.new D z with q|q
       .exact nD5 q
       .rw[hD5]at q;cases q
      have hD6:H6 D=AA (.lst ys):=s6.keep D _ nD5 hD5;have hBD:Bx B D D:=.inr rfl;refine⟨hD6,φ6,_,vs++[y],rest',?_,zp,nD6,rs6.skip hBD,(yI.untgt hf h0 eb (re5.step s6)).skip hBD,((l5.step s6).append (by erw[ye];exact⟨y',[],rfl,ry,rfl⟩)).skip hBD,e2,?_⟩
      .have s16:=s25.trans s6;exact⟨λb o n q=>by rw[zh (zl q hD)];exact s16.keep b o n q,s16.len,s16.pre,s16.new⟩
      .simpa [ybG] using ez
   .have ei:i=xs.length:=by lia
    subst ei;rw[GG,yaL]at ec
    cases ec
    refine .inl ⟨dr.stop φ2 H2 s2,h1 (.ref D) H2 φ2 s2 rs2.less ?_⟩;erw[yd];exact⟨D,ys,rfl,⟨hD2,nB,nD2⟩,by rw[<-ez,CG];exact l2.less⟩
theorem zkm{sc:Bc}{NC:List AQ}{sl:List (Option Nat)}{ifs:List AS}(hc:X.calm=AB)(O:yaj X sc NC sl)(hf:yax ct sl=AB)(hi:PI X tg iter (tI S X ci))(hg:∀j,PG (cxC X sc NC j) tg (tG0 S X.K ct))
  (ht:∀j,PTs (cxC X sc NC j) ifs (tT0 S X.K cc)) (he:∀j,PE (cxC X sc NC j) elt (tE0 S X.K ce)) (hs:∀x,foldedSetIterable iter X.env x=pure x:=by intro _;rfl):
  PE X (.ListComp elt [⟨tg,iter,ifs,0⟩] sc pos) (tE S X (.comp sl ct ci cc ce)):=
 (zkA hc O hi hg ht he hs).imp λσ H Q h=>zg2 hf h
end
end L2
namespace IC
open PySem
def RLe{α:Type}(r q:R α):Prop:=r=.bad \/ r=q
def FLe(f g:Fl):Prop:=f=.bad \/ f=g
abbrev Cl:=Nat->List PV->SO->R PV
def CLe(c d:Cl):Prop:=∀f a s,RLe (c f a s) (d f a s)
theorem RLe.rfl{α:Type}{r:R α}:RLe r r:=.inr (DG _)
theorem FLe.rfl{f:Fl}:FLe f f:=.inr (DG _)
theorem RLe.bind{α β:Type}{r q:R α}{k l:α->SO->R β}(h:RLe r q)(hk:∀a s,RLe (k a s) (l a s)):RLe (r.bind k) (q.bind l):=by
 rcases h with h|h
 .subst h;exact .inl (DG _)
 .subst h
  cases r with
  |ok a s=>exact hk a s
  |exc c s=>exact .rfl
  |bad=>exact .rfl
theorem RLe.fl{α:Type}{r q:R α}{ρ:Env}{k l:α->SO->Fl}(h:RLe r q)(hk:∀a s,FLe (k a s) (l a s)):FLe (r.fl ρ k) (q.fl ρ l):=by
 rcases h with h|h
 .subst h;exact .inl (DG _)
 .subst h
  cases r with
  |ok a s=>exact hk a s
  |exc c s=>exact .rfl
  |bad=>exact .rfl
theorem RLe.comp{r q:R (List PV)}(h:RLe r q):RLe (ybV r) (ybV q):=by
 rcases h with h|h
 .subst h;exact .inl (DG _)
 .subst h;exact .rfl
theorem zhd{α:Type}{x:PV}{k l:Bool->R α}(h:∀b,RLe (k b) (l b)):RLe (onBl x k) (onBl x l):=by
 cases x with
 |bl b=>exact h b
 |_=>exact .rfl
theorem zez{α:Type}{x:Option Bool}{k l:Bool->R α}(h:∀b,RLe (k b) (l b)):RLe (onO x k) (onO x l):=by
 cases x with
 |some b=>exact h b
 |none=>exact .rfl
theorem zjc{x:Option Bool}{k l:Bool->Fl}(h:∀b,FLe (k b) (l b)):FLe (onF x k) (onF x l):=by
 cases x with
 |some b=>exact h b
 |none=>exact .rfl
theorem zlp{α:Type}{x:Option (Option Int)}{k l:Option Int->R α}(h:∀b,RLe (k b) (l b)):RLe (onP x k) (onP x l):=by
 cases x with
 |some b=>exact h b
 |none=>exact .rfl
theorem zcL{α:Type}{b:Bool}{r q r' q':R α}(h:RLe r q)(h':RLe r' q'):RLe (cond b r r') (cond b q q'):=by
 cases b
 .exact h'
 .exact h
theorem zfQ{b:Bool}{r q r' q':Fl}(h:FLe r q)(h':FLe r' q'):FLe (cond b r r') (cond b q q'):=by
 cases b
 .exact h'
 .exact h
theorem zcg{f g:PV->SO->R (Option PV)}(h:∀x s,RLe (f x s) (g x s)):∀xs s,RLe (yaL f xs s) (yaL g xs s)
 |[],s=>.rfl
 |x::xs,s=>(h x s).bind λo s1=>(zcg h xs s1).bind λys s2=>.rfl
theorem zcE{f g:Fl}{k l:Env->SO->Fl}(h:FLe f g)(hk:∀ρ s,FLe (k ρ s) (l ρ s)):FLe (yai f k) (yai g l):=by
 rcases h with h|h
 .subst h;exact .inl (DG _)
 .subst h
  cases f with
  |nx ρ s=>exact hk ρ s
  |ct ρ s=>exact hk ρ s
  |_=>exact .rfl
theorem zdQ{t:Tg}{f g:Env->SO->Fl}(h:∀ρ s,FLe (f ρ s) (g ρ s)):∀xs ρ s,FLe (forL t f xs ρ s) (forL t g xs ρ s)
 |[],ρ,s=>.rfl
 |x::xs,ρ,s=>by
  unfold forL
  cases yH t x ρ with
  |none=>exact .rfl
  |some ρ1=>exact zcE (h ρ1 s) λρ2 s2=>zdQ h xs ρ2 s2
theorem zee{t u:Env->SO->R PV}{f g:Env->SO->Fl}(ht:∀ρ s,RLe (t ρ s) (u ρ s))(h:∀ρ s,FLe (f ρ s) (g ρ s)):∀n ρ s,FLe (yal t f n ρ s) (yal u g n ρ s)
 |0,ρ,s=>.rfl
 |n+1,ρ,s=>by
  unfold yal;exact(ht ρ s).fl λx s1=>zjc λb=>zfQ (zcE (h ρ s1) λρ2 s2=>zee ht h n ρ2 s2) .rfl
mutual
theorem zd{c d:Cl}(h:CLe c d):∀(e:Ce) (ρ:Env) (s:SO),RLe (ev c ρ s e) (ev d ρ s e)
 |.cst v,ρ,s=>by exact .rfl
 |.var i,ρ,s=>by exact .rfl
 |.bin o a b,ρ,s=>by
  exact(zd h a ρ s).bind λx s1=>(zd h b ρ s1).bind λy s2=>.rfl
 |.neg a,ρ,s=>by
  exact(zd h a ρ s).bind λx s1=>.rfl
 |.not a,ρ,s=>by
  exact(zd h a ρ s).bind λx s1=>.rfl
 |.and a b,ρ,s=>by
  refine(zd h a ρ s).bind λx s1=>?_;exact zhd λk=>zcL (zd h b ρ s1) .rfl
 |.or a b,ρ,s=>by
  refine(zd h a ρ s).bind λx s1=>?_;exact zhd λk=>zcL .rfl (zd h b ρ s1)
 |.cmp o a b,ρ,s=>by
  exact(zd h a ρ s).bind λx s1=>(zd h b ρ s1).bind λy s2=>.rfl
 |.chain o p a b k,ρ,s=>by
  refine(zd h a ρ s).bind λx s1=>(zd h b ρ s1).bind λy s2=>?_;exact zez λq=>zcL ((zd h k ρ s2).bind λz s3=>.rfl) .rfl
 |.ite k a b,ρ,s=>by
  exact(zd h k ρ s).bind λx s1=>zez λq=>zcL (zd h a ρ s1) (zd h b ρ s1)
 |.tup es,ρ,s=>by
  exact(zaq h es ρ s).bind λx s1=>.rfl
 |.lst es,ρ,s=>by
  exact(zaq h es ρ s).bind λx s1=>.rfl
 |.newl es,ρ,s=>by
  exact(zaq h es ρ s).bind λx s1=>.rfl
 |.dict0 t,ρ,s=>by exact .rfl
 |.idx a i,ρ,s=>by
  exact(zd h a ρ s).bind λx s1=>(zd h i ρ s1).bind λy s2=>.rfl
 |.slc a l u,ρ,s=>by
  exact(zd h a ρ s).bind λx s1=>(zd h l ρ s1).bind λy s2=>zlp λo=>(zd h u ρ s2).bind λz s3=>.rfl
 |.call f es,ρ,s=>by
  exact(zaq h es ρ s).bind λx s1=>h f x s1
 |.blt b es,ρ,s=>by
  exact(zaq h es ρ s).bind λx s1=>.rfl
 |.mth m o es,ρ,s=>by
  exact(zd h o ρ s).bind λx s1=>zez λ_=>(zaq h es ρ s1).bind λy s2=>.rfl
 |.isi a ts,ρ,s=>by
  exact(zd h a ρ s).bind λx s1=>.rfl
 |.comp sl tg it k e,ρ,s=>by
  refine(zgZ h it ρ s).bind λxs s1=>?_;have q:=λ(f g:PV->SO->R (Option PV)) (hfg:∀x s,RLe (f x s) (g x s))=>zcg hfg xs s1;refine RLe.comp (zcg (λx s2=>?_) xs s1)
  cases yH tg x _ with
  |none=>exact .rfl
  |some ρ1=>
   dsimp only;exact(zd h k ρ1 s2).bind λb s3=>zez λq=>zcL ((zd h e ρ1 s3).bind λy s4=>.rfl) .rfl
 |.nope,ρ,s=>by exact .rfl
 |.frz a,ρ,s=>by
  exact(zd h a ρ s).bind λx s1=>.rfl
 |.dix D a,ρ,s=>by
  exact(zd h a ρ s).bind λx s1=>.rfl
 |.din a D,ρ,s=>by
  exact(zd h a ρ s).bind λx s1=>.rfl
 |.fld q a f,ρ,s=>by
  exact(zd h a ρ s).bind λx s1=>.rfl
 |.new q i es,ρ,s=>by
  refine(zaq h es ρ s).bind λx s1=>RLe.bind ?_ λv s2=>.rfl;rcases h i (.loc s1.length::x) (s1++[.ins q []])with e|e
  .rw[e];exact .inl (DG _)
  .rw[e];exact .rfl
 |.mcl q i m o es,ρ,s=>by
  exact(zd h o ρ s).bind λx s1=>zez λ_=>(zaq h es ρ s1).bind λy s2=>h i (x::y) s2
theorem zaq{c d:Cl}(h:CLe c d):∀(e:Ces) (ρ:Env) (s:SO),RLe (evs c ρ s e) (evs d ρ s e)
 |.nil,ρ,s=>by exact .rfl
 |.cons e es,ρ,s=>by
  exact(zd h e ρ s).bind λx s1=>(zaq h es ρ s1).bind λy s2=>.rfl
theorem zgZ{c d:Cl}(h:CLe c d):∀(e:Cit) (ρ:Env) (s:SO),RLe (evi c ρ s e) (evi d ρ s e)
 |.seq e,ρ,s=>by
  exact(zd h e ρ s).bind λx s1=>.rfl
 |.range1 a,ρ,s=>by
  exact(zd h a ρ s).bind λx s1=>.rfl
 |.range2 a b,ρ,s=>by
  exact(zd h a ρ s).bind λx s1=>(zd h b ρ s1).bind λy s2=>.rfl
 |.rangeD a b,ρ,s=>by
  exact(zd h a ρ s).bind λx s1=>(zd h b ρ s1).bind λy s2=>.rfl
 |.enum e,ρ,s=>by
  exact(zd h e ρ s).bind λx s1=>.rfl
 |.zip a b,ρ,s=>by
  exact(zd h a ρ s).bind λx s1=>(zd h b ρ s1).bind λy s2=>.rfl
 |.revl e,ρ,s=>by
  exact(zd h e ρ s).bind λx s1=>.rfl
 |.revr e,ρ,s=>by
  exact(zd h e ρ s).bind λx s1=>.rfl
 |.chars e,ρ,s=>by
  exact(zd h e ρ s).bind λx s1=>.rfl
end
mutual
theorem znV{c d:Cl}(h:CLe c d):∀(x:Cs) (ρ:Env) (s:SO),FLe (ex c ρ s x) (ex d ρ s x)
 |.expr e,ρ,s=>by
  exact(zd h e ρ s).fl λx s1=>.rfl
 |.asg t e,ρ,s=>by
  exact(zd h e ρ s).fl λx s1=>.rfl
 |.six o i e,ρ,s=>by
  exact(zd h e ρ s).fl λx s1=>(zd h o ρ s1).fl λy s2=>(zd h i ρ s2).fl λz s3=>.rfl
 |.dput o i e,ρ,s=>by
  exact(zd h e ρ s).fl λx s1=>(zd h o ρ s1).fl λy s2=>(zd h i ρ s2).fl λz s3=>.rfl
 |.aug i o e,ρ,s=>by
  first|unfold ev|unfold ex|unfold evs|unfold evi|unfold exs
  split
  .exact(zd h e ρ s).fl λx s1=>.rfl
  .exact .rfl
 |.ret e,ρ,s=>by
  exact(zd h e ρ s).fl λx s1=>.rfl
 |.ite k a b,ρ,s=>by
  exact(zd h k ρ s).fl λx s1=>zjc λq=>zfQ (zaC h a ρ s1) (zaC h b ρ s1)
 |.for t it b,ρ,s=>by
  exact(zgZ h it ρ s).fl λxs s1=>zdQ (λρ2 s2=>zaC h b ρ2 s2) xs ρ s1
 |.while k b,ρ,s=>by
  exact zee (λρ2 s2=>zd h k ρ2 s2) (λρ2 s2=>zaC h b ρ2 s2) _ ρ s
 |.nope,ρ,s=>by exact .rfl
 |.mkr i D n es,ρ,s=>by
  refine(zd h n ρ s).fl λx s1=>?_;split
  .exact((zaq h es _ s1).bind λvs s2=>h _ vs s2).fl λv s3=>.rfl
  .exact .rfl
 |.sfl q o f e,ρ,s=>by
  exact(zd h e ρ s).fl λx s1=>(zd h o ρ s1).fl λy s2=>.rfl
theorem zaC{c d:Cl}(h:CLe c d):∀(x:Css) (ρ:Env) (s:SO),FLe (exs c ρ s x) (exs d ρ s x)
 |.nil,ρ,s=>by exact .rfl
 |.cons x xs,ρ,s=>by
  first|unfold ev|unfold ex|unfold evs|unfold evi|unfold exs
  rcases znV h x ρ s with e|e
  .rw[e];exact .inl (DG _)
  .rw[e]
   cases ex d ρ s x with
   |nx ρ1 s1=>exact zaC h xs ρ1 s1
   |_=>exact .rfl
end
theorem zd5(T:Nat->Option Fn):∀k,CLe (yc T k) (yc T (k+1))
 |0,f,a,s=>.inl (DG _)
 |k+1,f,a,s=>by
  have h:=zd5 T k;rw[yc,yc]
  cases T f with
  |none=>exact .rfl
  |some fn=>
   dsimp only;split
   .split
    .split
     .rcases zaC h fn.body (a.map AA++Ac (fn.ns-fn.np) AC) []with e|e
      .rw[e];exact .inl (DG _)
      .rw[e];exact .rfl
     .exact .rfl
    .rcases zaC h fn.body (a.map AA++Ac (fn.ns-fn.np) AC) s with e|e
     .rw[e];exact .inl (DG _)
     .rw[e];exact .rfl
   .exact .rfl
theorem zat{T:Nat->Option Fn}{k:Nat}{f:Nat}{a:List PV}{s s':SO}{v:PV}(h:yc T k f a s=.ok v s'):∀j,yc T (k+j) f a s=.ok v s'
 |0=>h
 |j+1=>by
  have q:=zat h j;rcases zd5 T (k+j) f a s with e|e
  .rw[q]at e;cases e
  .rw[Nat.add_assoc]at e;rw[<-e];exact q
end IC
namespace L2
open PySem PySem.Spec PyProof.Rows IC
def spI(K:AE)(cl:Nat->AI)(call:Nat->List PV->SO->R PV)(f:Nat):Sp:=λvs H Q E=>∃B φ st args,yt K cl B φ H st/\ye K cl B φ H args vs/\match call f args st with
 |.ok v st'=>∀x H' φ',Step φ H φ' H'->yt K cl B φ' H' st'->yd K cl B φ' H' v x->Q x H'
 |.exc c st'=>∀H' φ',Step φ H φ' H'->yt K cl B φ' H' st'->E (.ref (cl c)) AC H'
 |.bad=>False
section
variable {S:Se}{X:Cx}{k:Nat}{f:AI}{fd:Az}{ps ks:List AQ}{sp:Sp}{dvs:List V}{ds:List AF}{x:AQ}{p pos:CH}{e:AS}{es:List AS}{t tk:TA}{CX:CXT}{σ:St}{H:Hp}
theorem zcU{pins:List (AI×Bs)}{s:AJ}{Q:VK}{us:List AF}{vs:List V}{E:XK}(F:yaE X.prog X.w X.K X.mg X.base CX k f fd ps sp)(hr:yan k X.A)(hb:Binds X.K fd ps ds)(hd:Vals dvs ds)
  (I:Inv X pins σ H s) (r:Vals vs us) (h:sp (vs++dvs) H Q E) (hx:∀e s',CX X.stack H s E e s'->X.xe e s'):A3 (model X.prog X.w) X.A (call (.ref f) us) (EP X pins σ Q) X.xe s:=by
 have r2:Vals (vs++dvs) (us++ds):=r.append hd;have hl:(us++ds).length=ps.length:=by rw[<-r2.length];exact F.len _ _ _ _ h
 refine G3 (D7 (F.run X.A X.stack s H ⟨us,[]⟩ (us++ds) (vs++dvs) Q E hr I.env0 (hb s us I.kIn hl) r2 h) λr s' hq=>?_)
 cases r with
 |error e=>exact hx e s' hq
 |ok fl=>
  cases fl with
  |ret u=>exact I.after hq
  |next=>exact Bg hq
  |brk=>exact Bg hq
  |cont=>exact Bg hq
noncomputable def yb8(CX:CXT)(X:Cx)(sp:Sp)(dvs:List V)(t:TA):TE:=λσ H Q=>t σ H λvs H1=>∃E:XK,sp (vs++dvs) H1 Q E/\∀pins s e s',Inv X pins σ H1 s->CX X.stack H1 s E e s'->X.xe e s'
theorem ziQ(F:yaE X.prog X.w X.K X.mg X.base CX k f fd ps sp)(hr:yan k X.A)(hg:Gl X x)(hm:X.mg x=AA (.ref f))(hk:An X.K (.ref f)=AB)(hb:Binds X.K fd ps ds)(hd:Vals dvs ds)
  (ha:PA X (e::es) t) (hdb:(x==("__debug__":AQ))=false:=by decide) (he:starEach (e::es) X.env=(AD,eval e X.env)::starEach es X.env:=by rfl) (hpl:(backTo pos (starEach es X.env)).any (·.1)=false:=by rfl):
  PE X (.Call (.Name x p) (e::es) [] pos) (yb8 CX X sp dvs t):=by
 intro pins s σ H Q I h;refine BT (zco I hg hm ?_ hdb);refine Cw (h₀:=X.base) I.ok.mod.kin hk (thn (ha pos pins s σ H _ I h) λus s1 kq=>?_) he hpl;let⟨vs,H1,I1,r,E,q,hx⟩:=kq;refine ⟨I1.kIn,?_⟩;exact zcU F hr hb hd I1 r q λe s' c=>hx pins s1 e s' I1 c
theorem zgT(F:yaE X.prog X.w X.K X.mg X.base CX k f fd ps sp)(hr:yan k X.A)(hg:Gl X x)(hm:X.mg x=AA (.ref f))(hk:An X.K (.ref f)=AB)(hb:Binds X.K fd ps ds)(hd:Vals dvs ds)
  (hdb:(x==("__debug__":AQ))=false:=by decide):PE X (.Call (.Name x p) [] [] pos) (yb8 CX X sp dvs ycQ):=by
 intro pins s σ H Q I h;let⟨E,q,hx⟩:=h;refine BT (zco I hg hm ?_ hdb);exact FG I.kIn hk (zcU F hr hb hd I .nil q λe s' c=>hx pins s e s' I c)
variable {B:AI->Prop}{φ:Ph}{st:SO}{ces:Ces}{fi:Nat}
theorem zaH{vs:List PV}{xs:List V}{Q:VK}(rs:yt X.K S.cl B φ H st)(l:ye X.K S.cl B φ H vs xs)(h:Run S X σ B φ H (RV S X B) (S.call fi vs st) Q):
  ∃E:XK,spI X.K S.cl S.call fi xs H Q E/\∀pins s e s',Inv X pins σ H s->CX1 X.prog X.w X.stack H s E e s'->X.xe e s':=by
 cases c:S.call fi vs st with
 |ok v st'=>
  rw[c]at h;refine⟨λ_ _ _=>False,⟨B,φ,st,vs,rs,l,by rw[c];exact h⟩,λpins s e s' _ z=>?_⟩;let⟨_,_,_,_,_,_,_,_,_,_,_,_,_,_,z⟩:=z;exact z.elim
 |exc k st'=>
  rw[c]at h;refine⟨λcls _ H'=>cls=.ref (S.cl k)/\∃φ',Step φ H φ' H'/\yt X.K S.cl B φ' H' st',⟨B,φ,st,vs,rs,l,by rw[c];exact λH' φ' s r=>⟨rfl,φ',s,r⟩⟩,λpins s e s' I z=>h e s' (.inl ⟨pins,H,s,φ,I,.rfl,z⟩)⟩
 |bad=>rw[c]at h;exact h.elim
theorem zjV(F:yaE X.prog X.w X.K X.mg X.base (CX1 X.prog X.w) k f fd ps (spI X.K S.cl S.call fi))(hr:yan k X.A)(hg:Gl X x)(hm:X.mg x=AA (.ref f))(hk:An X.K (.ref f)=AB)(hb:Binds X.K fd ps [])
  (ha:PA X (e::es) (tAs S X ces)) (hdb:(x==("__debug__":AQ))=false:=by decide) (he:starEach (e::es) X.env=(AD,eval e X.env)::starEach es X.env:=by rfl) (hpl:(backTo pos (starEach es X.env)).any (·.1)=false:=by rfl):
  PE X (.Call (.Name x p) (e::es) [] pos) (tE S X (.call fi ces)):=
 (ziQ F hr hg hm hk hb .nil ha hdb he hpl).imp λσ H Q ⟨B,φ,st,ρ,rs,re,h⟩=>by
  erw[ev]at h;refine tAs.bind rs re h λxs H1 vs st1 φ1 s1 rs1 re1 rv h1=>?_;rw[CG];exact zaH rs1 rv h1
theorem ziV(F:yaE X.prog X.w X.K X.mg X.base (CX1 X.prog X.w) k f fd ps (spI X.K S.cl S.call fi))(hr:yan k X.A)(hg:Gl X x)(hm:X.mg x=AA (.ref f))(hk:An X.K (.ref f)=AB)(hb:Binds X.K fd ps [])
  (hdb:(x==("__debug__":AQ))=false:=by decide):PE X (.Call (.Name x p) [] [] pos) (tE S X (.call fi .nil)):=
 (zgT F hr hg hm hk hb .nil hdb).imp λσ H Q ⟨B,φ,st,ρ,rs,re,h⟩=>by
  erw[ev,evs,R.bind]at h;exact zaH rs (by erw[ye];rfl) h
end
section
variable {P:A7}{w:Ag}{K:AE}{mg:AQ->Option AF}{base:Ay}{cl:Nat->AI}{T:Nat->Option IC.Fn}{fi:Nat}{fn:IC.Fn}{x qual:AQ}{stm:Bn}{f:AI}{fd:Az}{N ps:List AQ}{k:Nat}
theorem CX1.mono{outer:List BS}{H:Hp}{s:AJ}{E E':XK}{e:AF}{s':AJ}(h:CX1 P w outer H s E e s')(n:∀cls H',E cls AC H'->E' cls AC H'):CX1 P w outer H s E' e s':=by
 let⟨a,cls,a0,H',Bh,r1,r2,r3,r4,r5,r6,r7,r8,r9,r10⟩:=h;exact⟨a,cls,a0,H',Bh,r1,r2,r3,r4,r5,r6,r7,r8,r9,n _ _ r10⟩
theorem yI.start{B:AI->Prop}{φ:Ph}{H:Hp}{args:List PV}{vs:List V}(l:ye K cl B φ H args vs)(n:Nat)(hn:N.length-vs.length=n):yI K cl B φ H (args.map AA++Ac n AC) (L2.start N vs):=by
 have hl:=l.length;unfold L2.start;refine⟨by simp[hl,hn],λi v e=>?_⟩
 by_cases hi:i<args.length
 .rw[Ae (by simpa using hi),Bo]at e
  cases q:args[i]? with
  |none=>rw[q]at e;cases e
  |some v'=>
   rw[q]at e
   cases e
   let⟨y,hy,rv⟩:=l.get i q;exact⟨y,by rw[Ae (by simp;lia),Bo,hy];rfl,rv⟩
 .rw[Al (by simp;lia),EO]at e;split at e<;>cases e
theorem leave{N:List AQ}{scope:Bc}{cd:AF}{A:Am}{outer:List BS}{s₀:AJ}{H₀:Hp}{E:XK}{call:Nat->List PV->SO->R PV}{σ:St}{B:AI->Prop}{φ:Ph}{H:Hp}{c:Nat}{st':SO}{e:AF}{s':AJ}
  (h:ExcAt ⟨cl,call,AB⟩ (yaM (CX1 P w) P w K mg base N qual scope f cd A outer s₀ H₀ E) σ B φ H c st' e s') (n:∀φ' H',Step φ H φ' H'->yt K cl B φ' H' st'->E (.ref (cl c)) AC H'):
  (yaM (CX1 P w) P w K mg base N qual scope f cd A outer s₀ H₀ E).xe e s':=by
 rcases h with⟨pins,H1,s,φ1,I,s1,q⟩|⟨_,pins,H1,s,φ1,h',e0,vs,I,s1,rs,mk,rfl,rfl⟩|⟨_,pins,H1,s,I,q⟩
 .exact ydY pins σ H1 s e s' I (q.mono λcls H' ⟨e1,φ',s2,r⟩=>by subst e1;exact n φ' H' (s1.trans s2) r)
 .exact zhI I mk (n φ1 H1 s1 rs)
 .exact yd3 I (q.mono λcls H' ⟨e1,φ',s2,r⟩=>by subst e1;exact n φ' H' s2 r)
theorem zjo(hT:T fi=AA fn):∀(args:List PV) (st:SO),yc T (k+1) fi args st ≠ .bad->args.length=fn.np:=λargs st hne=>by
 apply Classical.byContradiction;intro c;apply hne;rw[yc,hT];exact if_neg c
theorem zmE(hT:T fi=AA fn)(hnp:ps.length=fn.np){vs:List V}{H:Hp}{Q:VK}{E:XK}(h:spI K cl (yc T (k+1)) fi vs H Q E):vs.length=ps.length:=by
 let⟨B,φ,st,args,rs,l,h⟩:=h;rw[hnp,<-l.length];refine zjo (k:=k) hT args st λz=>?_;rw[z]at h;exact h
theorem zkD(hT:T fi=AA fn)(hns:N.length=fn.ns){scope:Bc}{cdv:AF}{A:Am}{outer:List BS}{s:AJ}{vs:List V}{H:Hp}{Q:VK}{E:XK}(h:spI K cl (yc T (k+1)) fi vs H Q E):
  tSs ⟨cl,yc T k,AB⟩ (yaM (CX1 P w) P w K mg base N qual scope f cdv A outer s H E) fn.body {nx:=λ_ H'=>Q .non H',rt:=Q} (L2.start N vs) H:=by
 let⟨B,φ,st,args,rs,l,h⟩:=h;have hl:args.length=fn.np:=zjo (k:=k) hT args st λz=>by rw[z]at h;exact h
 have hlen:=l.length;rw[yc,hT]at h;dsimp only at h;rw[if_pos hl]at h
 by_cases hp:fn.pure=AB
 .rw[if_pos hp]at h
  by_cases hz:nLs args=AB
  .rw[if_pos hz]at h;have rs0:yt K cl (λa=>B a \/ AA a∈φ) [] H []:=⟨rfl,λm n a e=>by simp at e,λn a e=>by simp at e,λn o e=>by simp at e,λa z=>by simp at z,λa z=>z.elim (rs.dom a) rs.there⟩;have back:∀{φ':Ph} {H':Hp},Step [] H φ' H'->Step φ H φ H'/\yt K cl B φ H' st:=λ{φ' H'} s'=>
    have kk:∀b o,H b=AA o->H' b=AA o:=λb o e=>s'.keep b o (by simp) e
    ⟨⟨λb o _ e=>kk b o e,AU _,λ_ _ _ e=>e,λ_ h=>.inl h⟩,rs.same kk⟩
   refine⟨_,[],[],_,rs0,yI.start (ye.inn rs.nb args vs hz l) (fn.ns-fn.np) (by lia),?_⟩;show yaB _ _ _ _ _ (exs (yc T k) (args.map AA++Ac (fn.ns-fn.np) AC) [] fn.body) _
   cases e:exs (yc T k) (args.map AA++Ac (fn.ns-fn.np) AC) [] fn.body with
   |nx ρ' st'=>
    rw[e]at h;intro σ' H' φ' s' rs' re';let⟨s2,r2⟩:=back s';exact h .non H' φ s2 r2 (by erw[yd])
   |rt v st'=>
    rw[e]at h;dsimp only at h
    by_cases hv:nL v=AB
    .rw[if_pos hv]at h;intro y H' φ' s' rs' rv;let⟨s2,r2⟩:=back s';exact h y H' φ s2 r2 (yd.out v y hv rv)
    .rw[if_neg hv]at h;exact h.elim
   |exc c ρ' st'=>
    rw[e]at h;intro σ' φ1 H1 ev s' s1 _ ex;refine leave ex λφ2 H2 s2 _=>?_;let⟨s3,r3⟩:=back (s1.trans s2);exact h H2 φ s3 r3
   |bk ρ' st'=>rw[e]at h;exact h.elim
   |ct ρ' st'=>rw[e]at h;exact h.elim
   |bad=>rw[e]at h;exact h.elim
  .rw[if_neg hz]at h;exact h.elim
 .rw[if_neg hp]at h;refine⟨B,φ,st,_,rs,yI.start l (fn.ns-fn.np) (by lia),?_⟩;show yaB _ _ _ _ _ (exs (yc T k) (args.map AA++Ac (fn.ns-fn.np) AC) st fn.body) _
  cases e:exs (yc T k) (args.map AA++Ac (fn.ns-fn.np) AC) st fn.body with
  |nx ρ' st'=>
   rw[e]at h;intro σ' H' φ' s' rs' re';exact h .non H' φ' s' rs' (by erw[yd])
  |rt v st'=>
   rw[e]at h;intro y H' φ' s' rs' rv;exact h y H' φ' s' rs' rv
  |exc c ρ' st'=>
   rw[e]at h;intro σ' φ1 H1 ev s' s1 _ ex;exact leave ex λφ2 H2 s2 r2=>h H2 φ2 (s1.trans s2) r2
  |bk ρ' st'=>rw[e]at h;exact h.elim
  |ct ρ' st'=>rw[e]at h;exact h.elim
  |bad=>rw[e]at h;exact h.elim
end
noncomputable def tyN:Ty->String
 |.int=>"int" | .bool=>"bool" | .str=>"str" | .tuple=>"tuple" | .list=>"list" | _=>""
structure yd4(K:AE)(t:Ty):Prop where
 n:BV K (.type "NoneType") (.type (tyN t))=AA (ybi .non t)
 b:BV K (.type "bool") (.type (tyN t))=AA (ybi (.bl AB) t)
 i:BV K (.type "int") (.type (tyN t))=AA (ybi (.int 0) t)
 s:BV K (.type "str") (.type (tyN t))=AA (ybi (.str Fx) t)
 p:BV K (.type "tuple") (.type (tyN t))=AA (ybi (.tp AB []) t)
 l:BV K (.type "list") (.type (tyN t))=AA (ybi (.lst []) t)
section
variable {S:Se}{X:Cx}{σ:St}{B:AI->Prop}{φ:Ph}{H:Hp}{st:SO}{p pos p2 px:CH}{a b c d o:AS}{ca cb cc:Ce}{t:Ty}
def yfg(S:Se)(X:Cx)(t:Ty):List V->Hp->VK->Prop:=λxs H Q=>∃B φ st v x z,xs=[x,.ty (tyN t)]/\yt X.K S.cl B φ H st/\yd X.K S.cl B φ H v x/\ya5 v [t]=AA z/\ydf t=AB /\
 ∀z' H' φ',Step φ H φ' H'->yt X.K S.cl B φ' H' st->yd X.K S.cl B φ' H' z z'->Q z' H'
theorem zna(Z:yd4 X.K t):yab X (.builtin "isinstance") (yfg S X t):=by
 rintro pins s σ H xs us Q I r ⟨B,φ,st,v,x,z,rfl,rs,rv,e,hb,q⟩
 let⟨u,c',rfl,ru,rc⟩:=vals2 r
 cases (show c'=FX (tyN t)from rc)
 have fin:∀(k:Bool) (tk:Nat),z=.bl k->EP X pins σ Q (.bool k) {s with toks:=tk}:=λk tk ez=>⟨.bl k,H,I.tok tk,rfl,q _ H φ .rfl rs (by subst ez;erw[yd])⟩
 cases v with
 |non=>
  erw[yd]at rv;subst rv
  cases (show u=Bz from ru)
  erw[ya5,hb,if_true]at e;exact C4 PySem.W.kitx_none I.kIn C2 Z.n (λz=>nomatch z) λtk=>fin _ tk (by cases e;cases t<;>rfl)
 |bl k=>
  erw[yd]at rv;subst rv
  cases (show u=Da k from ru)
  erw[ya5,hb,if_true]at e;exact C4 PySem.W.kitx_bool I.kIn C2 Z.b (λz=>nomatch z) λtk=>fin _ tk (by cases e;cases t<;>rfl)
 |int k=>
  erw[yd]at rv;subst rv;let⟨tk,rfl⟩:=ru;erw[ya5,hb,if_true]at e;exact C4 PySem.W.kitx_int I.kIn C2 Z.i (λz=>nomatch z) λtk=>fin _ tk (by cases e;cases t<;>rfl)
 |str k=>
  erw[yd]at rv;subst rv;let⟨tk,rfl⟩:=ru;erw[ya5,hb,if_true]at e;exact C4 PySem.W.kitx_str I.kIn C2 Z.s (λz=>nomatch z) λtk=>fin _ tk (by cases e;cases t<;>rfl)
 |tp k vs=>
  erw[yd]at rv;let⟨y,ys,rfl,rt,l⟩:=rv
  cases (show u=Af y from ru)
  erw[ya5,hb,if_true]at e;let⟨its,_,⟨o,g,c,_,_⟩,_⟩:=I.tuple rt.sq;exact C4 PySem.W.kitx_tuple I.kIn ⟨o,g,c⟩ Z.p (λz=>nomatch z) λtk=>fin _ tk (by cases e;cases t<;>rfl)
 |lst vs=>
  erw[yd]at rv;let⟨y,ys,rfl,rt,l⟩:=rv
  cases (show u=Af y from ru)
  erw[ya5,hb,if_true]at e;let⟨_,_,n,_,h1⟩:=(show yP X.prog X.w H s.heap y (.lst ys)from I.hok y _ rt.1);exact C4 PySem.W.kitx_list I.kIn ⟨_,h1,rfl⟩ Z.l (λz=>nomatch z) λtk=>fin _ tk (by cases e;cases t<;>rfl)
 |loc n=>cases e
 |scr n=>cases e
 |exn n=>erw[ya5,B5,List.all_nil,hb,CN,if_true]at e;cases e
theorem zmu{T:AQ}(Z:yd4 X.K t)(ht:ydf t=AB)(hg:Gl X "isinstance")(hm:X.mg "isinstance"=AC)(hgT:Gl X T)(hmT:X.mg T=AC)(hT:bootBuiltins T=AA (.type (tyN t)))(ha:PE X a (tE S X ca))(hnT:T ≠ "__name__":=by decide)(hdT:(T==("__debug__":AQ))=false:=by decide)
  (he:starEach [a,.Name T p2] X.env=(AD,eval a X.env)::starEach [.Name T p2] X.env:=by rfl) (hpl:(backTo pos (starEach [.Name T p2] X.env)).any (·.1)=false:=by rfl):
  PE X (.Call (.Name "isinstance" p) [a,.Name T p2] [] pos) (tE S X (.isi ca [t])):=
 (zfJ (zna Z) hg hm GT (zbd ha (zbd (zky (v:=.ty (tyN t)) hgT hmT hT rfl hnT hdT) yba) he) (by decide) (by decide) he hpl).imp λσ H Q ⟨B,φ,st,ρ,rs,re,h⟩=>by
  erw[ev]at h;refine tE.bind rs re h λx H1 v st1 φ1 s1 rs1 re1 rv h1=>?_;let⟨z,e,q⟩:=z5 h1 rs1;exact⟨B,φ1,st1,v,x,z,rfl,rs1,rv,e,ht,q⟩
theorem ziX{st4:SO}{x y v:PV}(h:ybk st x y v=AA st4):∃n xs k j,x=.loc n/\st[n]?=AA (.lst xs)/\y=.int k/\ixI xs.length k=AA j/\st4=st.set n (.lst (xs.set j v)):=by
 cases x with
 |loc n=>
  erw[ybk]at h
  cases q:st[n]? with
  |none=>rw[q]at h;cases h
  |some o=>
   rw[q]at h
   cases o with
   |lst xs=>
    cases y with
    |int k=>
     dsimp only at h
     cases q2:ixI xs.length k with
     |none=>rw[q2]at h;cases h
     |some j=>rw[q2]at h;exact⟨n,xs,k,j,rfl,q,rfl,q2,(AY h).symm⟩
    |_=>cases h
   |_=>cases h
 |_=>cases h
theorem ye.put{K:AE}{cl:Nat->AI}:∀{vs:List PV} {xs:List V} (j:Nat) {v:PV} {x:V},ye K cl B φ H vs xs->yd K cl B φ H v x->ye K cl B φ H (vs.set j v) (xs.set j x)
 |[],xs,j,v,x,l,r=>by erw[ye]at l;subst l;simp[ye]
 |w::vs,xs,0,v,x,l,r=>by
  erw[ye]at l;let⟨y,ys,rfl,_,l⟩:=l;erw[A1,ye];exact⟨x,ys,rfl,r,l⟩
 |w::vs,xs,j+1,v,x,l,r=>by
  erw[ye]at l;let⟨y,ys,rfl,ry,l⟩:=l;erw[A2,ye];exact⟨y,ys.set j x,rfl,ry,ye.put j l r⟩
theorem zl1(he:PE X a (tE S X ca))(ho:PE X b (tE S X cb))(hi:PE X c (tE S X cc))(hs:swapsWithSole [.Subscript b c px] a pos.line X.env=pure false:=by rfl)(hw:swappedStores [.Subscript b c px] a X.env=pure none:=by rfl)
  (hg:PG X (.Subscript b c px) (yeQ (tE S X cb) (tE S X cc) ycG):=by exact zjv ‹_› ‹_› zfT):PS X (.Assign [.Subscript b c px] a pos) (tS S X (.six cb cc ca)):=
 (zjq he hg hs hw).imp λD σ H ⟨B,φ,st,ρ,rs,re,h⟩=>by
  erw[ex]at h;refine tE.fl rs re h λv' H1 v st1 φ1 s1 rs1 re1 rv h1=>tE.fl rs1 re1 h1 λx' H2 x st2 φ2 s2 rs2 re2 rx h2=>tE.fl rs2 re2 h2 λy' H3 y st3 φ3 s3 rs3 re3 ry h3=>?_
  cases e:ybk st3 x y v with
  |none=>rw[e]at h3;exact h3.elim
  |some st4=>
   rw[e]at h3;let⟨n,xs,k,j,rfl,hn,rfl,hj,rfl⟩:=ziX e;erw[yd]at ry;subst ry;let⟨l,ys,rfl,hp,hx,lr⟩:=rs3.list (rx.step s3) hn;refine⟨l,ys,k,j,rfl,rfl,hx,by rw[<-lr.length];exact hj,?_⟩;have s4:Step φ3 H3 φ3 (L2.upd H3 l (.lst (ys.set j v'))):=.put (A4 hp);exact h3 σ _ φ3 s4 (rs3.put hp ⟨_,zp,(lr.put j ((rv.step s2).step s3)).step s4⟩) (re3.step s4)
end
section
variable {S:Se}{X:Cx}{σ:St}{B:AI->Prop}{φ:Ph}{H:Hp}{st:SO}{p pos p2 px py pt pt2 apos:CH}{a b c d o:AS}{ca cb cc:Ce}{kt k2:Nat}
theorem zmj{i j:Nat}{x y:AQ}(hc:X.calm=AB)(hN:X.N.Nodup)(hi:X.N[i]?=AA x)(hj:X.N[j]?=AA y)(hij:i≠j)(h:PS X (.Assign [.Tuple [.Name x px,.Name y py] kt pt] (.Tuple [a,b] k2 pt2) pos) (yeR i j (tAs S X (.cons ca (.cons cb .nil))))):
  PS X (.Assign [.Tuple [.Name x px,.Name y py] kt pt] (.Tuple [a,b] k2 pt2) pos) (tS S X (.asg (.t [i,j]) (.tup (.cons ca (.cons cb .nil))))):=
 h.imp λD σ H ⟨B,φ,st,ρ,rs,re,h⟩=>by
  erw[ex,ev]at h;refine⟨B,φ,st,ρ,rs,re,?_⟩
  cases e:evs S.call ρ st (.cons ca (.cons cb .nil))with
  |bad=>rw[e]at h;exact h
  |exc k st'=>rw[e]at h;exact λe s' x=>h σ φ H e s' .rfl re x
  |ok vs st'=>
   rw[e]at h;intro xs H' φ' s rs' l;erw[R.bind]at h;split at h
   .rcases vs with _|⟨v,_|⟨w,_|⟨u,t⟩⟩⟩
    .exact h.elim
    .exact h.elim
    .let⟨v',w',rfl,rv,rw⟩:=l.two;refine⟨v',w',rfl,?_⟩;exact h _ H' φ' s rs' (((re.step s).set i rv).set j rw)
    .exact h.elim
   .exact h.elim
theorem zkM{bo:BOp}{v w z:PV}(h:ybv bo v w=AA z):∃i j,v=.int i/\w=.int j/\IC.binI bo i j=AA z:=by
 unfold ybv at h;split at h
 .exact⟨_,_,rfl,rfl,h⟩
 .cases h
theorem zld:PIp X .Add (rT2 S X (ybv .add)):=by
 rintro pins s σ H x y v u Q I rx ry ⟨B,φ,st,a,b,z,rs,ra,rb,e,q⟩
 let⟨i,j,rfl,rfl,e⟩:=zkM e
 cases e
 erw[yd]at ra rb;subst ra rb;exact zls pins s σ H _ _ v u Q I rx ry ⟨i,j,rfl,rfl,q _ H φ .rfl rs (by erw[yd])⟩
end
end L2
namespace WK
open PySem L2 IC
def GC(K:AE)(mg:AQ->Option AF)(cl:Nat->AI)(x:AQ)(v:PV):Prop:=∃y:AI,mg x=AA (.ref y)/\∀B φ H,yd K cl B φ H v (.ref y)
theorem znS{S:Se}{X:Cx}{x:AQ}{v:PV}{pos:CH}(hg:Gl X x)(h:GC X.K X.mg S.cl x v)(hd:(x==("__debug__":AQ))=false:=by decide):PE X (.Name x pos) (tE S X (.cst v)):=by
 let⟨y,hm,hk⟩:=h;exact zjU hg hm hk hd
theorem zjF:bootBuiltins "int"=AA (.type "int"):=by decide +kernel
theorem zkl:bootBuiltins "bool"=AA (.type "bool"):=by decide +kernel
theorem zmT:bootBuiltins "str"=AA (.type "str"):=by decide +kernel
theorem zfI:bootBuiltins "tuple"=AA (.type "tuple"):=by decide +kernel
theorem zln:bootBuiltins "len"=AA (.builtin "len"):=by decide +kernel
theorem zmV:bootBuiltins "abs"=AA (.builtin "abs"):=by decide +kernel
theorem znl:bootBuiltins "max"=AA (.builtin "max"):=by decide +kernel
theorem zlM:bootBuiltins "all"=AA (.builtin "all"):=by decide +kernel
theorem zkb{k:Nat}{A:Am}(r:yan k A):A.units+1<cLine:=by have:=r.units;lia
end WK
namespace L2
open PySem PySem.Spec PyProof.Rows IC
noncomputable def shC:Sum Ce Int->Option Int
 |.inl _=>AC
 |.inr i=>AA i
noncomputable def yaK:List (Option Int)->List V->List V
 |[],_=>[]
 |some i::r,zs=>.int i::yaK r zs
 |none::r,z::zs=>z::yaK r zs
 |none::_,[]=>[]
noncomputable def pick:List (Option Int)->List V->List V
 |none::r,v::vs=>v::pick r vs
 |some _::r,_::vs=>pick r vs
 |_,_=>[]
noncomputable def nKw:List (Option Int)->Nat
 |[]=>0
 |none::r=>nKw r+1
 |some _::r=>nKw r
noncomputable def ycE:Ces->Nat
 |.nil=>0
 |.cons _ r=>ycE r+1
def gK(np:Nat)(sh:List (Option Int))(vs zs:List V):List V:=if vs.length=np/\zs.length=nKw sh then vs++yaK sh zs else []
theorem zg8{call:Nat->List PV->SO->R PV}{ρ:IC.Env}:∀(a:Ces) {st st':SO} {vs:List PV},evs call ρ st a=.ok vs st'->vs.length=ycE a
 |.nil,st,st',vs,h=>by erw[evs]at h;cases h;rfl
 |.cons e r,st,st',vs,h=>by
  erw[evs]at h
  cases q:ev call ρ st e with
  |ok v s1=>
   rw[q]at h;erw[R.bind]at h
   cases q2:evs call ρ s1 r with
   |ok ws s2=>
    rw[q2]at h
    cases h
    simp[ycE,zg8 r q2]
   |exc c s=>rw[q2]at h;cases h
   |bad=>rw[q2]at h;cases h
  |exc c s=>rw[q]at h;cases h
  |bad=>rw[q]at h;cases h
theorem zhO{call:Nat->List PV->SO->R PV}{ρ:IC.Env}:∀(a b:Ces) (st:SO),evs call ρ st (yac a b)=(evs call ρ st a).bind λvs st1=>(evs call ρ st1 b).bind λws st2=>.ok (vs++ws) st2
 |.nil,b,st=>by
  erw[yac,evs,R.bind,Aw]
  cases evs call ρ st b<;>rfl
 |.cons e r,b,st=>by
  erw[yac,evs]
  cases ev call ρ st e with
  |ok v st1=>
   erw[R.bind];rw[zhO r b st1]
   cases evs call ρ st1 r with
   |ok vs st2=>
    erw[R.bind]
    cases evs call ρ st2 b<;>rfl
   |exc c s=>rfl
   |bad=>rfl
  |exc c s=>rfl
  |bad=>rfl
section
variable {S:Se}{X:Cx}{k:Nat}{f:AI}{fd:Az}{ps ks:List AQ}{sp:Sp}{x:AQ}{p pos kpos:CH}{e:AS}{es:List AS}{kws:List CQ}{nm:Option AQ}{t tk:TA}{CX:CXT}{ca:Ce}{ces:Ces}{items:List (Sum Ce Int)}{g:List AF->List AF->List AF}{gV:List V->List V->List V}
theorem zbI{K:AE}{cl:Nat->AI}{B:AI->Prop}{φ:Ph}{H:Hp}{call:Nat->List PV->SO->R PV}{ρ:IC.Env}:∀(items:List (Sum Ce Int)) {st st':SO} {vs:List PV} {xs:List V},evs call ρ st (yp items)=.ok vs st'->ye K cl B φ H vs xs->yaK (items.map shC) (pick (items.map shC) xs)=xs/\(pick (items.map shC) xs).length=nKw (items.map shC)
 |[],st,st',vs,xs,h,l=>by
  erw[yp,evs]at h
  cases h
  erw[ye]at l;subst l;exact⟨rfl,rfl⟩
 |.inl c::r,st,st',vs,xs,h,l=>by
  erw[yp,evs]at h;let⟨v,s1,e1,h⟩:=zaL h;let⟨ws,s2,e2,h⟩:=zaL h
  cases h
  erw[ye]at l;let⟨y,ys,rfl,_,l⟩:=l;let⟨q1,q2⟩:=zbI r e2 l;erw[AO,shC,pick,yaK,nKw,AT,q1,q2];exact⟨trivial,trivial⟩
 |.inr i::r,st,st',vs,xs,h,l=>by
  erw[yp,evs,ev]at h;let⟨v,s1,e1,h⟩:=zaL h;let⟨ws,s2,e2,h⟩:=zaL h
  cases h
  cases e1
  erw[ye,yd]at l;let⟨y,ys,rfl,rfl,l⟩:=l;let⟨q1,q2⟩:=zbI r e2 l;erw[AO,shC,pick,yaK,nKw,q1,q2];exact⟨trivial,trivial⟩
def tK(S:Se)(X:Cx)(items:List (Sum Ce Int)):TA:=λσ H Q=>∃B φ st ρ,yt X.K S.cl B φ H st/\yI X.K S.cl B φ H ρ σ/\Run S X σ B φ H (RL S X B) (evs S.call ρ st (yp items)) λxs H'=>Q (pick (items.map shC) xs) H'
theorem PK.imp{t t':TA}(h:PK X kws t')(k:∀σ H Q,t σ H Q->t' σ H Q):PK X kws t:=λpos pins s σ H Q I q=>h pos pins s σ H Q I (k σ H Q q)
theorem zmX:PK X [] (tK S X []):=yda.imp λσ H Q ⟨B,φ,st,ρ,rs,re,h⟩=>by
 erw[yp,evs]at h;exact h.ok rs (x:=[]) (by erw[ye])
theorem zn3{i:Int}(h:PK X kws (tK S X items)):PK X kws (tK S X (.inr i::items)):=h.imp λσ H Q ⟨B,φ,st,ρ,rs,re,h⟩=>by
 erw[yp,evs,ev,R.bind]at h;refine⟨B,φ,st,ρ,rs,re,?_⟩
 cases e:evs S.call ρ st (yp items)with
 |ok vs st'=>
  rw[e]at h;intro xs H' φ' s rs' l;exact h (.int i::xs) H' φ' s rs' (by erw[ye,yd];exact⟨_,_,rfl,rfl,l⟩)
 |exc c s=>rw[e]at h;exact h
 |bad=>rw[e]at h;exact h
theorem zoc(ha:PE X e (tE S X ca))(h:PK X kws (tK S X items)):PK X (⟨nm,e,kpos⟩ :: kws) (tK S X (.inl ca::items)):=(zkY ha h).imp λσ H Q ⟨B,φ,st,ρ,rs,re,h⟩=>by
 erw[yp,evs]at h;refine tE.bind rs re h λx H1 v st1 φ1 s1 rs1 re1 rv h1=>⟨B,φ1,st1,ρ,rs1,re1,?_⟩;refine(Run.bind (Rel:=RL S X B) h1).mono λxs H2 kq=>?_;let⟨ws,st2,φ2,s2,rs2,l,h2⟩:=kq;exact h2.ok rs2 (x:=x::xs) (by erw[ye];exact⟨x,xs,rfl,rv.step s2,l⟩)
theorem ziN{fi:Nat}(F:yaE X.prog X.w X.K X.mg X.base (CX1 X.prog X.w) k f fd ps (spI X.K S.cl S.call fi))(hr:yan k X.A)(hg:Gl X x)(hm:X.mg x=AA (.ref f))(hk:An X.K (.ref f)=AB){np:Nat}(hb:∃g,ybr X.K fd ps ks g (gK np (items.map shC)))(hnp:ycE ces=np)
  (ha:PA X (e::es) (tAs S X ces)) (hkw:PK X kws (tK S X items)) (hall:(backToKw pos (keywordEach kws X.env)).all (·.1.isSome)=true:=by rfl) (hks:(backToKw pos (keywordEach kws X.env)).filterMap (·.1)=ks:=by rfl)
  (hdb:(x==("__debug__":AQ))=false:=by decide) (he:starEach (e::es) X.env=(AD,eval e X.env)::starEach es X.env:=by rfl)
  (hpl:((backTo pos (starEach (e::es) X.env)).any (·.1) || (backToKw pos (keywordEach kws X.env)).any (·.1.isNone))=false:=by rfl):
  PE X (.Call (.Name x p) (e::es) kws pos) (tE S X (.call fi (yac ces (yp items)))):=by
 intro pins s σ H Q I ⟨B,φ,st,ρ,rs,re,h⟩;erw[ev]at h;rw[zhO,R.bind_assoc]at h;refine BT (zco I hg hm ?_ hdb);have h0:tAs S X ces σ H λvs H1=>tK S X items σ H1 λzs H2=>∃E:XK,spI X.K S.cl S.call fi (gK np (items.map shC) vs zs) H2 Q E/\∀pins s e s',Inv X pins σ H2 s->CX1 X.prog X.w X.stack H2 s E e s'->X.xe e s':=by
  have hlen:∀vs st',evs S.call ρ st ces=.ok vs st'->vs.length=np:=λvs st' q=>(zg8 ces q).trans hnp;refine⟨B,φ,st,ρ,rs,re,?_⟩
  cases q:evs S.call ρ st ces with
  |exc c s=>rw[q]at h;exact h
  |bad=>rw[q]at h;exact h
  |ok vs st1=>
  rw[q]at h;intro xs H1 φ1 s1 rs1 rv;have h1:=Run.on s1 h;have re1:=re.step s1;have hv:=hlen vs st1 q;refine⟨B,φ1,st1,ρ,rs1,re1,?_⟩;have h1:Run S X σ B φ1 H1 (RV S X B) (((evs S.call ρ st1 (yp items)).bind λa st=>(R.ok (vs++a) st:R (List PV))).bind λvs st1=>S.call fi vs st1) Q:=h1;rw[R.bind_assoc]at h1
  cases e:evs S.call ρ st1 (yp items)with
  |ok ws st2=>
   rw[e]at h1;intro ys H2 φ2 s2 rs2 l2;let⟨m1,m2⟩:=zbI items e l2;have eg:gK np (items.map shC) xs (pick (items.map shC) ys)=xs++ys:=by
    unfold gK;rw[if_pos ⟨by rw[<-rv.length];exact hv,m2⟩,m1]
   show ∃E:XK,spI X.K S.cl S.call fi (gK np (items.map shC) xs (pick (items.map shC) ys)) H2 Q E/\_;rw[eg];exact zaH rs2 ((rv.step s2).append l2) (Run.on s2 h1)
  |exc c s=>rw[e]at h1;exact h1
  |bad=>rw[e]at h1;exact h1
 refine PySem.W.callWith_KW (h₀:=X.base) I.ok.mod.kin hk hall (thn (ha pos pins s σ H _ I h0) λus s1 kq=>?_) hpl he;let⟨vs,H1,I1,r,q⟩:=kq;refine thn (hkw pos pins s1 σ H1 _ I1 q) λws s2 kq=>?_;let⟨zs,H2,I2,rz,E,q2,hx⟩:=kq;refine ⟨I2.kIn,?_⟩;rw[hks];let⟨g,hb⟩:=hb;have r2:=hb.rel r rz;have hl:(g us ws).length=ps.length:=by rw[<-r2.length];exact F.len _ _ _ _ q2
 refine G3 (D7 (F.run X.A X.stack s2 H2 ⟨us,ks.zip ws⟩ (g us ws) (gK np (items.map shC) vs zs) Q E hr I2.env0 (hb.to s2 us ws I2.kIn hl) r2 q2) λr s' hq=>?_)
 cases r with
 |error e=>exact hx pins s2 e s' I2 hq
 |ok fl=>
  cases fl with
  |ret u=>exact I2.after hq
  |next=>exact Bg hq
  |brk=>exact Bg hq
  |cont=>exact Bg hq
end
noncomputable def yaT:List (Option Int)->List AF->List AF->List AF
 |[],_,_=>[]
 |some _::r,ws,d::ds=>d::yaT r ws ds
 |none::r,w::ws,_::ds=>w::yaT r ws ds
 |_,_,_=>[]
theorem zcM:∀(sh:List (Option Int)) (ds:List Int) {zs:List V} {ws us:List AF},Vals (ds.map V.int) us->Vals zs ws->sh.length=ds.length->(∀p∈sh.zip ds,∀i,p.1=AA i->i=p.2)->Vals (yaK sh zs) (yaT sh ws us)
 |[],ds,zs,ws,us,r,q,hl,h=>.nil
 |some i::r,[],zs,ws,us,rr,q,hl,h=>by simp at hl
 |some i::r,d::ds,zs,ws,_,.cons a b,q,hl,h=>by
  have:i=d:=h (AA i,d) (by simp) i rfl;subst this;exact .cons a (zcM r ds b q (by simpa using hl) λp hp=>h p (by simp[hp]))
 |none::r,[],zs,ws,us,rr,q,hl,h=>by simp at hl
 |none::r,d::ds,_,_,_,.cons a b,.nil,hl,h=>.nil
 |none::r,d::ds,_,_,_,.cons a b,.cons c q,hl,h=>.cons c (zcM r ds b q (by simpa using hl) λp hp=>h p (by simp[hp]))
structure FnD(K:AE)(mg:AQ->Option AF)(x:AQ)(st:Bn)(ps:List AQ)(ds:List Int)(f:AI)(fd:Az):Prop where
 ex:∃(oc:AF) (od:Option AI) (dT:AI) (kV doc pm:AF) (an:Option AI) (cdv ct:AF) (osl:Array (Option AF)) (o:Bs) (its:Array AF) (n:Nat),
  fd=BX x x (yZ st) (yS st) (yw st) (.ref dT) kV doc pm an cdv ct/\K.lookup f=AA ⟨oc,od,.func fd,osl⟩/\CA K cdv x=AB/\K.lookup dT=AA o/\o.data=.seq its n/\Vals (ds.map V.int) its.toList
 kp:An K (.ref f)=AB
 m:mg x=AA (.ref f)
theorem kbD{K:AE}{mg:AQ->Option AF}{x:AQ}{st:Bn}{ps ks:List AQ}{ds:List Int}{f:AI}{fd:Az}{np off:Nat}{sh:List (Option Int)}(D:FnD K mg x st ps ds f fd)(hnk:ks.length=nKw sh)(hsh:sh.length=(ds.drop off).length)(hd':((sh.zip (ds.drop off)).all λp=>p.1.all λi=>decide (i=p.2))=AB)
  (h:∀(dT:AI) (kV doc pm:AF) (an:Option AI) (cdv ct:AF) (us ws its:List AF),us.length=np->ws.length=ks.length->its.length=ds.length ->
   ∃k,bindArgs (BX x x (yZ st) (yS st) (yw st) (.ref dT) kV doc pm an cdv ct) ⟨us,ks.zip ws⟩=seqItems? (.ref dT) >>= k/\k (AA its.toArray)=pure (ps.zip (us++yaT sh ws (its.drop off)))) (hps:0<ps.length):
  ∃g,ybr K fd ps ks g (gK np sh):=by
 have hd:∀p∈sh.zip (ds.drop off),∀i,p.1=AA i->i=p.2:=λp hp i hi=>by
  have:=Bb.mp hd' p hp;rw[hi]at this;simpa using this
 let⟨oc,od,dT,kV,doc,pm,an,cdv,ct,osl,o,its,n,rfl,lk,hcd,lo,hs,r⟩:=D.ex;refine⟨λus ws=>if us.length=np/\ws.length=nKw sh then us++yaT sh ws (its.toList.drop off)else [],⟨λs us ws KX hl=>?_,λ{vs us zs ws} rv rz=>?_⟩⟩
 .by_cases c:us.length=np/\ws.length=nKw sh
  .rw[if_pos c]at hl ⊢;let⟨k,h1,h2⟩:=h dT kV doc pm an cdv ct us ws its.toList c.1 (by rw[hnk];exact c.2) (by rw[<-r.length,BK]);exact BindsTo.of_defaults rfl (KX _ _ lo) hs h1 (by simpa using h2)
  .rw[if_neg c]at hl;simp at hl;lia
 .unfold gK;have e1:=rv.length;have e2:=rz.length
  by_cases c:us.length=np/\ws.length=nKw sh
  .rw[if_pos c,if_pos (by lia)];refine rv.append (zcM sh (ds.drop off) ?_ rz hsh hd);rw[List.map_drop];exact r.drop off
  .rw[if_neg c,if_neg (by lia)];exact .nil
section
variable {P:A7}{w:Ag}{K:AE}{mg:AQ->Option AF}{base:Ay}{cl:Nat->AI}{T:Nat->Option IC.Fn}{fi:Nat}{fn:IC.Fn}{x:AQ}{stm:Bn}{f:AI}{fd:Az}{N ps:List AQ}{ds:List Int}{k:Nat}
end
theorem zdO(a b:Key):peq (yaD a) (yaD b)=decide (a=b):=by
 rw[Cu]
 cases a<;>cases b<;>simp[yaD,peq]
theorem zfE:∀(a b:List Key),ya6 (a.map yaD) (b.map yaD)=decide (a=b)
 |[],[]=>by simp[ya6]
 |[],y::ys=>by simp[ya6]
 |x::xs,[]=>by simp[ya6]
 |x::xs,y::ys=>by
  erw[AO,ya6,zdO,zfE xs ys];rw[Cu];simp
theorem zdw(a b:List Key):peq (.tup (a.map yaD)) (.tup (b.map yaD))=decide (a=b):=by
 erw[peq,zfE]
theorem zhs{k:PV}(h:ybn k=AB):∃q,k=yaD q:=by
 cases k with
 |int i=>exact⟨.inl i,rfl⟩
 |str i=>exact⟨.inr i,rfl⟩
 |_=>cases h
theorem zgx:∀{ks:List PV},ks.all ybn=AB->∃qs:List Key,ks=qs.map yaD
 |[],_=>⟨[],rfl⟩
 |k::ks,h=>by
  rw[B5,AK]at h;let⟨q,rfl⟩:=zhs h.1;let⟨qs,rfl⟩:=zgx h.2;exact⟨q::qs,rfl⟩
section
variable {S:Se}{X:Cx}{K:AE}{cl:Nat->AI}{σ:St}{B:AI->Prop}{φ:Ph}{H:Hp}{st:SO}{p pos p2 px apos:CH}{a b c d o:AS}{ca cb cc:Ce}
theorem yaW{q:Key}{x:V}:yd K cl B φ H (yaD q) x ↔ x=kV q:=by
 cases q<;>simp[yaD,yd,kV]
theorem zer:∀{qs:List Key} {xs:List V},ye K cl B φ H (qs.map yaD) xs->xs=qs.map kV
 |[],xs,l=>by simpa only[Ar,ye] using l
 |q::qs,xs,l=>by
  erw[AO,ye]at l;let⟨y,ys,rfl,r,l⟩:=l;rw[yaW.mp r,zer l];rfl
theorem DK.look{q:Key}:∀{kvs:List (PV×PV)} {ks:List (Key×V)},DK K cl B φ H kvs ks->∀{v:PV} {x:V},yd K cl B φ H v x->yd K cl B φ H ((IC.look (yaD q) kvs).getD v) ((ybl ks q).getD x)
 |[],ks,h,v,x,r=>by cases h;exact r
 |(k,w)::t,ks,h,v,x,r=>by
  let⟨q',y,s,rfl,rfl,rv,l⟩:=h;erw[IC.look,zdO]
  by_cases e:q'=q
  .rw[zbH (p:=(q',y)) e];simp[e,rv]
  .rw[zbt (p:=(q',y)) e];erw[decide_eq_true_eq,e,if_false];exact DK.look l r
theorem DT.look{q:List Key}:∀{kvs:List (PV×PV)} {ks:List (List Key×V)},DT K cl B φ H kvs ks->∀{v:PV} {x:V},yd K cl B φ H v x->yd K cl B φ H ((IC.look (.tup (q.map yaD)) kvs).getD v) ((ybl ks q).getD x)
 |[],ks,h,v,x,r=>by cases h;exact r
 |(k,w)::t,ks,h,v,x,r=>by
  let⟨q',y,s,rfl,rfl,rv,l⟩:=h;erw[IC.look,zdw]
  by_cases e:q'=q
  .rw[zbH (p:=(q',y)) e];simp[e,rv]
  .rw[zbt (p:=(q',y)) e];erw[decide_eq_true_eq,e,if_false];exact DT.look l r
theorem DK.any{q:Key}:∀{kvs:List (PV×PV)} {ks:List (Key×V)},DK K cl B φ H kvs ks->(kvs.any λp=>peq p.1 (yaD q))=ks.any λkv=>decide (kv.1=q)
 |[],ks,h=>by cases h;rfl
 |(k,w)::t,ks,h=>by
  let⟨q',y,s,rfl,rfl,rv,l⟩:=h;erw[BH,zdO,DK.any l]
theorem DT.any{q:List Key}:∀{kvs:List (PV×PV)} {ks:List (List Key×V)},DT K cl B φ H kvs ks->(kvs.any λp=>peq p.1 (.tup (q.map yaD)))=ks.any λkv=>decide (kv.1=q)
 |[],ks,h=>by cases h;rfl
 |(k,w)::t,ks,h=>by
  let⟨q',y,s,rfl,rfl,rv,l⟩:=h;erw[BH,zdw,DT.any l]
theorem DK.map{q:Key}{v:PV}{x:V}(r:yd K cl B φ H v x):∀{kvs:List (PV×PV)} {ks:List (Key×V)},DK K cl B φ H kvs ks->DK K cl B φ H (kvs.map λp=>if peq p.1 (yaD q)=AB then(p.1,v)else p) (ks.map λkv=>if kv.1=q then(kv.1,x)else kv)
 |[],ks,h=>by cases h;exact rfl
 |(k,w)::t,ks,h=>by
  let⟨q',y,s,rfl,rfl,rv,l⟩:=h;erw[AO,zdO,decide_eq_true_eq]
  by_cases e:q'=q
  .simp only[e,if_true];exact⟨q,x,_,rfl,rfl,r,DK.map r l⟩
  .simp only[e,if_false];exact⟨q',y,_,rfl,rfl,rv,DK.map r l⟩
theorem DT.map{q:List Key}{v:PV}{x:V}(r:yd K cl B φ H v x):∀{kvs:List (PV×PV)} {ks:List (List Key×V)},DT K cl B φ H kvs ks->DT K cl B φ H (kvs.map λp=>if peq p.1 (.tup (q.map yaD))=AB then(p.1,v)else p) (ks.map λkv=>if kv.1=q then(kv.1,x)else kv)
 |[],ks,h=>by cases h;exact rfl
 |(k,w)::t,ks,h=>by
  let⟨q',y,s,rfl,rfl,rv,l⟩:=h;erw[AO,zdw,decide_eq_true_eq]
  by_cases e:q'=q
  .simp only[e,if_true];exact⟨q,x,_,rfl,rfl,r,DT.map r l⟩
  .simp only[e,if_false];exact⟨q',y,_,rfl,rfl,rv,DT.map r l⟩
theorem DK.snoc{q:Key}{v:PV}{x:V}(r:yd K cl B φ H v x):∀{kvs:List (PV×PV)} {ks:List (Key×V)},DK K cl B φ H kvs ks->DK K cl B φ H (kvs++[(yaD q,v)]) (ks++[(q,x)])
 |[],ks,h=>by cases h;exact⟨q,x,[],rfl,rfl,r,rfl⟩
 |(k,w)::t,ks,h=>by
  let⟨q',y,s,rfl,rfl,rv,l⟩:=h;exact⟨q',y,_,rfl,rfl,rv,DK.snoc r l⟩
theorem DT.snoc{q:List Key}{v:PV}{x:V}(r:yd K cl B φ H v x):∀{kvs:List (PV×PV)} {ks:List (List Key×V)},DT K cl B φ H kvs ks->DT K cl B φ H (kvs++[(.tup (q.map yaD),v)]) (ks++[(q,x)])
 |[],ks,h=>by cases h;exact⟨q,x,[],rfl,rfl,r,rfl⟩
 |(k,w)::t,ks,h=>by
  let⟨q',y,s,rfl,rfl,rv,l⟩:=h;exact⟨q',y,_,rfl,rfl,rv,DT.snoc r l⟩
theorem DK.put{q:Key}{v:PV}{x:V}{kvs:List (PV×PV)}{ks:List (Key×V)}(l:DK K cl B φ H kvs ks)(r:yd K cl B φ H v x):DK K cl B φ H (IC.put (yaD q) v kvs) (putK ks q x):=by
 unfold IC.put putK;rw[DK.any l];split
 .exact DK.map r l
 .exact DK.snoc r l
theorem DT.put{q:List Key}{v:PV}{x:V}{kvs:List (PV×PV)}{ks:List (List Key×V)}(l:DT K cl B φ H kvs ks)(r:yd K cl B φ H v x):DT K cl B φ H (IC.put (.tup (q.map yaD)) v kvs) (putK ks q x):=by
 unfold IC.put putK;rw[DT.any l];split
 .exact DT.map r l
 .exact DT.snoc r l
theorem DK.len:∀{kvs:List (PV×PV)} {ks:List (Key×V)},DK K cl B φ H kvs ks->kvs.length=ks.length
 |[],ks,h=>by cases h;rfl
 |(k,w)::t,ks,h=>by
  let⟨q',y,s,rfl,rfl,rv,l⟩:=h;simp[DK.len l]
theorem DT.len:∀{kvs:List (PV×PV)} {ks:List (List Key×V)},DT K cl B φ H kvs ks->kvs.length=ks.length
 |[],ks,h=>by cases h;rfl
 |(k,w)::t,ks,h=>by
  let⟨q',y,s,rfl,rfl,rv,l⟩:=h;simp[DT.len l]
theorem yt.dct{n:Nat}{t:Bool}{kvs:List (PV×PV)}{x:V}(rs:yt K cl B φ H st)(r:yd K cl B φ H (.loc n) x)(h:st[n]?=AA (.dct t kvs)):∃y,x=.ref y/\φ[n]?=AA (AA y)/\ybU K cl B φ H (.dct t kvs) y:=by
 erw[yd]at r;let⟨hn,y,rfl,ha⟩:=r;let⟨z,hz⟩:=rs.liv n _ h (by intro z;cases z);obtain rfl:=ha z hz;let⟨o,ho,ro⟩:=rs.obj n z hz;rw[h]at ho;cases ho;exact⟨z,rfl,hz,ro⟩
theorem zeu{v:PV}{t:Bool}{kvs:List (PV×PV)}(h:yaZ st v=AA (t,kvs)):∃n,v=.loc n/\st[n]?=AA (.dct t kvs):=by
 cases v with
 |loc n=>
  erw[yaZ]at h;split at h
  .rename_i t' xs q
   cases h
   exact⟨n,rfl,q⟩
  .cases h
 |_=>cases h
theorem zgX{k:PV}(h:isKey AD k=AB):∃q,k=yaD q:=zhs h
theorem zhT{k:PV}(h:isKey AB k=AB):∃q:List Key,k=.tup (q.map yaD):=by
 cases k with
 |tp b xs=>
  cases b with
  |false=>
   let⟨qs,rfl⟩:=zgx h;exact⟨qs,rfl⟩
  |true=>cases h
 |_=>cases h
theorem zgO{q:List Key}{x:V}(r:yd K cl B φ H (.tup (q.map yaD)) x):∃y,x=.ref y/\H y=AA (.tup (q.map kV)):=by
 erw[yd]at r;let⟨y,xs,rfl,rt,l⟩:=r;rcases rt with⟨rt,_⟩|⟨z,_⟩
 .exact⟨y,rfl,by rw[rt,zer l]⟩
 .cases z
theorem zhe:PE X (.Dict [] [] pos) (tE S X (.dict0 AB)):=ybS.imp λσ H Q ⟨B,φ,st,ρ,rs,re,h⟩=>by
 erw[ev]at h;exact λp hp=>h _ _ (φ++[AA p]) (.push hp) (rs.push hp (rs.nB hp) ⟨[],zp,rfl⟩) (.loc_new rs)
theorem znx(hu:X.A.units+1<cLine)(ha:PE X a (tE S X ca))(hb:PE X b (tE S X cb))(hc:PE X c (tE S X cc))(m:M2 X a "get" apos b c pos:=by exact⟨rfl,rfl,rfl,rfl⟩):PE X (.Call (.Attribute a "get" apos) [b,c] [] pos) (tE S X (.mth .get ca (.cons cb (.cons cc .nil)))):=
 (zia hu ha hb hc m).imp λσ H Q ⟨B,φ,st,ρ,rs,re,h⟩=>by
  erw[ev]at h;refine tE.bind rs re h λx H1 v st1 φ1 s1 rs1 re1 rv h1=>?_;let⟨_,e1,h1⟩:=zhS h1;erw[yaO]at e1
  cases q:yaZ st1 v with
  |none=>rw[q]at e1;cases e1
  |some tk=>
   let⟨t,kvs⟩:=tk;let⟨n,rfl,hn⟩:=zeu q;let⟨y,rfl,hy,ro⟩:=rs1.dct rv hn;refine⟨y,rfl,?_,?_⟩
   .cases t with
    |false=>let⟨ks,hk,_⟩:=ro;exact .inl ⟨ks,.inl hk⟩
    |true=>let⟨ks,hk,_⟩:=ro;exact .inr ⟨ks,.inl hk⟩
   .simp only[evs,R.bind_assoc]at h1;refine tE.bind rs1 re1 h1 λkx H2 kv st2 φ2 s2 rs2 re2 rk h2=>tE.bind rs2 re2 h2 λdx H3 dv st3 φ3 s3 rs3 re3 rd h3=>?_;erw[R.bind]at h3;unfold ycl at h3;erw[ydm]at h3
    cases q3:yaZ st3 (.loc n)with
    |none=>rw[q3]at h3;exact h3.elim
    |some tk3=>
     let⟨t3,kvs3⟩:=tk3;rw[q3]at h3;dsimp only at h3;split at h3
     .rename_i hk;let⟨n',e',hn3⟩:=zeu q3
      cases e'
      let⟨y3,ey,hy3,ro3⟩:=rs3.dct ((rv.step s2).step s3) hn3
      cases ey
      have rk3:=rk.step s3
      cases t3 with
      |false=>
       let⟨q,rfl⟩:=zgX hk;let⟨ks,hks,l⟩:=ro3;refine⟨ybl ks q,.inl ⟨ks,q,.inl hks,yaW.mp rk3,rfl⟩,h3.ok rs3 (DK.look l rd)⟩
      |true=>
       let⟨q,rfl⟩:=zhT hk;let⟨ks,hks,l⟩:=ro3;let⟨b',rfl,hb'⟩:=zgO rk3;exact⟨ybl ks q,.inr ⟨ks,q,b',.inl hks,rfl,hb',rfl⟩,h3.ok rs3 (DT.look l rd)⟩
     .exact h3.elim
theorem zhM{st4:SO}{x y v:PV}(h:ya0 st x y v=AA st4):∃n t kvs,x=.loc n/\st[n]?=AA (.dct t kvs)/\isKey t y=AB/\kvs.length<1000000/\st4=st.set n (.dct t (IC.put y v kvs)):=by
 cases x with
 |loc n=>
  erw[ya0]at h;split at h
  .rename_i t kvs q;split at h
   .rename_i c;exact⟨n,t,kvs,rfl,q,c.1,c.2,(AY h).symm⟩
   .cases h
  .cases h
 |_=>cases h
theorem zk3(hu:X.A.units+1<cLine)(ho:PE X b (tE S X cb))(hi:PE X c (tE S X cc))(hv:PE X a (tE S X ca))(hs:swapsWith a (AA (.Subscript b c px)) pos.line X.env=pure false:=by rfl):PS X (.Assign [.Subscript b c px] a pos) (tS S X (.dput cb cc ca)):=
 (zkN hu ho hi hv hs).imp λD σ H ⟨B,φ,st,ρ,rs,re,h⟩=>by
  erw[ex]at h;refine tE.fl rs re h λv' H1 v st1 φ1 s1 rs1 re1 rv h1=>tE.fl rs1 re1 h1 λx' H2 x st2 φ2 s2 rs2 re2 rx h2=>tE.fl rs2 re2 h2 λy' H3 y st3 φ3 s3 rs3 re3 ry h3=>?_
  cases e:ya0 st3 x y v with
  |none=>rw[e]at h3;exact h3.elim
  |some st4=>
   rw[e]at h3;let⟨n,t,kvs,rfl,hn,hk,hl,rfl⟩:=zhM e;let⟨l,rfl,hp,ro⟩:=rs3.dct (rx.step s3) hn;have rv3:=(rv.step s2).step s3;have hm:=ybC
   cases t with
   |false=>
    let⟨q,rfl⟩:=zgX hk;let⟨ks,hks,ld⟩:=ro;have s4:Step φ3 H3 φ3 (L2.upd H3 l (.dK (putK ks q v'))):=.put (A4 hp);refine⟨l,_,rfl,.inl ⟨ks,q,hks,yaW.mp ry,by have:=ld.len;lia,rfl⟩,h3 σ _ φ3 s4 (rs3.put hp ⟨_,zp,(ld.put rv3).step s4⟩) (re3.step s4)⟩
   |true=>
    let⟨q,rfl⟩:=zhT hk;let⟨ks,hks,ld⟩:=ro;let⟨b',rfl,hb'⟩:=zgO ry;have s4:Step φ3 H3 φ3 (L2.upd H3 l (.dT (putK ks q v'))):=.put (A4 hp);refine⟨l,_,rfl,.inr ⟨ks,q,b',hks,rfl,hb',by have:=ld.len;lia,rfl⟩,h3 σ _ φ3 s4 (rs3.put hp ⟨_,zp,(ld.put rv3).step s4⟩) (re3.step s4)⟩
end
section
variable {S:Se}{X:Cx}{σ:St}{B:AI->Prop}{φ:Ph}{H:Hp}{p pos p3 p4:CH}{a b tg:AS}{ca cb:Ce}
end
end L2
namespace WK
open PySem L2 IC
section
variable {K:AE}{cl:Nat->AI}{B:AI->Prop}{φ:Ph}{H:Hp}
theorem zjb:ye K cl B φ H [] []:=by erw[ye]
theorem zgl{v:PV}{x:V}{vs:List PV}{xs:List V}(h:yd K cl B φ H v x)(l:ye K cl B φ H vs xs):ye K cl B φ H (v::vs) (x::xs):=by
 erw[ye];exact⟨x,xs,rfl,h,l⟩
end
theorem zl6{P:A7}{w:Ag}{outer:List BS}{H:Hp}{s:AJ}{e:AF}{s':AJ}(h:CX1 P w outer H s (λ_ _ _=>False) e s'):False:=by
 let⟨_,_,_,_,_,_,_,_,_,_,_,_,_,_,z⟩:=h;exact z
theorem zhk{K:AE}{cl:Nat->AI}{B:AI->Prop}{φ:Ph}{H:Hp}:∀ns:List Int,ye K cl B φ H (ns.map .int) (ns.map V.int)
 |[]=>zjb
 |n::ns=>zgl (by erw[yd]) (zhk ns)
def spX(K:AE)(call:Nat->List PV->SO->R PV)(fi:Nat):Sp:=λvs H Q E=>∀cl,spI K cl call fi vs H Q E
theorem zhQ{K:AE}{call:Nat->List PV->SO->R PV}{fi:Nat}{H:Hp}{a:AI}{ns:List Int}(ht:∀ns:List Int,ns.length<=63->call fi [.scr (ns.map .int)] []=.ok (.bl AB) [])(hl:ns.length<=63)(hS:SqL K H a (ns.map V.int)):
  spX K call fi [.ref a] H (λv _=>v=.bl AB) λ_ _ _=>False:=by
 intro cl;refine⟨λ_=>False,[],[],[.scr (ns.map .int)],⟨rfl,λm n a e=>by simp at e,λn a e=>by simp at e,λn o e=>by simp at e,λa z=>by simp at z,λa z=>z.elim⟩,zgl ?_ zjb,?_⟩
 .simp only[yd];refine⟨a,_,rfl,?_,zhk ns⟩;rcases hS with hS|hS
  .exact .inl ⟨hS,λz=>z,by simp⟩
  .exact .inr hS
 .rw[ht ns hl];intro x H' φ' _ _ r;simpa only[yd] using r
end WK
namespace L2
open PySem PySem.Spec PyProof.Rows IC
theorem zhG{l:List AQ}(h:l.Nodup){i j:Nat}(hi:i<l.length)(hj:j<l.length)(e:l[i]=l[j]):i=j:=by
 rcases Nat.lt_trichotomy i j with q|q|q
 .exact absurd e (Dx.mp h i j hi hj q)
 .exact q
 .exact absurd e.symm (Dx.mp h j i hj hi q)
section
variable {X:Cx}{pins:List (AI×Bs)}{σ:St}{H:Hp}{s:AJ}
theorem Inv.drop{h':Ay}{m:AQ->Option AF}{v:Option AF}{i:Nat}{n:AQ}(I:Inv X pins σ H s)(hN:X.N.Nodup)(hi:X.N[i]?=AA n)(hm:s.heap.Ns X.env.locals m)(look:∀(i:Nat) (x:AQ) (v:V),X.N[i]?=AA x->σ[i]?=AA (AA v)->Vis X.env.scope x->∃u,RelV v u/\Look X.env s.heap m x u)(hs:C1 X.env.locals s.heap h')(hn:h'.Ns X.env.locals (λx=>if x=n then v else m x)):Inv X pins (σ.set i AC) H {s with heap:=h'}:=by
 have k:∀b u,b≠X.env.locals->s.heap.get? b=AA u->h'.get? b=AA u:=λb u hb q=>(hs.2 b hb).trans q;have nl:∀b o,X.s₀.heap.get? b=AA o->b≠X.env.locals:=λb o e=>Ah (A6 (AW e) I.ok.above);refine⟨I.ok,I.os,I.bare,⟨λb o q n hb hx=>k b o (nl b o q) (I.base.keep b o q n hb hx),λb o q n hb hx=>?_,I.base.free,λb o q hx=>?_,I.base.tups,I.base.frzs,I.base.tbls⟩,⟨_,hn,λj x v e1 e2 hv=>?_⟩,λx c e=>?_,I.free,I.freeC,λp hp=>?_,λb u e=>?_,?_⟩
 .let⟨sl,q1⟩:=I.base.slot b o q n hb hx;exact⟨sl,k b _ (nl b o q) q1⟩
 .let⟨o',q1⟩:=I.base.there b o q hx;exact⟨o',k b o' (nl b o q) q1⟩
 .have hj:j≠i:=λz=>by
   subst z;rw[C7]at e2;erw[if_true]at e2;split at e2<;>cases e2
  rw[AR (BI hj)]at e2;have hx:x≠n:=λz=>by
   subst z;let⟨l1,g1⟩:=BE.mp e1;let⟨l2,g2⟩:=BE.mp hi;exact hj (zhG hN l1 l2 (g1.trans g2.symm))
  let⟨u,r,lk⟩:=look j x v e1 e2 hv;refine⟨u,r,?_⟩;rcases lk with⟨q1,q2⟩|⟨q1,c,q2,o,q3,q4⟩
  .exact .inl ⟨q1,by dsimp only;rw[if_neg hx];exact q2⟩
  .exact .inr ⟨q1,c,q2,o,k c o (I.cne x c q2) q3,q4⟩
 .let⟨v,o,ho,hd⟩:=I.cell x c e;exact⟨v,o,k c o (I.cne x c e) ho,hd⟩
 .let⟨q1,q2,q3,q4⟩:=I.pin p hp;exact⟨k _ _ q3 q1,q2,q3,q4⟩
 .refine(I.hok b u e).stay (λc v hc q=>k c v (λz=>?_) q) (λ_ q=>q) λ_ _ q=>q;have fr:=I.free;subst z;rcases hc with z|z
  .rw[z,e]at fr
   cases fr
  .rw[z]at fr
   cases fr
 .rw[BW];exact I.len
end
section
variable {X:Cx}{body suite:List Bn}{b₀:Bn}{x n:AQ}{np hpos pos:CH}{W:AI}{i:Nat}
end
section
variable {S:Se}{X:Cx}{σ:St}{B:AI->Prop}{φ φ1:Ph}{H H1:Hp}{st:SO}{ρ:IC.Env}{D:Ends}{body suite:List Bn}{b₀:Bn}{x n:AQ}{p p2 np hpos pos cpos:CH}{W:AI}{i:Nat}{cb ch:Css}{a e:AS}{es:List AS}{ca ce:Ce}{ces:Ces}
theorem yI.drop{K:AE}{cl:Nat->AI}(r:yI K cl B φ H ρ σ)(i:Nat):yI K cl B φ H (ρ.set i AC) (σ.set i AC):=by
 refine⟨by rw[BW,BW];exact r.len,λj w e=>?_⟩
 by_cases h:j=i
 .subst h;rw[C7]at e;erw[if_true]at e;split at e<;>cases e
 .rw[AR (BI h)]at e ⊢;exact r.get j w e
noncomputable abbrev Se.quiet(S:Se):Se:={S with may:=AD}
theorem all_nil{P:Nat->Prop}:∀c∈([]:List Nat),P c:=λ_ h=>by cases h
theorem all_cons{P:Nat->Prop}{c:Nat}{cs:List Nat}(h:P c)(t:∀d∈cs,P d):∀d∈c::cs,P d:=λd hd=>by
 rcases Ad.mp hd with e|e
 .exact e ▸ h
 .exact t d e
structure ycH(K:AE)(mg:AQ->Option AF)(C:AI)(x:AQ):Prop where
 m:mg x=AA (.ref C)
 q:FT K C [.type "ValueError",.type "Exception",.type "BaseException",.type "object"] "ValueError.__new__"=AB
end
section
variable {S:Se}{X:Cx}{p pos p2 px apos:CH}{a b:AS}{ca cb:Ce}
def GCI(mg:AQ->Option AF)(x:AQ)(i:Int):Prop:=∃t,mg x=AA (.int i t)
theorem znq{x:AQ}{i:Int}(hg:Gl X x)(h:GCI X.mg x i)(hd:(x==("__debug__":AQ))=false:=by decide):PE X (.Name x pos) (tE S X (.cst (.int i))):=by
 let⟨t,hm⟩:=h;exact(zcR hg hm (show RelV (.int i) (.int i t)from ⟨t,rfl⟩) hd).imp λσ H Q ⟨B,φ,st,ρ,rs,re,h⟩=>by
  erw[ev]at h;exact h.ok rs (by erw[yd])
end
end L2
namespace WE
open PySem PySem.Spec PyProof.Rows
section
variable {prog:A7}{w:Ag}{A:Am}{E:AF->AJ->Prop}{s:AJ}
def ycL(h:Ay)(a t:AI)(i:Int):Prop:=∃o,h.get? a=AA o/\o.cls=.type "reversed"/\o.data=.fields #[.ref t,rawInt i]
theorem ycL.typeIs{a t:AI}{i:Int}(x:ycL s.heap a t i):s.TypeIs (.ref a) "reversed":=let ⟨o,ho,hc,_⟩:=x;⟨o,ho,hc⟩
end
end WE
namespace L2
open PySem PySem.Spec PyProof.Rows
end L2
namespace L2
open PySem PySem.Spec PyProof.Rows IC
open Classical in
section
variable {S:Se}{X:Cx}{σ:St}{B:AI->Prop}{φ φ1:Ph}{H H1:Hp}{st:SO}{ρ:IC.Env}{p pos p2 px py pt pt2:CH}{a b c d o a' b' c' d':AS}{ca cb cc cd ce cf:Ce}{pins:List (AI×Bs)}{s:AJ}{kt k2:Nat}{es:List AS}{ces:Ces}{x:AQ}
end
end L2
namespace IC
open PySem
end IC
namespace L2
open PySem PySem.Spec PyProof.Rows IC
section
variable {S:Se}{X:Cx}{σ:St}{B:AI->Prop}{φ:Ph}{H:Hp}{p p2 pos pos2 apos:CH}{a b tg:AS}{ca cb:Ce}
theorem zc8:∀bs:List Bool,((C0 bs.length).any λi=>(bs[i]?).getD AB)=bs.any id
 |[]=>rfl
 |b::bs=>by
  rw[AT,Ed,BH,Gu,BH,<-zc8 bs];rfl
theorem ziC(hc:X.calm=AB):yab X (.builtin "any") (λxs H Q=>∃(l:AI) (bs:List Bool),xs=[.ref l]/\SqL X.K H l (bs.map V.bl)/\Q (.bl (bs.any id)) H):=by
 intro pins s σ H xs us Q I r h;let⟨l,bs,rfl,hq,q⟩:=h;let⟨u,rfl,ru⟩:=Vals.one r
 cases (show u=Af l from ru)
 let⟨its,rv,pl,hz⟩:=I.list hq;have hb:=zdH rv;have hl:=pl.isList;have hlt:l<s.heap.objs.size:=by
  let⟨_,e,_⟩:=hl;exact AW e
 refine call_any_walk (EB hl ?_);refine⟨s.heap.objs.size,[s.heap.objs.size,l],[s.heap.objs.size],its.toArray.size,_,_,λi=>(bs[i]?).getD AB,rfl,HM (A:=X.A.in1) (I.ok.hd hc) _ l (Ah hlt) its.toArray,⟨⟨_,A0 _ rfl,rfl,rfl⟩,hl.push _⟩,λi v s' Q' E' hP hQ=>?_,λh' tk hk=>?_⟩
 .let⟨b,e,rfl⟩:=hb.get i v (by simpa using hP);erw[e,Ba]at hQ;exact BR hQ
 .have e:((C0 its.toArray.size).any λi=>(bs[i]?).getD AB)=bs.any id:=by
   rw[AZ,hb.length];exact zc8 bs
  rw[e];exact⟨.bl _,H,I.kept (t':=tk) (FQ hk),rfl,q⟩
theorem zi9:∀{vs:List PV} {m:Bool},IC.anyB vs=AA m->∃ns:List Bool,vs=ns.map .bl/\m=ns.any id
 |[],m,h=>by cases h;exact⟨[],rfl,rfl⟩
 |.bl i::r,m,h=>by
  erw[IC.anyB]at h;split at h
  .rename_i c e
   cases h
   let⟨ns,e1,e2⟩:=zi9 e;exact⟨i::ns,by rw[e1];rfl,by rw[e2];rfl⟩
  .cases h
 |.non::r,m,h=>by cases h
 |.int _::r,m,h=>by cases h
 |.str _::r,m,h=>by cases h
 |.tp _ _::r,m,h=>by cases h
 |.lst _::r,m,h=>by cases h
 |.loc _::r,m,h=>by cases h
 |.exn _::r,m,h=>by cases h
 |.scr _::r,m,h=>by cases h
theorem zmp:bootBuiltins "any"=AA (.builtin "any"):=by decide +kernel
theorem zfB:∀{ns:List Int} {us:List AF},Vals (ns.map V.int) us->us.length=ns.length/\∀(i:Nat) (v:AF),us[i]?=AA v->∃n t,ns[i]?=AA n/\v=.int n t
 |[],_,.nil=>⟨rfl,λi v h=>by simp at h⟩
 |n::ns,_,.cons r q=>by
  let⟨h1,h2⟩:=zfB q;let⟨t,rfl⟩:=r;refine⟨by simp[h1],λi v h=>?_⟩
  cases i with
  |zero=>simp at h;exact⟨n,t,rfl,h.symm⟩
  |succ i=>simp at h;simpa using h2 i v h
theorem zdo:∀ns:List Int,((C0 ns.length).any λi=>((ns[i]?).getD 1) != 0)=ns.any (· != 0)
 |[]=>rfl
 |b::bs=>by
  rw[AT,Ed,BH,Gu,BH,<-zdo bs];rfl
theorem zgQ(hc:X.calm=AB):yab X (.builtin "any") (λxs H Q=>∃(l:AI) (ns:List Int),xs=[.ref l]/\SqT X.K H l (ns.map V.int)/\Q (.bl (ns.any (· != 0))) H):=by
 intro pins s σ H xs us Q I r h;let⟨l,ns,rfl,hq,q⟩:=h;let⟨u,rfl,ru⟩:=Vals.one r
 cases (show u=Af l from ru)
 let⟨its,rv,p,hz⟩:=I.tuple hq;let⟨hn,hb⟩:=zfB rv;have hl:s.heap.IsTuple l its.toArray:=p;have hlt:l<s.heap.objs.size:=by
  let⟨_,e,_⟩:=hl;exact AW e
 refine call_any_walk (Bj hl ?_);refine⟨s.heap.objs.size,[s.heap.objs.size,l],[s.heap.objs.size],its.toArray.size,_,_,λi=>((ns[i]?).getD 1) != 0,rfl,Walks.tuple (A:=X.A.in1) (I.ok.hd hc) _ l (Ah hlt) its.toArray,⟨⟨_,A0 _ rfl,rfl,rfl⟩,hl.push _⟩,λi v s' Q' E' hP hQ=>?_,λh' tk hk=>?_⟩
 .let⟨b,t,e,rfl⟩:=hb i v (by simpa using hP);erw[e,Ba]at hQ;exact truthy_int hQ
 .have e:((C0 its.toArray.size).any λi=>((ns[i]?).getD 1) != 0)=ns.any (· != 0):=by
   rw[AZ,hn];exact zdo ns
  rw[e];exact⟨.bl _,H,I.kept (t':=tk) (FQ hk),rfl,q⟩
theorem zgv:∀{vs:List PV} {m:Bool},IC.anyI vs=AA m->∃ns:List Int,vs=ns.map .int/\m=ns.any (· != 0)
 |[],m,h=>by cases h;exact⟨[],rfl,rfl⟩
 |.int i::r,m,h=>by
  erw[IC.anyI]at h;split at h
  .rename_i c e
   cases h
   let⟨ns,e1,e2⟩:=zgv e;exact⟨i::ns,by rw[e1];rfl,by rw[e2];rfl⟩
  .cases h
 |.non::r,m,h=>by cases h
 |.bl _::r,m,h=>by cases h
 |.str _::r,m,h=>by cases h
 |.tp _ _::r,m,h=>by cases h
 |.lst _::r,m,h=>by cases h
 |.loc _::r,m,h=>by cases h
 |.exn _::r,m,h=>by cases h
 |.scr _::r,m,h=>by cases h
theorem zku(st:SO)(v:PV):(∃k xs,v=.tp k xs) \/ yay .any st [v]=(yX st v).bind λxs=>(anyB xs).map .bl:=by
 cases v<;>first|exact .inl ⟨_,_,rfl⟩|exact .inr rfl
theorem zmw(hc:X.calm=AB):yab X (.builtin "any") (rB S X .any):=by
 rintro pins s σ H xs us Q I r ⟨B,φ,st,vs,z,rs,l,e,q⟩
 let⟨v,rfl⟩:=zbL e λ_ _=>rfl;let⟨x,rfl,rv⟩:=l.one;rcases zku st v with⟨k,ws,rfl⟩|ev
 .have e:(IC.anyI ws).map PV.bl=AA z:=e
  cases e2:IC.anyI ws with
  |none=>rw[e2]at e;cases e
  |some m=>
   rw[e2]at e
   cases e
   let⟨ns,rfl,rfl⟩:=zgv e2;erw[yd]at rv;let⟨a,ys,rfl,h,l⟩:=rv;have h:=h.sq;rw[l.ints]at h;exact zgQ hc pins s σ H _ us Q I r ⟨a,ns,rfl,h,q _ H φ .rfl rs (by erw[yd])⟩
 .rw[ev]at e
  cases e1:yX st v with
  |none=>rw[e1]at e;cases e
  |some ws=>
   rw[e1]at e;erw[Bk]at e
   cases e2:IC.anyB ws with
   |none=>rw[e2]at e;cases e
   |some m=>
    rw[e2]at e
    cases e
    let⟨ns,rfl,rfl⟩:=zi9 e2;let⟨a,ys,rfl,h,l⟩:=zcw rs rv e1;rw[l.bls]at h;exact ziC hc pins s σ H _ us Q I r ⟨a,ns,rfl,h,q _ H φ .rfl rs (by erw[yd])⟩
end
end L2
namespace WE
open PySem PySem.Spec PyProof.Rows
section
variable {pg:A7}{wd:Ag}{A:Am}{Er:AF->AJ->Prop}{s:AJ}
theorem tit_keep{h h':Ay}{i t:AI}{j:Nat}(u:h.IsTupleIter i t j)(k:∀o,h.get? i=AA o->h'.get? i=AA o):h'.IsTupleIter i t j:=let ⟨o,g,r⟩:=u;⟨o,k o g,r⟩
theorem zca{h h':Ay}{t:AI}{xs:Array AF}(u:h.IsTuple t xs)(k:∀o,h.get? t=AA o->h'.get? t=AA o):h'.IsTuple t xs:=let ⟨o,g,r⟩:=u;⟨o,k o g,r⟩
def Kz(z TO i1 i2:AI)(h h':Ay):Prop:=∀c o,c≠z->c≠TO->c≠i1->c≠i2->h.get? c=AA o->h'.get? c=AA o
theorem zgy{z TI TO i1 i2 l1 l2:AI}{j:Nat}{xs ys:Array AF}{x y a b:AF}{Q:AF->AJ->Prop}(D:Fi z TI TO i1 i2 l1 l2)
  (gz:EF s.heap z TI TO .none) (gI:CO s.heap TI (.ref i1) (.ref i2)) (gO:CO s.heap TO a b) (u1:s.heap.IsTupleIter i1 l1 j) (u2:s.heap.IsTupleIter i2 l2 j) (t1:s.heap.IsTuple l1 xs) (t2:s.heap.IsTuple l2 ys) (ex:xs[j]?=AA x) (ey:ys[j]?=AA y)
  (k:∀h',EF h' z TI TO (rawInt s.heap.objs.size)->CO h' TO x y->h'.IsTupleIter i1 l1 (j+1)->h'.IsTupleIter i2 l2 (j+1)->CO h' s.heap.objs.size x y->h'.objs.size=s.heap.objs.size+1->Kz z TO i1 i2 s.heap h'->Q (.ref s.heap.objs.size) {s with heap:=h'}):
  A3 (model pg wd) A (Gn.«zip.__next__» ⟨[.ref z],[]⟩) (λf s'=>∃v,f=.done (.ret v)/\Q v s') Er s:=by
 show A3 _ _ (field (.ref z) 2 >>= _) _ _ _;refine AH (BM gz rfl (x:=.bool AD) rfl ?_);show A3 _ _ (field (.ref z) 3 >>= _) _ _ _;refine AH (BM gz rfl (x:=.ref TI) rfl ?_);refine AH (CU gI rfl ?_);show A3 _ _ (B6 (.ref z) >>= _) _ _ _;refine AH ?_;unfold B6;refine AH (BM gz rfl (x:=.none) rfl (AV ?_));erw[if_true];refine AH (EV ?_);refine AH (BM gz rfl (x:=.ref TO) rfl ?_);refine AH (C3 gz (by simp) λha za sa=>?_)
 replace za:EF ha z TI TO .ellipsis:=za
 refine AH ?_;erw[GH,GU,Eh,G8];refine AH (AH (FU ?_));show A3 _ _ (BL (.ref i1) >>= _) _ _ _;refine AH (zbO (tit_keep u1 λo e=>sa.extBut _ _ D.i1z e) (zca t1 λo e=>sa.extBut _ _ D.l1z e) ex λhb ub sb=>AV ?_);have ob:CO hb TO a b:=sb.extBut _ _ D.TOi1 (sa.extBut _ _ D.TOz gO);refine AH (CU ob rfl ?_);refine AH (Eu ob λhc oc sc=>?_)
 replace oc:CO hc TO x b:=oc
 refine AH (wpAny_letGo (AV ?_));refine AH (AH (FU ?_));show A3 _ _ (BL (.ref i2) >>= _) _ _ _;refine AH (zbO (tit_keep u2 λo e=>sc.extBut _ _ D.TOi2.symm (sb.extBut _ _ D.i12.symm (sa.extBut _ _ D.i2z e))) (zca t2 λo e=>sc.extBut _ _ D.l2TO (sb.extBut _ _ D.l2i1 (sa.extBut _ _ D.l2z e))) ey λhd ud sd=>AV ?_);have od:CO hd TO x b:=sd.extBut _ _ D.TOi2 oc;refine AH (CU od rfl ?_);refine AH (Eu od λhe oe se=>?_)
 replace oe:CO he TO x y:=oe
 refine AH (wpAny_letGo (AV (AV ?_)));refine AH (CU oe rfl ?_);refine AH (wpAny_newTuple ?_);have sz:he.objs.size=s.heap.objs.size:=by rw[se.1,sd.1,sc.1,sb.1,sa.1]
 have ze:EF he z TI TO .ellipsis:=se.extBut _ _ D.TOz.symm (sd.extBut _ _ D.i2z.symm (sc.extBut _ _ D.TOz.symm (sb.extBut _ _ D.i1z.symm za)));have ke:Kz z TO i1 i2 s.heap he:=λc o p1 p2 p3 p4 e=>se.extBut _ _ p2 (sd.extBut _ _ p4 (sc.extBut _ _ p2 (sb.extBut _ _ p3 (sa.extBut _ _ p1 e))));have v1:he.IsTupleIter i1 l1 (j+1):=tit_keep ub λo e=>se.extBut _ _ D.TOi1.symm (sd.extBut _ _ D.i12 (sc.extBut _ _ D.TOi1.symm e));have v2:he.IsTupleIter i2 l2 (j+1):=tit_keep ud λo e=>se.extBut _ _ D.TOi2.symm e;have lz:z<he.objs.size:=AW ze;show A3 _ _ (Cm (.ref z) (.ref he.objs.size) >>= _) _ _ _;refine AH ?_;unfold Cm;have zf:EF (he.push {cls:=.type "tuple",data:=.seq #[x,y]}) z TI TO .ellipsis:=AN _ ze;refine AH (C3 zf (by simp) λhg zg sg=>?_)
 replace zg:EF hg z TI TO (rawInt he.objs.size):=zg
 refine C3 zg (by simp) λhi zi si=>?_
 replace zi:EF hi z TI TO (rawInt he.objs.size):=zi
 have up:∀c o,c≠z->he.get? c=AA o->hi.get? c=AA o:=λc o p e=>si.extBut _ _ p (sg.extBut _ _ p (AN _ e));have pn:CO hi he.objs.size x y:=si.extBut _ _ (EW lz) (sg.extBut _ _ (EW lz) (A0 _ rfl));have si8:hi.objs.size=he.objs.size+1:=by rw[si.1,sg.1,Bl]
 rw[sz]at zi pn si8;refine AV ⟨_,rfl,?_⟩;show Q (.ref he.objs.size) _;rw[sz];exact k hi zi (up _ _ D.TOz oe) (tit_keep v1 λo e=>up _ o D.i1z e) (tit_keep v2 λo e=>up _ o D.i2z e) pn si8 λc o p1 p2 p3 p4 e=>up c o p1 (ke c o p1 p2 p3 p4 e)
theorem zir{z TI TO i1 i2 l1 l2:AI}{j:Nat}{xs:Array AF}{a b:AF}{Q:Fin->AJ->Prop}(hh:A.handled=AC)(D:Fi z TI TO i1 i2 l1 l2)
  (gz:EF s.heap z TI TO .none) (gI:CO s.heap TI (.ref i1) (.ref i2)) (gO:CO s.heap TO a b) (u1:s.heap.IsTupleIter i1 l1 j) (t1:s.heap.IsTuple l1 xs) (ex:xs[j]?=AC)
  (k:∀h' e,Kz z TO i1 i2 s.heap h'->(∃o,h'.get? e=AA o/\o.cls=.type "StopIteration")->Er (.ref e) {s with heap:=h'}):
  A3 (model pg wd) A (Gn.«zip.__next__» ⟨[.ref z],[]⟩) Q Er s:=by
 show A3 _ _ (field (.ref z) 2 >>= _) _ _ _;refine AH (BM gz rfl (x:=.bool AD) rfl ?_);show A3 _ _ (field (.ref z) 3 >>= _) _ _ _;refine AH (BM gz rfl (x:=.ref TI) rfl ?_);refine AH (CU gI rfl ?_);show A3 _ _ (B6 (.ref z) >>= _) _ _ _;refine AH ?_;unfold B6;refine AH (BM gz rfl (x:=.none) rfl (AV ?_));erw[if_true];refine AH (EV ?_);refine AH (BM gz rfl (x:=.ref TO) rfl ?_);refine AH (C3 gz (by simp) λha za sa=>?_)
 replace za:EF ha z TI TO .ellipsis:=za
 refine AH ?_;erw[GH,GU,Eh,G8];refine AH (AH (FU ?_));show A3 _ _ (BL (.ref i1) >>= _) _ _ _;refine AH (zeD hh (tit_keep u1 λo e=>sa.extBut _ _ D.i1z e) (zca t1 λo e=>sa.extBut _ _ D.l1z e) ex λhb e sb he=>?_);let⟨oe,ge,ce⟩:=he;have zb:EF hb z TI TO .ellipsis:=sb _ _ D.i1z.symm za;have ne:e≠z:=λq=>by subst q;rw[zb]at ge;cases ge;simp at ce
 exact C3 zb (by simp) λhc _ sc=>k hc e (λc o p1 _ p3 _ q=>sc.extBut _ _ p1 (sb _ _ p3 (sa.extBut _ _ p1 q))) ⟨oe,sc.extBut _ _ ne ge,ce⟩
theorem pyNext_zipT{z TI TO i1 i2 l1 l2:AI}{j:Nat}{xs ys:Array AF}{x y a b:AF}{Q:Option AF->AJ->Prop}(D:Fi z TI TO i1 i2 l1 l2)
  (gz:EF s.heap z TI TO .none) (gI:CO s.heap TI (.ref i1) (.ref i2)) (gO:CO s.heap TO a b) (u1:s.heap.IsTupleIter i1 l1 j) (u2:s.heap.IsTupleIter i2 l2 j) (t1:s.heap.IsTuple l1 xs) (t2:s.heap.IsTuple l2 ys) (ex:xs[j]?=AA x) (ey:ys[j]?=AA y)
  (k:∀h',EF h' z TI TO (rawInt s.heap.objs.size)->CO h' TO x y->h'.IsTupleIter i1 l1 (j+1)->h'.IsTupleIter i2 l2 (j+1)->CO h' s.heap.objs.size x y->h'.objs.size=s.heap.objs.size+1->Kz z TO i1 i2 s.heap h'->Q (AA (.ref s.heap.objs.size)) {s with heap:=h'}):
  A3 (model pg wd) A (pyNext (.ref z)) Q Er s:=by
 have ty:s.TypeIs (.ref z) "zip":=⟨_,gz,rfl⟩;unfold pyNext;exact AH (wpAny_attempt (B8 (name:=AG "__next__") ty D4 (CT D4 ty GI (zgy D gz gI gO u1 u2 t1 t2 ex ey λh' a1 a2 a3 a4 a5 a6 a7=>AV (k h' a1 a2 a3 a4 a5 a6 a7)) (Fj _))))
theorem pyNext_zipE{z TI TO i1 i2 l1 l2:AI}{j:Nat}{xs:Array AF}{a b:AF}{Q:Option AF->AJ->Prop}(hh:A.handled=AC)(D:Fi z TI TO i1 i2 l1 l2)
  (gz:EF s.heap z TI TO .none) (gI:CO s.heap TI (.ref i1) (.ref i2)) (gO:CO s.heap TO a b) (u1:s.heap.IsTupleIter i1 l1 j) (t1:s.heap.IsTuple l1 xs) (ex:xs[j]?=AC)
  (k:∀h',Kz z TO i1 i2 s.heap h'->Q AC {s with heap:=h'}):A3 (model pg wd) A (pyNext (.ref z)) Q Er s:=by
 have ty:s.TypeIs (.ref z) "zip":=⟨_,gz,rfl⟩;unfold pyNext;refine AH (wpAny_attempt (B8 (name:=AG "__next__") ty D4 (CT D4 ty GI (zir hh D gz gI gO u1 t1 ex λh' e kk he=>?_) (Fj _))));let⟨o,ho,hc⟩:=he;exact AH (wpAny_isInstance (T:="StopIteration") (b:=AB) ⟨o,ho,hc⟩ isSubtype_stop (AV (k _ kk)))
end
noncomputable abbrev ti(l:AI):Obj:={cls:=.type "tuple_iterator",data:=.fields #[.ref l,.int 0 0]}
abbrev zh1(h:Ay)(l1:AI):Heap:=h.push (ti l1)
abbrev zh2(h:Ay)(l1 l2:AI):Heap:=(zh1 h l1).push (ti l2)
abbrev zh3(h:Ay)(l1 l2:AI):Heap:=(zh2 h l1 l2).push {cls:=.type "tuple",data:=.seq #[.ref h.objs.size,.ref (zh1 h l1).objs.size]}
abbrev zh4(h:Ay)(l1 l2:AI):Heap:=(zh3 h l1 l2).push {cls:=.type "tuple",data:=.seq #[.none,.none]}
abbrev zh5(h:Ay)(l1 l2:AI):Heap:=(zh4 h l1 l2).push {cls:=.type "zip",data:=.fields #[.none,.bool AD,.bool AD,.ref (zh2 h l1 l2).objs.size,.ref (zh3 h l1 l2).objs.size]}
theorem zga(l1 l2:AI)(xs ys:Array AF):
  Meets (Gn.«zip.__new__» ⟨[.type "zip",.ref l1,.ref l2],[]⟩) (λ_ R s=>s.heap.IsTuple l1 xs/\s.heap.IsTuple l2 ys/\R (.ok (.ret (.ref (zh4 s.heap l1 l2).objs.size))) {s with heap:=zh5 s.heap l1 l2}):=
 .of_wp λprog w A R s h=>by
  let⟨hp,g,d,tk,os⟩:=s;let⟨q1,q2,h⟩:=h;have hsub:=sub_zip;have T1:Fe (GO ⟨hp,g,d,tk,os⟩) l1 xs:=q1;have T2:Fe (GO ⟨hp.push (ti l1),g,d,tk,os⟩) l2 ys:=zca q2 λo e=>AN _ e
  wp_walk using Bj T1,Bj T2
  exact⟨_,rfl,h⟩
theorem call_zipT{pg:A7}{wd:Ag}{A:Am}{Er:AF->AJ->Prop}{s:AJ}{l1 l2:AI}{xs ys:Array AF}{Q:AF->AJ->Prop}(t1:s.heap.IsTuple l1 xs)(t2:s.heap.IsTuple l2 ys)
  (k:∀h',EF h' (s.heap.objs.size+4) (s.heap.objs.size+2) (s.heap.objs.size+3) .none->CO h' (s.heap.objs.size+2) (.ref s.heap.objs.size) (.ref (s.heap.objs.size+1))->CO h' (s.heap.objs.size+3) .none .none->h'.IsTupleIter s.heap.objs.size l1 0->h'.IsTupleIter (s.heap.objs.size+1) l2 0 ->
   (∀b o,s.heap.get? b=AA o->h'.get? b=AA o)->Q (.ref (s.heap.objs.size+4)) {s with heap:=h'}):A3 (model pg wd) A (call (.type "zip") [.ref l1,.ref l2]) Q Er s:=by
 refine callType_new F.called_zip (by decide) (F.typeCall_zip_2 _ _) (F.newCall_zip_2 _ _) (λobj=>F.args_object_init_3 obj _ _) F.entry_zip_new (zga l1 l2 xs ys) ⟨t1,t2,?_⟩;have n1:(zh1 s.heap l1).objs.size=s.heap.objs.size+1:=Bl ..;have n2:(zh2 s.heap l1 l2).objs.size=s.heap.objs.size+2:=by rw[Bl,n1]
 have n3:(zh3 s.heap l1 l2).objs.size=s.heap.objs.size+3:=by rw[Bl,n2]
 have n4:(zh4 s.heap l1 l2).objs.size=s.heap.objs.size+4:=by rw[Bl,n3]
 have kp:∀{h:Ay} {o:Bs} {b:AI} {u:Bs},h.get? b=AA u->(h.push o).get? b=AA u:=λe=>AN _ e;have m5:(zh5 s.heap l1 l2).get? (zh4 s.heap l1 l2).objs.size=AA _:=A0 _ rfl;have m4:(zh5 s.heap l1 l2).get? (zh3 s.heap l1 l2).objs.size=AA _:=kp (A0 _ rfl);have m3:(zh5 s.heap l1 l2).get? (zh2 s.heap l1 l2).objs.size=AA _:=kp (kp (A0 _ rfl));have m2:(zh5 s.heap l1 l2).get? (zh1 s.heap l1).objs.size=AA _:=kp (kp (kp (A0 _ rfl)));have m1:(zh5 s.heap l1 l2).get? s.heap.objs.size=AA _:=kp (kp (kp (kp (A0 _ rfl))));rw[n2,n3,n4]at m5;rw[n1,n2]at m3;rw[n3]at m4;rw[n1]at m2;show _/\_;rw[n4];exact⟨⟨_,m5,rfl⟩,k _ m5 m3 m4 ⟨_,m1,rfl,rfl⟩ ⟨_,m2,rfl,rfl⟩ λb o e=>kp (kp (kp (kp (kp e))))⟩
end WE
namespace L2
open PySem PySem.Spec PyProof.Rows
noncomputable def Itz(K:AE)(a b:AI):It:=
 ⟨λi H=>∃xs ys x y,SqT K H a xs/\SqT K H b ys/\xs[i]?=AA x/\ys[i]?=AA y,λi H v H'=>∃T,H T=AC/\v=.ref T/\∀xs ys x y,SqT K H a xs->SqT K H b ys->xs[i]?=AA x->ys[i]?=AA y->H'=upd H T (.tup [x,y]),λi H=>∃xs,SqT K H a xs/\xs.length=i⟩
theorem zgI{P:A7}{w:Ag}{K:AE}{es:List AS}{kk:Nat}{pos:CH}(z TI TO i1 i2 a b:AI)(D:Fi z TI TO i1 i2 a b):
  Turn P w K (.Tuple es kk pos) (Itz K a b) [z,TI,TO,i1,i2] z (λi h=>EF h z TI TO .none/\CO h TI (.ref i1) (.ref i2)/\(∃p q,CO h TO p q)/\h.IsTupleIter i1 a i/\h.IsTupleIter i2 b i) where
 mem:=by simp
 obj:=λi h st c hc=>by
  let⟨g0,g1,⟨p,q,g2⟩,⟨o3,g3,_,d3⟩,⟨o4,g4,_,d4⟩⟩:=st;erw[Ad,CV,or_false]at hc;rcases hc with rfl|rfl|rfl|rfl|rfl
  .exact⟨_,g0,λv y=>nomatch y⟩
  .exact⟨_,g1,λv y=>nomatch y⟩
  .exact⟨_,g2,λv y=>nomatch y⟩
  .exact⟨o3,g3,λv y=>by rw[d3]at y;cases y⟩
  .exact⟨o4,g4,λv y=>by rw[d4]at y;cases y⟩
 keep:=λi h h' st k=>by
  let⟨g0,g1,⟨p,q,g2⟩,g3,g4⟩:=st;exact⟨k z (by simp) _ g0,k TI (by simp) _ g1,⟨p,q,k TO (by simp) _ g2⟩,WE.tit_keep g3 λo e=>k i1 (by simp) o e,WE.tit_keep g4 λo e=>k i2 (by simp) o e⟩
 item:=by
  intro X hP hw hK hc i pins s σ H E I hf st hg;subst hP hw hK;let⟨xs,ys,x,y,hq1,hq2,hx,hy⟩:=hg;let⟨its,rv,p1,_⟩:=I.tuple hq1;let⟨jts,rw',p2,_⟩:=I.tuple hq2;let⟨g0,g1,⟨p,q,g2⟩,g3,g4⟩:=st;let⟨u,hu,ru⟩:=rv.get hx;let⟨v,hv,rv2⟩:=rw'.get hy;refine WE.pyNext_zipT D g0 g1 g2 g3 g4 p1 p2 (by simpa using hu) (by simpa using hv) λh1 a1 a2 a3 a4 a5 a6 a7=>⟨_,rfl,?_⟩;refine wpAny_letOwnedTupleGo_zip a1 λh2 b1 b2=>?_;have lt:∀{c o},s.heap.get? c=AA o->s.heap.objs.size≠c:=λe=>EW (AW e);have hTz:s.heap.objs.size≠z:=lt g0;have hch:∀c o,c∉[z,TI,TO,i1,i2]->s.heap.get? c=AA o->h2.get? c=AA o:=λc o hn e=>b2.extBut _ _ (λz'=>hn (by simp[z'])) (a7 c o (λz'=>hn (by simp[z'])) (λz'=>hn (by simp[z'])) (λz'=>hn (by simp[z'])) (λz'=>hn (by simp[z'])) e);have new:yP X.prog X.w (upd H s.heap.objs.size (.tup [x,y])) h2 s.heap.objs.size (.tup [x,y]):=⟨by show 2<=sizeLine;decide,[u,v],.cons ru (.cons rv2 .nil),_,b2.extBut _ _ hTz a5,rfl,_,rfl⟩;have I2:=I.turnLaid (t':=s.toks) hf hch (AU _) new;have gI:CO h1 TI (.ref i1) (.ref i2):=a7 _ _ D.TIz D.TITO D.TIi1 D.TIi2 g1;refine⟨.ref s.heap.objs.size,_,I2,rfl,⟨s.heap.objs.size,I.hok.fresh (AU _),rfl,λxs' ys' x' y' hx1 hy1 hx2 hy2=>?_⟩,⟨b1,b2.extBut _ _ D.TIz gI,⟨_,_,b2.extBut _ _ D.TOz a2⟩,WE.tit_keep a3 λo e=>b2.extBut _ _ D.i1z e,WE.tit_keep a4 λo e=>b2.extBut _ _ D.i2z e⟩,λc hc=>?_⟩
  .rw[I.tuple_inj hx1 hq1,hx]at hx2;rw[I.tuple_inj hy1 hq2,hy]at hy2
   cases hx2
   cases hy2
   rfl
  .have hne:c≠s.heap.objs.size:=λz'=>by
    subst z';let⟨o3,e3,_⟩:=g3;let⟨o4,e4,_⟩:=g4;erw[Ad,CV,or_false]at hc;rcases hc with z' | z' | z' | z' | z'
    .exact lt g0 z'
    .exact lt g1 z'
    .exact lt g2 z'
    .exact lt e3 z'
    .exact lt e4 z'
   rw[zh hne];exact(hf c hc).1
 done:=by
  intro X hP hw hK hc i pins s σ H E I hf st hg;subst hP hw hK;let⟨xs,hq1,hx⟩:=hg;let⟨its,rv,p1,_⟩:=I.tuple hq1;let⟨g0,g1,⟨p,q,g2⟩,g3,g4⟩:=st;have hl:=rv.length;refine WE.pyNext_zipE (I.ok.hd hc) D g0 g1 g2 g3 p1 (by simp;lia) λh' kz=>⟨rfl,I.turnedL (t':=s.toks) hf λc o hn e=>kz c o (λz'=>hn (by simp[z'])) (λz'=>hn (by simp[z'])) (λz'=>hn (by simp[z'])) (λz'=>hn (by simp[z'])) e⟩
 self:=λ_ _ _ _ _ st q=>GJ st.1 q
def ygz(K:AE)(ta:TA):TI:=λσ H R=>ta σ H λvs H1=>∃a b,vs=[.ref a,.ref b]/\(∃xs,SqT K H1 a xs)/\(∃ys,SqT K H1 b ys)/\R (Itz K a b) H1
theorem zjO{X:Cx}{a b:AS}{es:List AS}{kk:Nat}{tp:CH}{ta:TA}{p pos:CH}(hg:Gl X "zip")(hm:X.mg "zip"=AC)(ha:PA X [a,b] ta)(hs:starEach [a,b] X.env=[(AD,eval a X.env),(AD,eval b X.env)]:=by rfl)(hs2:starEach [b] X.env=[(AD,eval b X.env)]:=by rfl):
  PI X (.Tuple es kk tp) (.Call (.Name "zip" p) [a,b] [] pos) (ygz X.K ta):=by
 intro pins s σ H R I h;refine BT (zdq I hg hm boot_zip ?_);refine Bu (thn (ha pos pins s σ H _ I h) λus s1 kq=>?_) (by rw[hs,hs2]) (by rw[hs2];rfl);let⟨vs,H1,I1,r1,q1⟩:=kq;let⟨l1,l2,rfl,⟨xs,hq1⟩,⟨ys,hq2⟩,q⟩:=q1
 cases r1 with
 |cons r rr=>
  cases rr with
  |cons r2 r3=>
   cases r3
   cases (show _=Af l1 from r)
   cases (show _=Af l2 from r2)
   let⟨its,rv,pt1,_⟩:=I1.tuple hq1;let⟨jts,rv2,pt2,_⟩:=I1.tuple hq2;have b1:l1<s1.heap.objs.size:=by let⟨_,e,_⟩:=pt1;exact AW e
   have b2:l2<s1.heap.objs.size:=by let⟨_,e,_⟩:=pt2;exact AW e
   refine WE.call_zipT pt1 pt2 λh1 g0 g1 g2 g3 g4 kp=>?_;refine GJ g0 ?_;refine⟨_,[s1.heap.objs.size+4,s1.heap.objs.size+2,s1.heap.objs.size+3,s1.heap.objs.size,s1.heap.objs.size+1],_,_,H1,rfl,I1.kept (t':=s1.toks) kp,zgI _ _ _ _ _ l1 l2 (zipApart_new b1 b2),⟨g0,g1,⟨_,_,g2⟩,g3,g4⟩,λc hc=>?_,q⟩;have hb2:s1.heap.objs.size<=c:=by
    erw[Ad,CV,or_false]at hc;rcases hc with z' | z' | z' | z' | z'<;>subst z'
    .exact DO _ 4
    .exact DO _ 2
    .exact DO _ 3
    .exact AU _
    .exact DO _ 1
   exact I1.fpOk hb2 (I1.hok.fresh hb2)
end L2
namespace L2
open PySem PySem.Spec PyProof.Rows IC
inductive yb2(K:AE)(cl:Nat->AI)(w:Ag):List (AQ×PV)->List By->Prop
 |nil:yb2 K cl w [] []
 |cons {k:AQ} {v:PV} {t:HQ} {u:AF} {x:V} {D:List (AQ×PV)} {es:List By} (hr:RelV x u) (hv:∀B φ H,yd K cl B φ H v x) (h:yb2 K cl w D es):yb2 K cl w ((k,v)::D) (⟨Dq w.params k,.str k t,u⟩ :: es)
def GD(K:AE)(w:Ag)(mg:AQ->Option AF)(cl:Nat->AI)(x:AQ)(D:List (AQ×PV)):Prop:=
 ∃(y:AI) (es:Array By) (ep:Nat),mg x=AA (.ref y)/\K.lookup y=AA ⟨.type "dict",AC,.dict es ep,#[]⟩/\(y==sysModules)=AD/\yb2 K cl w D es.toList/\(D.map (·.1)).Nodup
theorem yb2.pairs{K:AE}{cl:Nat->AI}{P:A7}{w:Ag}{D:List (AQ×PV)}{es:List By}(h:yb2 K cl w D es):
  ∃vs:List (AQ×AF),Pairs (strKind P w) es vs/\(∀e∈es,∃k,(strKind P w).is k e.key=AB/\e.hash=(strKind P w).hash k)/\vs.map (·.1)=D.map (·.1) /\
   (∀s,(valueAt vs s).isSome=(yaJ s D).isSome)/\∀s v,yaJ s D=AA v->∃u x,valueAt vs s=AA u/\RelV x u/\∀B φ H,yd K cl B φ H v x:=by
 induction h with
 |nil=>exact⟨[],.nil,λe he=>(by cases he),rfl,λs=>rfl,λs v e=>by cases e⟩
 |@cons k v t u x D es hr hv h ih=>
  let⟨vs,h1,h2,h3,h4,h5⟩:=ih;have hat:∀s,valueAt ((k,u)::vs) s=if k=s then AA u else valueAt vs s:=λs=>by
   unfold valueAt;rw[Bq]
   by_cases e:k=s
   .simp[e]
   .simp[e]
  refine⟨(k,u)::vs,.cons (DP P w k t) rfl h1,λe he=>?_,by rw[AO,AO,h3],λs=>?_,λs v' e=>?_⟩
  .rcases Ad.1 he with rfl|he
   .exact⟨k,DP P w k t,rfl⟩
   .exact h2 e he
  .rw[hat,yaJ]
   by_cases e:k=s
   .rw[if_pos e,if_pos (by simpa using e)];rfl
   .rw[if_neg e,if_neg (by simpa using e),h4]
  .rw[yaJ]at e;rw[hat]
   by_cases q:k=s
   .rw[if_pos (by simpa using q)]at e
    cases e
    exact⟨u,x,by rw[if_pos q],hr,hv⟩
   .rw[if_neg (by simpa using q)]at e;let⟨u',x',e1,e2,e3⟩:=h5 s v' e;exact⟨u',x',by rw[if_neg q];exact e1,e2,e3⟩
section
variable {S:Se}{X:Cx}{σ:St}{B:AI->Prop}{φ:Ph}{H:Hp}{st:SO}{pos p:CH}{a b i:AS}{ca cb:Ce}{x:AQ}{D:List (AQ×PV)}{ty:TE}
theorem zgS{y:AI}{es:Array By}{ep:Nat}{pins:List (AI×Bs)}{s:AJ}(I:Inv X pins σ H s)(hk:X.K.lookup y=AA ⟨.type "dict",AC,.dict es ep,#[]⟩)(hn:(D.map (·.1)).Nodup){vs:List (AQ×AF)}(h1:Pairs (strKind X.prog X.w) es.toList vs)
  (h2:∀e∈es.toList,∃k,(strKind X.prog X.w).is k e.key=AB/\e.hash=(strKind X.prog X.w).hash k) (h3:vs.map (·.1)=D.map (·.1)):s.heap.DictOf (strKind X.prog X.w) y vs:=
 ⟨_,es,ep,I.kIn y _ hk,⟨rfl,rfl,rfl⟩,rfl,λe he=>h2 e (by simpa using he),h1,by rw[h3];exact hn⟩
def yd0(S:Se)(X:Cx)(D:List (AQ×PV))(ty:TE):TE:=λσ H Q=>ty σ H λz H2=>∃s v,z=.str s/\yaJ s D=AA v/\∀x',(∀B φ H,yd X.K S.cl B φ H v x')->Q x' H2
theorem zjT(hg:Gl X x)(h:GD X.K X.w X.mg S.cl x D)(hi:PE X i ty)(hs:ycD i)(hd:(x==("__debug__":AQ))=false:=by decide):PE X (.Subscript (.Name x p) i pos) (yd0 S X D ty):=by
 let⟨y,es,ep,hm,hk,hsy,hr,hn⟩:=h;let⟨vs,h1,h2,h3,h4,h5⟩:=hr.pairs (P:=X.prog);intro pins s σ H Q I q0;refine zhC Dy.lookup hs (thn (zcR (v:=.ref y) hg hm rfl hd pins s σ H (λz H1=>z=.ref y/\ty σ H1 λz H2=>∃s v,z=.str s/\yaJ s D=AA v/\∀x',(∀B φ H,yd X.K S.cl B φ H v x')->Q x' H2) I ⟨rfl,q0⟩) λu s1 kq=>?_);let⟨z,H1,I1,rz,ez,q1⟩:=kq;refine thn (hi pins s1 σ H1 _ I1 q1) λiv s2 kq=>?_;let⟨z2,H2,I2,rz2,sx,v,ez2,e,q2⟩:=kq;subst ez;subst ez2;obtain rfl:u=Af y:=rz;let⟨t,rfl⟩:=rz2;have dd:=zgS I2 hk hn h1 h2 h3;let⟨u',x',e1,e2,e3⟩:=h5 sx v e;exact⟨dd.typeIs,GL (DP X.prog X.w sx t) dd.mapOf e1 ⟨x',H2,I2.tok _,e2,q2 x' e3⟩⟩
theorem znc(hg:Gl X x)(h:GD X.K X.w X.mg S.cl x D)(hb:PE X b (tE S X cb))(hs:ycD b:=by exact λ_ _=>rfl)(hd:(x==("__debug__":AQ))=false:=by decide):PE X (.Subscript (.Name x p) b pos) (tE S X (.dix D cb)):=
 (zjT hg h hb hs hd).imp λσ H Q ⟨B,φ,st,ρ,rs,re,h⟩=>by
  erw[ev]at h;refine tE.bind rs re h λz H1 v st1 φ1 s1 rs1 re1 rv h1=>?_;let⟨w,e,q⟩:=z5 h1 rs1
  cases v with
  |str sx=>
   erw[yd]at rv;exact⟨sx,w,rv,e,λx' hx=>q x' H1 φ1 .rfl rs1 (hx _ _ _)⟩
  |_=>cases e
def ygs(y:AI)(D:List (AQ×PV)):R2:=λx z H Q=>z=.ref y/\∃s,x=.str s/\Q (.bl (yaJ s D).isSome) H
theorem zlI(hg:Gl X x)(h:GD X.K X.w X.mg S.cl x D)(ha:PE X a (tE S X ca))(hm:behindInMarks .In (.Name x p)=false:=by ac_rfl)(hd:(x==("__debug__":AQ))=false:=by decide):PE X (.Compare a [.In] [.Name x p] pos) (tE S X (.din ca D)):=by
 let⟨y,es,ep,hmg,hk,hsy,hr,hn⟩:=h;let⟨vs,h1,h2,h3,h4,h5⟩:=hr.pairs (P:=X.prog);have op:OpR X (compareOp .In) (ygs y D):=by
  intro pins s σ H z1 z2 v u Q I r1 r2 ⟨ez,sx,ex,q⟩;subst ez;subst ex;obtain rfl:u=Af y:=r2;let⟨t,rfl⟩:=r1;have dd:=zgS I hk hn h1 h2 h3;refine wpAny_in_of (DP X.prog X.w sx t) hsy dd.mapOf ⟨.bl (yaJ sx D).isSome,H,I.tok _,?_,q⟩;rw[h4];rfl
 refine(zgR op ha (zcR (v:=.ref y) hg hmg rfl hd) hm).imp λσ H Q kq=>?_;let⟨B,φ,st,ρ,rs,re,h⟩:=kq;erw[ev]at h;refine tE.bind rs re h λz H1 v st1 φ1 s1 rs1 re1 rv h1=>?_;let⟨w,e,q⟩:=z5 h1 rs1
 cases v with
 |str sx=>
  erw[yd]at rv
  cases e
  exact⟨rfl,sx,rv,q _ H1 φ1 .rfl rs1 (by erw[yd])⟩
 |_=>cases e
theorem zeO:∀(xs ys:List PV) (i:Nat) {x y:PV},xs[i]?=AA x->ys[i]?=AA y->(ya3 xs ys)[i]?=AA (.tup [x,y])
 |[],_,i,_,_,h,_=>by simp at h
 |_::_,[],i,_,_,_,h=>by simp at h
 |x::xs,y::ys,0,_,_,h1,h2=>by simp at h1 h2;simp[ya3,h1,h2]
 |x::xs,y::ys,i+1,_,_,h1,h2=>by
  erw[AL]at h1 h2;erw[ya3,AL];exact zeO xs ys i h1 h2
theorem zd6:∀(xs ys:List PV),xs.length<=ys.length->(ya3 xs ys).length=xs.length
 |[],_,_=>by simp[ya3]
 |_::_,[],h=>by simp at h
 |x::xs,y::ys,h=>by erw[ya3,AT,zd6 xs ys (by simpa using h)]
theorem zkr{k j:Bool}{vs ws:List PV}{xs ys:List V}{y z:AI}(rt:ybx X.K B φ H k y xs)(l:ye X.K S.cl B φ H vs xs)(rt2:ybx X.K B φ H j z ys)(l2:ye X.K S.cl B φ H ws ys)(hle:vs.length<=ws.length):Drw S X B φ H (ya3 vs ws) (Itz X.K y z):=by
 have hl:=l.length;have hl2:=l2.length;have hp:=zd6 vs ws hle;refine⟨λφ' H' s=>⟨xs,(rt.step s).sq,by lia⟩,λi φ' H' s hi=>⟨xs,ys,xs[i]'(by lia),ys[i]'(by lia),(rt.step s).sq,(rt2.step s).sq,by simp[show i<xs.length by lia],by simp[show i<ys.length by lia]⟩,λi φ' H' st x H2 B' hB s rs hi q=>?_⟩;let⟨T,hT,rfl,q⟩:=q;obtain⟨v,hv⟩:∃v,vs[i]?=AA v:=⟨vs[i]'(by lia),by simp[show i<vs.length by lia]⟩;obtain⟨w,hw⟩:∃w,ws[i]?=AA w:=⟨ws[i]'(by lia),by simp[show i<ws.length by lia]⟩;let⟨x',hx',rv⟩:=l.get i hv;let⟨y',hy',rw'⟩:=l2.get i hw;have e:=q xs ys x' y' (rt.step s).sq (rt2.step s).sq hx' hy';subst e;refine⟨.tup [v,w],zeO vs ws i hv hw,.tup_new hT rs ?_,λb o e=>by rw[zh (zl e hT)];exact e⟩;erw[ye];exact⟨x',[y'],rfl,(rv.moreB hB).step s,y',[],rfl,(rw'.moreB hB).step s,rfl⟩
theorem znw{es:List AS}{kk:Nat}{tp:CH}(hg:Gl X "zip")(hm:X.mg "zip"=AC)(ha:PE X a (tE S X ca))(hb:PE X b (tE S X cb))(hs:starEach [a,b] X.env=[(AD,eval a X.env),(AD,eval b X.env)]:=by rfl)(hs2:starEach [b] X.env=[(AD,eval b X.env)]:=by rfl):
  PI X (.Tuple es kk tp) (.Call (.Name "zip" p) [a,b] [] pos) (tI S X (.zip ca cb)):=
 (zjO hg hm (zbd ha (zbd hb yba hs2) (by rw[hs,hs2])) hs hs2).imp λσ H R ⟨B,φ,st,ρ,rs,re,h⟩=>by
  erw[evi]at h;refine tE.bind rs re h λx H1 v st1 φ1 s1 rs1 re1 rv h1=>tE.bind rs1 re1 h1 λy H2 w st2 φ2 s2 rs2 re2 rw h2=>?_;let⟨zs,e,h2⟩:=zgA h2
  cases v with
  |tp k vs=>
   cases w with
   |tp j ws=>
    erw[yeN]at e
    by_cases hle:vs.length<=ws.length
    .rw[if_pos hle]at e
     cases e
     erw[yd]at rv rw;let⟨a1,xs,rfl,rt,l⟩:=rv;let⟨a2,ys,rfl,rt2,l2⟩:=rw;exact⟨a1,a2,rfl,⟨xs,(rt.step s2).sq⟩,⟨ys,rt2.sq⟩,h2.ok rs2 (zkr (rt.step s2) (l.step s2) rt2 l2 hle)⟩
    .rw[if_neg hle]at e
     cases e
   |_=>cases e
  |_=>cases e
end
section
variable {K:AE}{cl:Nat->AI}{B:AI->Prop}{φ:Ph}{H:Hp}{st:SO}
end
section
variable {S:Se}{X:Cx}{K:AE}{cl:Nat->AI}{σ:St}{B:AI->Prop}{φ φ1:Ph}{H H1:Hp}{st:SO}{ρ:IC.Env}{pos p p2 px:CH}{a b c o tg l elt iter:AS}{ca cb cc ce:Ce}{ci:Cit}{ct:Tg}
end
section
variable {K:AE}{cl:Nat->AI}{B:AI->Prop}{φ:Ph}{H:Hp}{st:SO}
theorem FS.lookup{f:AQ}:∀{fs:List (AQ×PV)} {ks:List (AQ×V)},FS K cl B φ H fs ks->(∀v,fs.lookup f=AA v->∃x,ks.lookup f=AA x/\yd K cl B φ H v x)/\(fs.lookup f=AC->ks.lookup f=AC)
 |[],ks,h=>by
  cases (show ks=[]from h)
  exact⟨nofun,λ_=>rfl⟩
 |(k,v)::r,ks,h=>by
  let⟨x,s,rfl,rv,l⟩:=h;let⟨q1,q2⟩:=FS.lookup (f:=f) l;erw[Bw]
  cases e:f==k with
  |true=>exact⟨λw z=>by cases z;exact⟨x,rfl,rv⟩,λz=>by cases z⟩
  |false=>exact⟨q1,q2⟩
theorem FS.put{f:AQ}{v:PV}{x:V}(r:yd K cl B φ H v x):∀{fs:List (AQ×PV)} {ks:List (AQ×V)},FS K cl B φ H fs ks->FS K cl B φ H (ybJ f v fs) (yaR f x ks)
 |[],ks,h=>by
  cases (show ks=[]from h)
  exact⟨x,[],rfl,r,rfl⟩
 |(k,w)::q,ks,h=>by
  let⟨y,s,rfl,ry,l⟩:=h;erw[ybJ,yaR]
  by_cases c:k=f
  .rw[if_pos c,if_pos c];exact⟨x,s,rfl,r,l⟩
  .rw[if_neg c,if_neg c];exact⟨y,_,rfl,ry,FS.put r l⟩
theorem FS.len:∀{fs:List (AQ×PV)} {ks:List (AQ×V)},FS K cl B φ H fs ks->fs.length=ks.length
 |[],ks,h=>by cases (show ks=[]from h);rfl
 |(k,w)::q,ks,h=>by
  let⟨y,s,rfl,ry,l⟩:=h;simp[FS.len l]
theorem yt.ins{n c:Nat}{fs:List (AQ×PV)}{x:V}(rs:yt K cl B φ H st)(r:yd K cl B φ H (.loc n) x)(h:st[n]?=AA (.ins c fs)):∃y ks dx,x=.ref y/\φ[n]?=AA (AA y)/\H y=AA (.ins (cl c) dx ks)/\FS K cl B φ H fs ks:=by
 erw[yd]at r;let⟨hn,y,rfl,hy⟩:=r;let⟨a,ha⟩:=rs.liv n _ h (by intro z;cases z);let⟨o,ho,ro⟩:=rs.obj n a ha;have e:=hy a ha;subst e;rw[h]at ho
 cases ho
 let⟨ks,⟨dx,q⟩,l⟩:=ro;exact⟨a,ks,dx,rfl,ha,q,l⟩
end
section
variable {S:Se}{X:Cx}{σ:St}{B:AI->Prop}{φ φ1:Ph}{H H1:Hp}{st:SO}{ρ:IC.Env}{p pos pos' p2 apos:CH}{a b d o e:AS}{ca cb cc:Ce}{es:List AS}{ces:Ces}{c i k:Nat}{f m x:AQ}{fa:AI}{fd:Az}{ps:List AQ}
theorem zfD{st:SO}{x v:PV}(h:ybD c st x f=AA v):∃n fs,x=.loc n/\st[n]?=AA (.ins c fs)/\fs.lookup f=AA v:=by
 cases x with
 |loc n=>
  erw[ybD]at h;split at h
  .rename_i dd fs e;split at h
   .rename_i q;subst q;exact⟨n,fs,rfl,e,h⟩
   .cases h
  .cases h
 |_=>cases h
theorem zfU{st st4:SO}{x v:PV}(h:ya9 c st x f v=AA st4):∃n fs,x=.loc n/\st[n]?=AA (.ins c fs)/\fs.length<1000/\st4=st.set n (.ins c (ybJ f v fs)):=by
 cases x with
 |loc n=>
  erw[ya9]at h;split at h
  .rename_i dd fs e;split at h
   .rename_i q;let⟨q,q2⟩:=q;subst q
    cases h
    exact⟨n,fs,rfl,e,q2,rfl⟩
   .cases h
  .cases h
 |_=>cases h
theorem ziL{st:SO}{x:PV}{t:Bool}(h:yb5 c m st x=AA t):∃n fs,x=.loc n/\st[n]?=AA (.ins c fs)/\fs.lookup m=none:=by
 cases x with
 |loc n=>
  erw[yb5]at h;split at h
  .rename_i dd fs e;split at h
   .rename_i q;let⟨q,q2⟩:=q;subst q;exact⟨n,fs,rfl,e,q2⟩
   .cases h
  .cases h
 |_=>cases h
theorem zlr(hc:Cls X.K (S.cl c))(hn:yam X.K (S.cl c) f)(ha:PE X a (tE S X ca))(hb:attributeBase a f X.env (eval a X.env)=eval a X.env:=by rfl):PE X (.Attribute a f pos) (tE S X (.fld c ca f)):=
 (zm3 ha hb).imp λσ H Q ⟨B,φ,st,ρ,rs,re,h⟩=>by
  erw[ev]at h;refine tE.bind rs re h λx H1 v st1 φ1 s1 rs1 re1 rv h1=>?_;let⟨z,e,q⟩:=z5 h1 rs1;let⟨n,fs,rfl,hn',l⟩:=zfD e;let⟨y,ks,dx,rfl,_,hy,lr⟩:=rs1.ins rv hn';let⟨x,hx,rx⟩:=lr.lookup.1 z l;exact⟨y,S.cl c,dx,ks,x,rfl,hy,hc,hn,hx,q x H1 φ1 .rfl rs1 rx⟩
theorem zlw(hc:Cls X.K (S.cl c))(hn:yam X.K (S.cl c) f)(ha:PE X a (tE S X ca))(hv:PE X b (tE S X cb))(hs:swapsWith b (AA (.Attribute a f pos')) pos.line X.env=pure false:=by rfl):PS X (.Assign [.Attribute a f pos'] b pos) (tS S X (.sfl c ca f cb)):=
 (zm0 ha hv hs).imp λD σ H ⟨B,φ,st,ρ,rs,re,h⟩=>by
  erw[ex]at h;refine tE.fl rs re h λv' H1 v st1 φ1 s1 rs1 re1 rv h1=>tE.fl rs1 re1 h1 λx' H2 x st2 φ2 s2 rs2 re2 rx h2=>?_
  cases e:ya9 c st2 x f v with
  |none=>rw[e]at h2;exact h2.elim
  |some st4=>
   rw[e]at h2;let⟨n,fs,rfl,hn',hl,rfl⟩:=zfU e;let⟨y,ks,dx,rfl,hp,hy,lr⟩:=rs2.ins rx hn';refine⟨y,S.cl c,dx,ks,rfl,hy,hc,hn,by rw[<-lr.len];exact hl,?_⟩;have s4:Step φ2 H2 φ2 (L2.upd H2 y (.ins (S.cl c) dx (yaR f v' ks))):=.put (A4 hp);exact h2 σ _ φ2 s4 (rs2.put (o:=.ins c (ybJ f v fs)) hp ⟨_,⟨dx,zp⟩,(FS.put (rv.step s2) lr).step s4⟩) (re2.step s4)
theorem noX:ybo (CX1 X.prog X.w) X (λ_ _ _=>False):=λpins σ H s e s' _ z=>by
 let⟨_,_,_,_,_,_,_,_,_,_,_,_,_,_,z⟩:=z;exact z.elim
theorem zgk{vs:List PV}{xs:List V}{Q:VK}{rs:yt X.K S.cl B φ H st}(l:ye X.K S.cl B φ H vs xs)(h:Run S X σ B φ H (RV S X B) ((ybu (S.call i (.loc st.length::vs) (st++[.ins c []]))).bind λv st2=>newV st.length v st2) Q):
  ∀x dx,H x=AC->H dx=AC->dx≠x->spI X.K S.cl S.call i (.ref x::xs) (L2.upd (L2.upd H dx (.own x)) x (.ins (S.cl c) dx [])) (λv H2=>v=.non/\Q (.ref x) H2) (λ_ _ _=>False):=by
 intro x dx hx hdx ne;have hx':L2.upd H dx (.own x) x=none:=by rw[zh (BI ne)];exact hx
 have t1:Step φ H φ (L2.upd H dx (.own x)):=.upd hdx;have rs1:=rs.upd (o:=.own x) hdx;have t2:Step φ (L2.upd H dx (.own x)) (φ++[AA x]) (L2.upd (L2.upd H dx (.own x)) x (.ins (S.cl c) dx [])):=.push hx';have rs2:=rs1.push hx' (rs1.nB hx') (o:=.ins c []) ⟨[],⟨dx,zp⟩,rfl⟩;have ll:yd X.K S.cl B (φ++[AA x]) (L2.upd (L2.upd H dx (.own x)) x (.ins (S.cl c) dx [])) (.loc st.length) (.ref x):=.loc_new rs1;refine⟨B,φ++[AA x],st++[.ins c []],.loc st.length::vs,rs2,?_,?_⟩
 .simp only[ye];exact⟨.ref x,xs,rfl,ll,(l.step t1).step t2⟩
 .cases e:S.call i (.loc st.length::vs) (st++[.ins c []])with
  |ok v st'=>
   rw[e]at h;erw[ybu,R.bind]at h
   cases v with
   |non=>
    intro z H' φ' s rs' rz;erw[yd]at rz;exact⟨rz,h (.ref x) H' φ' ((t1.trans t2).trans s) rs' (ll.step s)⟩
   |_=>exact h.elim
  |exc k s=>rw[e]at h;exact h.elim
  |bad=>rw[e]at h;exact h.elim
theorem zlv(M:Mk X.K (S.cl c) fa)(F:yaE X.prog X.w X.K X.mg X.base (CX1 X.prog X.w) k fa fd ps (spI X.K S.cl S.call i))(hr:yan (k+1) X.A)(hg:Gl X x)(hm:X.mg x=AA (.ref (S.cl c)))(hb:Binds X.K fd ps [])
  (ha:PA X (e::es) (tAs S X ces)) (hdb:(x==("__debug__":AQ))=false:=by decide) (he:starEach (e::es) X.env=(AD,eval e X.env)::starEach es X.env:=by rfl) (hpl:(backTo pos (starEach es X.env)).any (·.1)=false:=by rfl):
  PE X (.Call (.Name x p) (e::es) [] pos) (tE S X (.new c i ces)):=
 (zk5 M F hr hg hm hb .nil noX ha hdb he hpl).imp λσ H Q ⟨B,φ,st,ρ,rs,re,h⟩=>by
  erw[ev]at h;refine tAs.bind rs re h λxs H1 vs st1 φ1 s1 rs1 re1 rv h1=>?_;rw[CG];exact zgk (rs:=rs1) rv h1
noncomputable def ybF(CX:CXT)(X:Cx)(C:AI)(m:AQ)(sp:Sp)(ta:TE)(t:TA):TE:=λσ H Q=>ta σ H λx H1=>∃y dx fs,x=.ref y/\H1 y=AA (.ins C dx fs)/\fs.lookup m=AC/\t σ H1 λvs H2=>∃E:XK,sp (.ref y::vs) H2 Q E/\∀pins s e s',Inv X pins σ H2 s->CX X.stack H2 s E e s'->X.xe e s'
theorem zi7{CX:CXT}{sp:Sp}{C:AI}{ta:TE}{t:TA}{pl:Gd Bool}(he:PE X o ta)(c:Cls X.K C)(hm:Meth X.K C m fa)(F:yaE X.prog X.w X.K X.mg X.base CX k fa fd ps sp)(hr:yan k X.A)(hb:Binds X.K fd ps [])(ha:PA X (e::es) t)
  (hst:starEach (e::es) X.env=(AD,eval e X.env)::starEach es X.env:=by rfl) (hpl:(backTo pos (starEach es X.env)).any (·.1)=false:=by rfl)
  (ht:eval (.Call (.Attribute o m apos) (e::es) [] pos) X.env=(do
   let ov <-eval o X.env
   standAt apos.atName
   let (f,first) <-holding [ov] (getMethod ov m pl)
   callWith pos f first (backTo pos (starEach (e::es) X.env)) (backToKw pos (keywordEach [] X.env))):=by rfl):
  PE X (.Call (.Attribute o m apos) (e::es) [] pos) (ybF CX X C m sp ta t):=by
 intro pins s σ H Q I h;refine En (pl:=pl) (thn (he pins s σ H _ I h) λu s1 kq=>?_) ht;let⟨x,H1,I1,rx,y,dx,fs,ex,ea,l,q⟩:=kq;subst ex;obtain rfl:u=Af y:=rx;refine zc9 I1 ea c hm l ?_;refine Cw (first:=[.ref y]) (h₀:=X.base) I.ok.mod.kin hm.kp (thn (ha pos pins s1 σ H1 _ I1 q) λus s2 kq=>?_) hst hpl;let⟨vs,H2,I2,r,E,q2,hx⟩:=kq;refine ⟨I2.kIn,?_⟩;exact zcU (us:=.ref y::us) (vs:=.ref y::vs) F hr hb .nil I2 (.cons rfl r) (by rw[CG];exact q2) λe s' z=>hx pins s2 e s' I2 z
theorem zhy{CX:CXT}{sp:Sp}{C:AI}{ta:TE}{pl:Gd Bool}(he:PE X o ta)(c:Cls X.K C)(hm:Meth X.K C m fa)(F:yaE X.prog X.w X.K X.mg X.base CX k fa fd ps sp)(hr:yan k X.A)(hb:Binds X.K fd ps [])
  (ht:eval (.Call (.Attribute o m apos) [] [] pos) X.env=(do
   let ov <-eval o X.env
   standAt apos.atName
   let (f,first) <-holding [ov] (getMethod ov m pl)
   callWith pos f first (backTo pos (starEach [] X.env)) (backToKw pos (keywordEach [] X.env))):=by rfl):
  PE X (.Call (.Attribute o m apos) [] [] pos) (ybF CX X C m sp ta ycQ):=by
 intro pins s σ H Q I h;refine En (pl:=pl) (thn (he pins s σ H _ I h) λu s1 kq=>?_) ht;let⟨x,H1,I1,rx,y,dx,fs,ex,ea,l,E,q2,hx⟩:=kq;subst ex;obtain rfl:u=Af y:=rx;refine zc9 I1 ea c hm l ?_;exact FG (first:=[.ref y]) I1.kIn hm.kp (zcU (us:=[.ref y]) (vs:=[.ref y]) F hr hb .nil I1 (.cons rfl .nil) q2 λe s' z=>hx pins s1 e s' I1 z)
theorem zei{Q:VK}{t:TA}(hq:∀{H1:Hp} {φ1:Ph} {st1:SO} {P:List V->Hp->Prop} {kk:List PV->SO->R PV},yt X.K S.cl B φ1 H1 st1->yI X.K S.cl B φ1 H1 ρ σ->Run S X σ B φ1 H1 (RV S X B) ((evs S.call ρ st1 ces).bind kk) Q ->
   (∀xs H2 vs st2 φ2,Step φ1 H1 φ2 H2->yt X.K S.cl B φ2 H2 st2->yI X.K S.cl B φ2 H2 ρ σ->ye X.K S.cl B φ2 H2 vs xs->Run S X σ B φ2 H2 (RV S X B) (kk vs st2) Q->P xs H2)->t σ H1 P)
  (rs:yt X.K S.cl B φ H st) (re:yI X.K S.cl B φ H ρ σ) (h:Run S X σ B φ H (RV S X B) ((ev S.call ρ st ca).bind λx st1=>onO (yb5 c m st1 x) λ_=>(evs S.call ρ st1 ces).bind λvs st2=>S.call i (x::vs) st2) Q):
  ybF (CX1 X.prog X.w) X (S.cl c) m (spI X.K S.cl S.call i) (tE S X ca) t σ H Q:=by
 refine tE.bind rs re h λx H1 v st1 φ1 s1 rs1 re1 rv h1=>?_
 cases q:yb5 c m st1 v with
 |none=>rw[q]at h1;exact h1.elim
 |some b=>
  rw[q]at h1;erw[onO]at h1;let⟨n,fs,rfl,hn,hl⟩:=ziL q;let⟨y,ks,dx,rfl,_,hy,lr⟩:=rs1.ins rv hn;refine⟨y,dx,ks,rfl,hy,lr.lookup.2 hl,hq rs1 re1 h1 λxs H2 vs st2 φ2 s2 rs2 re2 rl h2=>?_⟩;exact zaH rs2 (by erw[ye];exact⟨.ref y,xs,rfl,rv.step s2,rl⟩) h2
theorem zlR{pl:Gd Bool}(hc:Cls X.K (S.cl c))(hm:Meth X.K (S.cl c) m fa)(F:yaE X.prog X.w X.K X.mg X.base (CX1 X.prog X.w) k fa fd ps (spI X.K S.cl S.call i))(hr:yan k X.A)(hb:Binds X.K fd ps [])
  (ho:PE X o (tE S X ca)) (ha:PA X (e::es) (tAs S X ces))
  (hst:starEach (e::es) X.env=(AD,eval e X.env)::starEach es X.env:=by rfl) (hpl:(backTo pos (starEach es X.env)).any (·.1)=false:=by rfl)
  (ht:eval (.Call (.Attribute o m apos) (e::es) [] pos) X.env=(do
   let ov <-eval o X.env
   standAt apos.atName
   let (f,first) <-holding [ov] (getMethod ov m pl)
   callWith pos f first (backTo pos (starEach (e::es) X.env)) (backToKw pos (keywordEach [] X.env))):=by rfl):
  PE X (.Call (.Attribute o m apos) (e::es) [] pos) (tE S X (.mcl c i m ca ces)):=
 (zi7 ho hc hm F hr hb ha hst hpl ht).imp λσ H Q ⟨B,φ,st,ρ,rs,re,h⟩=>by
  erw[ev]at h;exact zei (λrs1 re1 h1 n=>tAs.bind rs1 re1 h1 n) rs re h
theorem zk9{pl:Gd Bool}(hc:Cls X.K (S.cl c))(hm:Meth X.K (S.cl c) m fa)(F:yaE X.prog X.w X.K X.mg X.base (CX1 X.prog X.w) k fa fd ps (spI X.K S.cl S.call i))(hr:yan k X.A)(hb:Binds X.K fd ps [])
  (ho:PE X o (tE S X ca))
  (ht:eval (.Call (.Attribute o m apos) [] [] pos) X.env=(do
   let ov <-eval o X.env
   standAt apos.atName
   let (f,first) <-holding [ov] (getMethod ov m pl)
   callWith pos f first (backTo pos (starEach [] X.env)) (backToKw pos (keywordEach [] X.env))):=by rfl):
  PE X (.Call (.Attribute o m apos) [] [] pos) (tE S X (.mcl c i m ca .nil)):=
 (zhy ho hc hm F hr hb ht).imp λσ H Q ⟨B,φ,st,ρ,rs,re,h⟩=>by
  erw[ev]at h;refine zei (t:=ycQ) (λ{H1 φ1 st1 P kk} rs1 re1 h1 n=>?_) rs re h;erw[evs,R.bind]at h1;exact n [] H1 [] st1 φ1 .rfl rs1 re1 (by erw[ye]) h1
end
inductive ybY(w:Ag)(fa:Nat->AI):List (AQ×Nat)->List By->Prop
 |nil:ybY w fa [] []
 |cons {k:AQ} {i:Nat} {t:HQ} {D:List (AQ×Nat)} {es:List By} (h:ybY w fa D es):ybY w fa ((k,i)::D) (⟨Dq w.params k,.str k t,.ref (fa i)⟩ :: es)
def GDF(K:AE)(w:Ag)(mg:AQ->Option AF)(fa:Nat->AI)(x:AQ)(D:List (AQ×Nat)):Prop:=
 ∃(y:AI) (es:Array By) (ep:Nat),mg x=AA (.ref y)/\K.lookup y=AA ⟨.type "dict",AC,.dict es ep,#[]⟩/\ybY w fa D es.toList/\(D.map (·.1)).Nodup
theorem ybY.pairs{P:A7}{w:Ag}{fa:Nat->AI}{D:List (AQ×Nat)}{es:List By}(h:ybY w fa D es):
  ∃vs:List (AQ×AF),Pairs (strKind P w) es vs/\(∀e∈es,∃k,(strKind P w).is k e.key=AB/\e.hash=(strKind P w).hash k)/\vs.map (·.1)=D.map (·.1) /\
   ∀s i,D.lookup s=AA i->valueAt vs s=AA (.ref (fa i)):=by
 induction h with
 |nil=>exact⟨[],.nil,λe he=>(by cases he),rfl,λs v e=>by cases e⟩
 |@cons k i t D es h ih=>
  let⟨vs,h1,h2,h3,h5⟩:=ih;have hat:∀s,valueAt ((k,Af (fa i))::vs) s=if k=s then AA (.ref (fa i))else valueAt vs s:=λs=>by
   unfold valueAt;rw[Bq]
   by_cases e:k=s
   .simp[e]
   .simp[e]
  refine⟨(k,.ref (fa i))::vs,.cons (DP P w k t) rfl h1,λe he=>?_,by rw[AO,AO,h3],λs j e=>?_⟩
  .rcases Ad.1 he with rfl|he
   .exact⟨k,DP P w k t,rfl⟩
   .exact h2 e he
  .rw[hat];erw[Bw]at e
   by_cases q:k=s
   .subst q;rw[beq_self_eq_true]at e
    cases e
    rw[if_pos rfl]
   .rw[beq_eq_false_iff_ne.2 (BI q)]at e;rw[if_neg q];exact h5 s j e
section
variable {S:Se}{X:Cx}{σ:St}{B:AI->Prop}{φ:Ph}{H:Hp}{st:SO}{ρ:IC.Env}{pos p p1 p2 p3 p4 p5 p6 p7:CH}{a b i e n:AS}{es:List AS}{ca cn:Ce}{ces:Ces}{x y:AQ}{D:List (AQ×Nat)}{ty:TE}{t:TA}{fa:Nat->AI}{fdd:Nat->Az}{ps:Nat->List AQ}{k ix:Nat}
noncomputable def ydg(D:List (AQ×Nat))(fa:Nat->AI)(ty:TE):TE:=λσ H Q=>ty σ H λz H2=>∃s j,z=.str s/\D.lookup s=AA j/\Q (.ref (fa j)) H2
theorem ziK(hg:Gl X x)(h:GDF X.K X.w X.mg fa x D)(hi:PE X i ty)(hs:ycD i)(hd:(x==("__debug__":AQ))=false:=by decide):PE X (.Subscript (.Name x p) i pos) (ydg D fa ty):=by
 let⟨y,es,ep,hm,hk,hr,hn⟩:=h;let⟨vs,h1,h2,h3,h5⟩:=hr.pairs (P:=X.prog);intro pins s σ H Q I q0;refine zhC Dy.lookup hs (thn (zcR (v:=.ref y) hg hm rfl hd pins s σ H (λz H1=>z=.ref y/\ty σ H1 λz H2=>∃s j,z=.str s/\D.lookup s=AA j/\Q (.ref (fa j)) H2) I ⟨rfl,q0⟩) λu s1 kq=>?_);let⟨z,H1,I1,rz,ez,q1⟩:=kq;refine thn (hi pins s1 σ H1 _ I1 q1) λiv s2 kq=>?_;let⟨z2,H2,I2,rz2,sx,j,ez2,e,q2⟩:=kq;subst ez;subst ez2;obtain rfl:u=Af y:=rz;let⟨t,rfl⟩:=rz2;have dd:s2.heap.DictOf (strKind X.prog X.w) y vs:=⟨_,es,ep,I2.kIn y _ hk,⟨rfl,rfl,rfl⟩,rfl,λe he=>h2 e (by simpa using he),h1,by rw[h3];exact hn⟩;exact⟨dd.typeIs,GL (DP X.prog X.w sx t) dd.mapOf (h5 sx j e) ⟨.ref (fa j),H2,I2.tok _,rfl,q2⟩⟩
structure Makers(S:Se)(X:Cx)(k:Nat)(D:List (AQ×Nat))(fa:Nat->AI)(fdd:Nat->Az)(ps:Nat->List AQ):Prop where
 F:∀s j,D.lookup s=AA j->yaE X.prog X.w X.K X.mg X.base (CX1 X.prog X.w) k (fa j) (fdd j) (ps j) (spI X.K S.cl S.call j)
 kp:∀s j,D.lookup s=AA j->An X.K (.ref (fa j))=AB
 b:∀s j,D.lookup s=AA j->Binds X.K (fdd j) (ps j) []
def yc2(S:Se)(X:Cx)(D:List (AQ×Nat))(fa:Nat->AI)(ix:Nat)(t:TA):TE:=λσ H Q=>∃s j,D.lookup s=AA j/\σ[ix]?=AA (AA (.ref (fa j)))/\t σ H λvs H1=>∃E:XK,spI X.K S.cl S.call j vs H1 Q E/\∀pins s e s',Inv X pins σ H1 s->CX1 X.prog X.w X.stack H1 s E e s'->X.xe e s'
theorem ziq(M:Makers S X k D fa fdd ps)(hr:yan k X.A)(hN:X.N[ix]?=AA x)(hv:Vis X.env.scope x)(ha:PA X (e::es) t)
  (hd:(x==("__debug__":AQ))=false:=by decide) (hcd:(x==("__classdict__":AQ))=false:=by decide) (he:starEach (e::es) X.env=(AD,eval e X.env)::starEach es X.env:=by rfl) (hpl:(backTo pos (starEach es X.env)).any (·.1)=false:=by rfl):
  PE X (.Call (.Name x p) (e::es) [] pos) (yc2 S X D fa ix t):=by
 intro pins s σ H Q I ⟨sx,j,hl,hs,h⟩;refine BT (thn (zjj hN hv hd hcd pins s σ H (λz H1=>z=.ref (fa j)/\t σ H1 λvs H1=>∃E:XK,spI X.K S.cl S.call j vs H1 Q E/\∀pins s e s',Inv X pins σ H1 s->CX1 X.prog X.w X.stack H1 s E e s'->X.xe e s') I ⟨_,hs,rfl,h⟩) λu s1 kq=>?_);let⟨z,H1,I1,rz,ez,q1⟩:=kq;subst ez;obtain rfl:u=Af (fa j):=rz;refine Cw (h₀:=X.base) I.ok.mod.kin (M.kp sx j hl) (thn (ha pos pins s1 σ H1 _ I1 q1) λus s2 kq=>?_) he hpl;let⟨vs,H2,I2,r,E,q,hx⟩:=kq;refine ⟨I2.kIn,?_⟩;exact zcU (M.F sx j hl) hr (M.b sx j hl) .nil I2 r (by rw[CG];exact q) λe s' c=>hx pins s2 e s' I2 c
theorem yI.hole{K:AE}{cl:Nat->AI}{v:V}(re:yI K cl B φ H ρ σ):yI K cl B φ H (ρ.set ix AC) (σ.set ix (AA v)):=by
 refine⟨by simp[re.len],λj w e=>?_⟩
 by_cases q:ix=j
 .subst q
  by_cases hj:ix<ρ.length
  .rw[A8 hj]at e;cases e
  .rw[BO (by simp;lia)]at e;cases e
 .rw[AR q]at e ⊢;exact re.get j w e
theorem zi4{v:PV}{j:Nat}{b:Bool}(h:mkV D b v=AA j):∃s,v=.str s/\D.lookup s=AA j/\b=true:=by
 cases v with
 |str s=>
  cases b with
  |true=>exact⟨s,rfl,h,rfl⟩
  |false=>cases h
 |_=>cases h
theorem zlB(M:Makers S X k D fa fdd ps)(hr:yan k X.A)(hN:X.N.Nodup)(hi:X.N[ix]?=AA x)(hx:Loc X.env.scope x)(hv:Vis X.env.scope x)(hg:Gl X y)(hd:GDF X.K X.w X.mg fa y D)(hn:PE X n (tE S X cn))(ha:PA X (e::es) (tAs S X ces))
  (hs:ycD n:=by exact λ_ _=>rfl) (hsw:swapsWith (.Subscript (.Name y p2) n p3) (AA (.Name x p1)) p4.line X.env=pure false:=by rfl) (hf:X.fn x=AB \/ X.env.scope.names.lookup x=AA .local:=by first|exact .inl rfl|exact .inr rfl|assumption)
  (hyd:(y==("__debug__":AQ))=false:=by decide) (hxd:(x==("__debug__":AQ))=false:=by decide) (hcd:(x==("__classdict__":AQ))=false:=by decide) (he:starEach (e::es) X.env=(AD,eval e X.env)::starEach es X.env:=by rfl) (hpl:(backTo p6 (starEach es X.env)).any (·.1)=false:=by rfl):
  PSs X [.Assign [.Name x p1] (.Subscript (.Name y p2) n p3) p4,.Return (AA (.Call (.Name x p5) (e::es) [] p6)) p7] (tSs S X (.cons (.mkr ix D cn ces) .nil)):=
 (zfP (zjD hN hi hx (ziK hg hd hn hs hyd) hsw hf) (zkf (zjG (ziq M hr hi hv ha hxd hcd he hpl)))).imp λD' σ H ⟨B,φ,st,ρ,rs,re,h⟩=>by
  have h:yaB S X B φ H (ex S.call ρ st (.mkr ix D cn ces)) D':=by
   erw[exs]at h
   cases q:ex S.call ρ st (.mkr ix D cn ces)with
   |nx ρ' s'=>
    exfalso;erw[ex]at q
    cases q1:ev S.call ρ st cn with
    |ok v1 s1=>
     rw[q1]at q;erw[R.fl]at q;split at q
     .rename_i j _
      cases q2:(evs S.call (ρ.set ix AC) s1 ces).bind λvs st2=>S.call j vs st2 with
      |ok v2 s2=>rw[q2]at q;cases q
      |exc c s2=>rw[q2]at q;cases q
      |bad=>rw[q2]at q;cases q
     .cases q
    |exc c s1=>rw[q1]at q;cases q
    |bad=>rw[q1]at q;cases q
   |rt v s'=>rw[q]at h;exact h
   |bk ρ' s'=>rw[q]at h;exact h
   |ct ρ' s'=>rw[q]at h;exact h
   |exc c ρ' s'=>rw[q]at h;exact h
   |bad=>rw[q]at h;exact h
  erw[ex]at h;refine tE.fl rs re h λx' H1 v st1 φ1 s1 rs1 re1 rv h1=>?_
  cases q:mkV D (decide (ix<ρ.length)) v with
  |none=>rw[q]at h1;exact h1.elim
  |some j=>
   rw[q]at h1;let⟨sx,rfl,hl,hb⟩:=zi4 q;erw[yd]at rv;subst rv;have hlen:ix<σ.length:=by
    rw[<-re1.len];exact of_decide_eq_true hb
   refine⟨sx,j,rfl,hl,sx,j,hl,by rw[A8 hlen],B,φ1,st1,ρ.set ix AC,rs1,re1.hole,?_⟩;dsimp only at h1
   cases q2:evs S.call (ρ.set ix AC) st1 ces with
   |bad=>rw[q2]at h1;exact h1
   |exc c s2=>rw[q2]at h1;exact λe s' z=>h1 _ φ1 H1 e s' .rfl re1.hole z
   |ok vs st2=>
    rw[q2]at h1;intro xs H2 φ2 s2 rs2 rl;have h2:yaB S X B φ1 H1 ((S.call j vs st2).fl (ρ.set ix AC) λv st3=>.rt v st3) D':=h1;refine zaH rs2 rl ?_
    cases q3:S.call j vs st2 with
    |bad=>rw[q3]at h2;exact h2
    |ok v st3=>rw[q3]at h2;exact λx H' φ' s' rs' rv=>h2 x H' φ' (s2.trans s') rs' rv
    |exc c st3=>rw[q3]at h2;exact λe s' z=>h2 _ φ2 H2 e s' s2 (re1.hole.step s2) z
end
section
variable {P:A7}{w:Ag}{K:AE}{mg:AQ->Option AF}{base:Ay}{cl:Nat->AI}{T:Nat->Option IC.Fn}{fi:Nat}{fn:IC.Fn}{x qual:AQ}{stm:Bn}{f:AI}{fd:Az}{N ps:List AQ}{k m:Nat}
theorem zin:yaE P w K mg base (CX1 P w) m f fd ps (spI K cl (yc T 0) fi):=
 ⟨λvs H Q E ⟨_,_,_,_,_,_,h⟩=>by rw[yc]at h;exact h.elim,λA outer s H args us vs Q E _ _ _ _ ⟨_,_,_,_,_,_,h⟩=>by rw[yc]at h;exact h.elim⟩
end
theorem yc4.units{k:Nat}{A:Am}(r:yc4 k A):A.units+64<cLine:=by have:=r.un;lia
section
variable {P:A7}{w:Ag}{K:AE}{mg:AQ->Option AF}{base:Ay}{cl:Nat->AI}{T:Nat->Option IC.Fn}{fi:Nat}{fn:IC.Fn}{x qual:AQ}{stm:Bn}{f:AI}{fd:Az}{N ps:List AQ}{k m:Nat}
end
section
variable {S:Se}{X:Cx}{σ:St}{B:AI->Prop}{φ:Ph}{H:Hp}{st:SO}{ρ:IC.Env}{p pos:CH}{e:AS}{es:List AS}{ces:Ces}{fi k:Nat}{x:AQ}{f:AI}{fd:Az}{ps:List AQ}
end
end L2
namespace L2
open PySem IC
section
variable {S:Se}{X:Cx}{σ:St}{B:AI->Prop}{φ φ1:Ph}{H H1:Hp}{st:SO}{ρ:IC.Env}{p pos p2 px py pt pt2:CH}{a b c d o a' b' c' d':AS}{ca cb cc cd ce cf:Ce}{pins:List (AI×Bs)}{s:AJ}{kt k2:Nat}{es:List AS}{ces:Ces}{x:AQ}
end
end L2
namespace L2
open PySem PySem.Spec PyProof.Rows
section
variable {X:Cx}
end
end L2
namespace L2
open PySem PySem.Spec PyProof.Rows IC
section
variable {S:Se}{X:Cx}{σ:St}{B:AI->Prop}{φ φ1:Ph}{H H1:Hp}{st:SO}{ρ:IC.Env}{p pos p2 apos:CH}{a b c d:AS}{ca cb cc:Ce}{es:List AS}{ces:Ces}{K:AE}{cl:Nat->AI}
end
section
variable {S:Se}{X:Cx}{a b:AS}{c i:Nat}{j:Int}{f:AQ}{pos tpos:CH}
theorem znj(hc:Cls X.K (S.cl c))(hn:yam X.K (S.cl c) f)(ha:PE X a (tE S X (.var i)))(hv:PE X b (tE S X (.cst (.int j)))):
  PS X (.AugAssign (.Attribute a f tpos) .Add b pos) (tS S X (.sfl c (.var i) f (.bin .add (.fld c (.var i) f) (.cst (.int j))))):=
 (zhU ha hv zmU).imp λD σ H ⟨B,φ,st,ρ,rs,re,h⟩=>by
  erw[ex,ev]at h
  cases q:ρ[i]? with
  |none=>rw[q]at h;exact h.elim
  |some o=>
   cases o with
   |none=>rw[q]at h;exact h.elim
   |some x=>
    rw[q]at h;dsimp only[R.bind]at h;refine⟨B,φ,st,ρ,rs,re,?_⟩;erw[ev,q];intro x' H1 φ1 s1 rs1 rx;have re1:=re.step s1;have h:=yaB.on s1 h
    cases e:ybD c st x f with
    |none=>rw[e]at h;exact h.elim
    |some v=>
     rw[e]at h;let⟨n,fs,rfl,hn',l⟩:=zfD e;let⟨y,ks,dx,rfl,hp,hy,lr⟩:=rs1.ins rx hn';let⟨x,hx,rxv⟩:=lr.lookup.1 v l;refine⟨y,S.cl c,dx,ks,x,rfl,hy,hc,hn,hx,⟨B,φ1,st,ρ,rs1,re1,?_⟩⟩;erw[ev];intro y' H2 φ2 s2 rs2 ry;erw[yd]at ry;subst ry
     cases v with
     |int k=>
      erw[yd]at rxv;subst rxv;refine⟨k,j,rfl,rfl,?_⟩;have h:yaB S X B φ1 H1 (match ya9 c st (.loc n) f (.int (k+j))with|some st3=>Fl.nx ρ st3|none=>Fl.bad) D:=h;have h:=yaB.on s2 h;have rx2:=rx.step s2;let⟨y2,ks2,dx2,e2,hp2,hy2,lr2⟩:=rs2.ins rx2 hn'
      cases e2
      cases e3:ya9 c st (.loc n) f (.int (k+j))with
      |none=>rw[e3]at h;exact h.elim
      |some st4=>
       rw[e3]at h;let⟨n',fs',z,hn2,hl,rfl⟩:=zfU e3
       cases z
       rw[hn']at hn2
       cases hn2
       refine⟨dx2,ks2,hy2,by rw[<-lr2.len];exact hl,?_⟩;have s4:Step φ2 H2 φ2 (L2.upd H2 y (.ins (S.cl c) dx2 (yaR f (.int (k+j)) ks2))):=.put (A4 hp2);exact h σ _ φ2 s4 (rs2.put (o:=.ins c (ybJ f (.int (k+j)) fs)) hp2 ⟨_,⟨dx2,zp⟩,(FS.put (by erw[yd]) lr2).step s4⟩) ((re1.step s2).step s4)
     |_=>exact h.elim
end
end L2
namespace HT
open PySem PySem.Spec PyProof.Rows
section
variable {prog:A7}{w:Ag}{A:Am}{E:AF->AJ->Prop}{s:AJ}
end
end HT
namespace L2
open PySem PySem.Spec PyProof.Rows IC
section
variable {S:Se}{X:Cx}{pos p2:CH}{e e3:AS}{te t3:TE}{a:AS}{ca c3:Ce}
theorem ye.reverse{K:AE}{cl:Nat->AI}{B:AI->Prop}{φ:Ph}{H:Hp}:∀{vs:List PV} {xs:List V},ye K cl B φ H vs xs->ye K cl B φ H vs.reverse xs.reverse
 |[],xs,h=>by
  erw[ye]at h;subst h;erw[List.reverse_nil,ye]
 |v::vs,xs,h=>by
  erw[ye]at h;let⟨y,ys,rfl,r,l⟩:=h;rw[DE,DE];exact(ye.reverse l).append (by erw[ye];exact⟨y,[],rfl,r,rfl⟩)
end
section
variable {X:Cx}{prog:A7}{w:Ag}{A:Am}{E:AF->AJ->Prop}{s:AJ}
end
section
variable {S:Se}{X:Cx}{pos px:CH}{a:AS}{ca:Ce}
end
end L2
namespace L2
open PySem PySem.Spec PyProof.Rows IC WK
inductive GK where
 |fn (i:Nat)|fnD (i:Nat)|cst (v:PV)|dct (D:List (AQ×PV))|exc (c:Nat)|cls (c i:Nat)
structure Gs where
 g:AQ->Option GK
 b:AQ->Bool
 t:Ty->Bool
 fl:Nat->AQ->Bool
 me:Nat->AQ->Option Nat
 kb:Nat->Nat->List AQ->Option (List (Option Int))
 mr:AQ->Option (List (AQ×Nat))
structure Kx where
 N:List AQ
 sc:Bc
 own:Bool
def Fo(m:Nat)(S:Se)(X:Cx)(i:Nat)(f:AI)(fd:Az)(ps:List AQ):Prop:=yaE X.prog X.w X.K X.mg X.base (CX1 X.prog X.w) m f fd ps (spI X.K S.cl S.call i)
structure Glo(γ:Gs)(m:Nat)(S:Se)(X:Cx):Prop where
 F:∀x i,γ.g x=AA (.fn i)->∃f fd ps,Fo m S X i f fd ps/\X.mg x=AA (.ref f)/\An X.K (.ref f)=AB/\Binds X.K fd ps []
 Q:∀x i np ks sh,γ.g x=AA (.fnD i)->γ.kb i np ks=AA sh->∃f fd ps,Fo m S X i f fd ps/\X.mg x=AA (.ref f)/\An X.K (.ref f)=AB/\∃g,ybr X.K fd ps ks g (gK np sh)
 C:∀x v,γ.g x=AA (.cst v)->GC X.K X.mg S.cl x v \/ ∃i,v=.int i/\GCI X.mg x i
 D:∀x d,γ.g x=AA (.dct d)->GD X.K X.w X.mg S.cl x d
 E:∀x c,γ.g x=AA (.exc c)->ycH X.K X.mg (S.cl c) x
 N:∀x c i,γ.g x=AA (.cls c i)->X.mg x=AA (.ref (S.cl c))/\∃f fd ps,Mk X.K (S.cl c) f/\Fo m S X i f fd ps/\Binds X.K fd ps []
 B:∀x,γ.b x=AB->X.mg x=AC
 T:∀t,γ.t t=AB->yd4 X.K t
 A:∀c f,γ.fl c f=AB->Cls X.K (S.cl c)/\yam X.K (S.cl c) f
 M:∀c n i,γ.me c n=AA i->Cls X.K (S.cl c)/\∃f fd ps,Meth X.K (S.cl c) n f/\Fo m S X i f fd ps/\Binds X.K fd ps []
 K:∀y D,γ.mr y=AA D->∃fa fdd ps,Makers S X m D fa fdd ps/\GDF X.K X.w X.mg fa y D
structure Good(γ:Gs)(κ:Kx)(m:Nat)(S:Se)(X:Cx):Prop where
 n:X.N=κ.N
 sc:X.env.scope=κ.sc
 calm:X.calm=AB
 room:yan (m+1) X.A
 own:κ.own=AB->EL (model X.prog X.w) X.A X.env X.xe/\(∀x,X.fn x=AB)/\S.may=AB
 glo:Glo γ m S X
noncomputable abbrev Pr(P:Prop):Type:=Option (PLift P)
abbrev YE(γ:Gs)(κ:Kx)(e:AS)(c:Ce):Prop:=∀m S X,Good γ κ m S X->PE X e (tE S X c)
abbrev YT(γ:Gs)(κ:Kx)(e:AS)(c:Ce):Prop:=∀m S X,Good γ κ m S X->PT X e (tTs S X c)
abbrev YW(γ:Gs)(κ:Kx)(e:AS)(c:Ce):Prop:=∀m S X,Good γ κ m S X->PW X e (tTs S X c)
abbrev YA(γ:Gs)(κ:Kx)(e:List AS)(c:Ces):Prop:=∀m S X,Good γ κ m S X->PA X e (tAs S X c)
abbrev YO(γ:Gs)(κ:Kx)(e:Option AS)(c:Ce):Prop:=∀m S X,Good γ κ m S X->PO X e (tO S X c)
abbrev YS(γ:Gs)(κ:Kx)(s:Bn)(c:Cs):Prop:=∀m S X,Good γ κ m S X->PS X s (tS S X c)
abbrev YSs(γ:Gs)(κ:Kx)(s:List Bn)(c:Css):Prop:=∀m S X,Good γ κ m S X->PSs X s (tSs S X c)
noncomputable def an{P Q:Prop}(a:Pr P)(k:P->Pr Q):Pr Q:=match a with
 |some h=>k h.down
 |none=>AC
noncomputable def ok{P:Prop}(h:P):Pr P:=AA ⟨h⟩
noncomputable def ask(p:Prop)[Decidable p]:Pr p:=if h:p then AA ⟨h⟩else AC
noncomputable def nst:AS->Bool
 |.Starred _ _=>AD
 |_=>AB
theorem yaa{a:AS}{es:List AS}{env:BS}(h:nst a=AB):starEach (a::es) env=(AD,eval a env)::starEach es env:=by
 cases a<;>first|rfl|cases h
def ybB(es:List AS):Bool:=es.all nst
theorem stars{pos:CH}{env:BS}:∀{es:List AS},ybB es=AB->(backTo pos (starEach es env)).any (·.1)=AD
 |[],_=>rfl
 |a::es,h=>by
  erw[ybB,B5,AK]at h;rw[yaa h.1];have:=stars (pos:=pos) (env:=env) (es:=es) h.2;simpa [backTo] using this
noncomputable def nco:AS->Bool
 |.ListComp ..=>AD
 |.SetComp ..=>AD
 |.DictComp ..=>AD
 |_=>AB
theorem swp{a:AS}{t:Option AS}{l:Nat}{env:BS}(h:nco a=AB):swapsWith a t l env=pure false:=by
 cases a<;>first|rfl|cases h
noncomputable def nse:AS->Bool
 |.Set ..=>AD
 |_=>AB
theorem fse{a:AS}{env:BS}(h:nse a=AB):∀x,foldedSetIterable a env x=pure x:=by
 cases a<;>first|exact λ_=>rfl|cases h
theorem nmk{op:FN}{a:AS}(h:nse a=AB):behindInMarks op a=false:=by
 cases a<;>first|rfl|cases h
noncomputable def nsl:AS->Bool
 |.Slice ..=>AD
 |_=>AB
theorem pix{a:AS}(h:nsl a=AB):ybj a:=by
 cases a<;>first|exact λ_ _=>rfl|cases h
theorem nos{a:AS}(h:nsl a=AB):ycD a:=pix h
noncomputable def ntu:AS->Bool
 |.Tuple ..=>AD
 |_=>AB
noncomputable def nte:AS->Bool
 |.UnaryOp ..=>AD
 |.BoolOp ..=>AD
 |.IfExp ..=>AD
 |.Compare ..=>AD
 |_=>AB
theorem itr{a:AS}{env:BS}(h:nte a=AB):∀whole,isTrue a env whole=(do let v <-whole;standAt a.pos;holding [v] (truthy v)):=by
 cases a<;>first|exact λ_=>rfl|cases h
noncomputable def nca:AS->Bool
 |.Call ..=>AD
 |_=>AB
theorem ydo{a:AS}{f:AQ}{env:BS}{w:Gd AF}(h:nca a=AB):attributeBase a f env w=w:=by
 cases a<;>first|rfl|cases h
def mOp(op:DW)(o:BOp):Pr (∀S X,OpR X (binaryOp op) (rT2 S X (yr o))):=
 match op,o with
 |.Add,.add=>ok (λ_ _=>zlN)
 |.Sub,.sub=>ok (λ_ _=>zmW)
 |.Mult,.mul=>ok (λ_ _=>zlj)
 |.FloorDiv,.fdiv=>ok (λ_ _=>zk7)
 |.Mod,.mod=>ok (λ_ _=>zns)
 |.Pow,.pow=>ok (λ_ _=>zmq)
 |.LShift,.shl=>ok (λ_ _=>zno)
 |.RShift,.shr=>ok (λ_ _=>zm7)
 |.BitAnd,.band=>ok (λ_ _=>zle)
 |.BitOr,.bor=>ok (λ_ _=>zlg)
 |.BitXor,.bxor=>ok (λ_ _=>zjW)
 |_,_=>AC
def mCm(op:FN)(o:COp):Pr (∀m S X,yan m X.A->OpR X (compareOp op) (rT2 S X (yx o))):=
 match op,o with
 |.Eq,.eq=>ok (λ_ _ _ r=>znH r.units)
 |.NotEq,.ne=>ok (λ_ _ _ r=>zn9 r.units)
 |.Lt,.lt=>ok (λ_ _ _ _=>znM)
 |.LtE,.le=>ok (λ_ _ _ _=>zn1)
 |.Gt,.gt=>ok (λ_ _ _ _=>zny)
 |.GtE,.ge=>ok (λ_ _ _ _=>zn5)
 |.In,.isin=>ok (λ_ _ _ _=>znP)
 |_,_=>AC
noncomputable def ydn(sc:Bc)(x:AQ):Bool:=match sc.names.lookup x with
 |some .local=>AB
 |some .cell=>AB
 |some .free=>AB
 |_=>AD
theorem zhP{sc:Bc}{x:AQ}(h:ydn sc x=AB):Vis sc x:=by
 unfold ydn at h;split at h
 .exact .inl ‹_›
 .exact .inr (.inl ‹_›)
 .exact .inr (.inr ‹_›)
 .cases h
noncomputable def ydj(sc:Bc)(x:AQ):Bool:=match sc.names.lookup x with
 |some .local=>AB
 |some .cell=>AB
 |_=>AD
theorem zgC{sc:Bc}{x:AQ}(h:ydj sc x=AB):Loc sc x:=by
 unfold ydj at h;split at h
 .exact .inl ‹_›
 .exact .inr ‹_›
 .cases h
noncomputable def pln(x:AQ):Bool:=!(x==("__debug__":AQ))&&!(x==("__classdict__":AQ))&&!(x==("__name__":AQ))
theorem ybe{x:AQ}(h:pln x=AB):(x==("__debug__":AQ))=false:=by
 erw[pln,AK,C8]at h;exact h.1.1
theorem ydp{x:AQ}(h:pln x=AB):(x==("__classdict__":AQ))=false:=by
 erw[pln,AK,C8]at h;exact h.1.2
theorem ydB{x:AQ}(h:pln x=AB):x ≠ "__name__":=by
 erw[pln,AK,C8]at h;intro e;rw[e]at h;exact absurd h.2 (by decide)
def glB(κ:Kx)(x:AQ):Bool:=decide (κ.sc.names.lookup x=AA .globalImplicit)&&pln x
theorem z7{γ:Gs}{κ:Kx}{m:Nat}{S:Se}{X:Cx}(G:Good γ κ m S X){x:AQ}(h:glB κ x=AB):Gl X x:=by
 erw[glB,AK,decide_eq_true_eq]at h;show X.env.scope.names.lookup x=_;rw[G.sc];exact h.1
theorem zbf{κ:Kx}{x:AQ}(h:glB κ x=AB):pln x=true:=by
 erw[glB,AK]at h;exact h.2
def setB(κ:Kx)(i:Nat)(x:AQ):Bool:=decide (κ.N[i]?=AA x)&&decide κ.N.Nodup&&ydj κ.sc x&&(κ.own || decide (κ.sc.names.lookup x=AA .local))&&pln x
structure ydt(X:Cx)(i:Nat)(x:AQ):Prop where
 d:X.N.Nodup
 i:X.N[i]?=AA x
 l:Loc X.env.scope x
 f:X.fn x=AB \/ X.env.scope.names.lookup x=AA .local
 p:pln x=AB
theorem zaQ{γ:Gs}{κ:Kx}{m:Nat}{S:Se}{X:Cx}(G:Good γ κ m S X){i:Nat}{x:AQ}(h:setB κ i x=AB):ydt X i x:=by
 erw[setB,AK,Ct,decide_eq_true_eq]at h;let⟨⟨⟨⟨h1,h2⟩,h3⟩,h4⟩,h5⟩:=h;refine⟨by rw[G.n];exact h2,by rw[G.n];exact h1,by rw[G.sc];exact zgC h3,?_,h5⟩;rcases h4 with h4|h4
 .exact .inl ((G.own h4).2.1 x)
 .exact .inr (by rw[G.sc];exact h4)
noncomputable def gFn(γ:Gs)(x:AQ)(i:Nat):Pr (γ.g x=AA (.fn i)):=match h:γ.g x with
 |some (.fn j)=>if e:j=i then AA ⟨by subst e;rfl⟩else AC
 |_=>AC
section
variable {γ:Gs}{κ:Kx}{ca cb cc:Ce}{ces:Ces}
def yew(v:PV)(e:AS):Pr (YE γ κ e (.cst v)):=
 match e with
 |.Constant (.int i) _ _=>match v with
  |.int j=>an (ask (i=j)) λh=>ok (λ_ _ _ _=>by cases h;exact zja)
  |_=>AC
 |.Constant (.bool i) _ _=>match v with
  |.bl j=>an (ask (i=j)) λh=>ok (λ_ _ _ _=>by cases h;exact zob)
  |_=>AC
 |.Constant .none _ _=>match v with
  |.non=>ok (λ_ _ _ _=>zlF)
  |_=>AC
 |.Constant (.str i) _ _=>match v with
  |.str j=>an (ask (i=j)) λh=>ok (λ_ _ _ _=>by cases h;exact zme)
  |_=>AC
 |_=>AC
def yeJ(i:Nat)(e:AS):Pr (YE γ κ e (.var i)):=
 match e with
 |.Name x _=>an (ask (κ.N[i]?=AA x/\ydn κ.sc x=AB/\pln x=AB)) λh=>ok (λ_ _ _ G=>zlP (by rw[G.n];exact h.1) (by rw[G.sc];exact zhP h.2.1) (ybe h.2.2) (ydp h.2.2))
 |_=>AC
def yfL(o:BOp)(e:AS)(fa:∀x,Pr (YE γ κ x ca))(fb:∀x,Pr (YE γ κ x cb)):Pr (YE γ κ e (.bin o ca cb)):=
 match e with
 |.BinOp a op b _=>
  an (mOp op o) λho=>an (fa a) λha=>an (fb b) λhb=>ok (λm S X G=>zlW (ho S X) (ha m S X G) (hb m S X G))
 |_=>AC
def ygk(e:AS)(fa:∀x,Pr (YE γ κ x ca)):Pr (YE γ κ e (.neg ca)):=
 match e with
 |.UnaryOp .USub a _=>
  an (fa a) λha=>ok (λm S X G=>zjs (ha m S X G))
 |_=>AC
def ygx(e:AS)(fa:∀x,Pr (YE γ κ x ca)):Pr (YE γ κ e (.not ca)):=
 match e with
 |.UnaryOp .Not a _=>
  an (fa a) λha=>ok (λm S X G=>zm8 (ha m S X G))
 |_=>AC
def yfj(o:COp)(e:AS)(fa:∀x,Pr (YE γ κ x ca))(fb:∀x,Pr (YE γ κ x cb)):Pr (YE γ κ e (.cmp o ca cb)):=
 match e with
 |.Compare a [op] [b] _=>
  an (mCm op o) λho=>an (ask (nse b=AB)) λhs=>an (fa a) λha=>an (fb b) λhb=>ok (λm S X G=>zlC (ho _ S X G.room) (ha m S X G) (hb m S X G) (nmk hs))
 |_=>AC
def ydV(o:COp)(e:AS)(fa:∀x,Pr (YE γ κ x ca))(fb:∀x,Pr (YE γ κ x cb)):Pr (YT γ κ e (.cmp o ca cb)):=
 match e with
 |.Compare a [op] [b] _=>
  an (mCm op o) λho=>an (ask (nse b=AB)) λhs=>an (fa a) λha=>an (fb b) λhb=>ok (λm S X G=>zmK (ho _ S X G.room) (ha m S X G) (hb m S X G) (nmk hs))
 |_=>AC
theorem lmk{op op':FN}{b c:AS}(h:nse c=AB):lastMarks [op,op'] [b,c]=false:=nmk h
def ygn(o p:COp)(e:AS)(fa:∀x,Pr (YE γ κ x ca))(fb:∀x,Pr (YE γ κ x cb))(fc:∀x,Pr (YE γ κ x cc)):Pr (YE γ κ e (.chain o p ca cb cc)):=
 match e with
 |.Compare a [op,op'] [b,c] _=>
  an (mCm op o) λho=>an (mCm op' p) λhp=>an (ask (nse c=AB)) λhs=>an (fa a) λha=>an (fb b) λhb=>an (fc c) λhc=>ok (λm S X G=>zih (ho _ S X G.room) (hp _ S X G.room) (ha m S X G) (hb m S X G) (hc m S X G) (lmk hs))
 |_=>AC
def yd1(o p:COp)(e:AS)(fa:∀x,Pr (YE γ κ x ca))(fb:∀x,Pr (YE γ κ x cb))(fc:∀x,Pr (YE γ κ x cc)):Pr (YT γ κ e (.chain o p ca cb cc)):=
 match e with
 |.Compare a [op,op'] [b,c] _=>
  an (mCm op o) λho=>an (mCm op' p) λhp=>an (ask (nse c=AB)) λhs=>an (fa a) λha=>an (fb b) λhb=>an (fc c) λhc=>ok (λm S X G=>zij (ho _ S X G.room) (hp _ S X G.room) (ha m S X G) (hb m S X G) (hc m S X G) (lmk hs))
 |_=>AC
def yfc(e:AS)(fc:∀x,Pr (YT γ κ x cc))(fa:∀x,Pr (YE γ κ x ca))(fb:∀x,Pr (YE γ κ x cb)):Pr (YE γ κ e (.ite cc ca cb)):=
 match e with
 |.IfExp c a b _=>
  an (fc c) λhc=>an (fa a) λha=>an (fb b) λhb=>ok (λm S X G=>zma (hc m S X G) (ha m S X G) (hb m S X G))
 |_=>AC
def ye8(e:AS)(fa:∀x,Pr (YA γ κ x ces)):Pr (YE γ κ e (.tup ces)):=
 match e with
 |.Tuple es _ _=>
  an (fa es) λha=>ok (λm S X G=>znh (ha m S X G))
 |_=>AC
def yfx(e:AS)(fa:∀x,Pr (YA γ κ x ces)):Pr (YE γ κ e (.lst ces)):=
 match e with
 |.List es _=>
  an (fa es) λha=>ok (λm S X G=>zmL (ha m S X G))
 |_=>AC
def yeo(e:AS)(fa:∀x,Pr (YA γ κ x ces)):Pr (YE γ κ e (.newl ces)):=
 match e with
 |.List es _=>
  an (fa es) λha=>ok (λm S X G=>zkL (ha m S X G))
 |_=>AC
def yef(t:Bool)(e:AS):Pr (YE γ κ e (.dict0 t)):=
 match t,e with
 |true,.Dict [] [] _=>ok (λ_ _ _ _=>zhe)
 |_,_=>AC
def mIdx(e:AS)(fa:∀x,Pr (YE γ κ x ca))(fb:∀x,Pr (YE γ κ x cb)):Pr (YE γ κ e (.idx ca cb)):=
 match e with
 |.Subscript a b _=>
  an (ask (nsl b=AB)) λhs=>an (fa a) λha=>an (fb b) λhb=>ok (λm S X G=>zlu (ha m S X G) (hb m S X G) (pix hs))
 |_=>AC
def yfE(e:AS)(fa:∀x,Pr (YE γ κ x ca))(fb:∀x,Pr (YO γ κ x cb))(fc:∀x,Pr (YO γ κ x cc)):Pr (YE γ κ e (.slc ca cb cc)):=
 match e with
 |.Subscript a (.Slice l h AC _) _=>
  an (fa a) λha=>an (fb l) λhb=>an (fc h) λhc=>ok (λm S X G=>znu (ha m S X G) (hb m S X G) (hc m S X G))
 |_=>AC
def yeU(c:Ce)(e:Option AS)(fa:∀x,Pr (YE γ κ x c)):Pr (YO γ κ e c):=
 match e with
 |none=>match c with
  |.cst .non=>ok (λ_ _ _ _=>zkd)
  |_=>AC
 |some a=>
  an (fa a) λha=>ok (λm S X G=>zlf (ha m S X G))
inductive Fs(γ:Gs)(κ:Kx):Ces->Type where
 |nil:Fs γ κ .nil
 |cons {c:Ce} {cs:Ces} (f:∀x,Pr (YE γ κ x c)) (r:Fs γ κ cs):Fs γ κ (.cons c cs)
def yaN:{ces:Ces}->Fs γ κ ces->(es:List AS)->Pr (YA γ κ es ces)
 |_,.nil,[]=>ok λ_ _ _ _=>zgr
 |_,.cons f r,a::es=>an (ask (nst a=AB)) λhs=>an (f a) λha=>an (yaN r es) λhr=>ok λm S X G=>zdF (ha m S X G) (hr m S X G) (yaa hs)
 |_,_,_=>AC
structure Sp2(γ:Gs)(κ:Kx)(ces:Ces)(np:Nat) where
 c1:Ces
 c2:Ces
 f1:Fs γ κ c1
 f2:Fs γ κ c2
 h:yac c1 c2=ces
 l:ycE c1=np
def yb6:(np:Nat)->{ces:Ces}->Fs γ κ ces->Option (Sp2 γ κ ces np)
 |0,ces,F=>AA ⟨.nil,ces,.nil,F,rfl,rfl⟩
 |n+1,_,.cons f r=>match yb6 n r with
  |some s=>AA ⟨.cons _ s.c1,s.c2,.cons f s.f1,s.f2,by rw[yac,s.h],by rw[ycE,s.l]⟩
  |none=>AC
 |_,_,_=>AC
structure It2(γ:Gs)(κ:Kx)(ces:Ces)(sh:List (Option Int))(kws:List CQ) where
 it:List (Sum Ce Int)
 h:yp it=ces
 s:it.map shC=sh
 k:∀m S X,Good γ κ m S X->PK X kws (tK S X it)
def ybI:(sh:List (Option Int))->{ces:Ces}->Fs γ κ ces->(kws:List CQ)->Option (It2 γ κ ces sh kws)
 |[],_,.nil,[]=>AA ⟨[],rfl,rfl,λ_ _ _ _=>zmX⟩
 |none::sh,.cons c _,.cons f r,⟨_,e,_⟩ :: kws=>match f e,ybI sh r kws with
  |some h,AA q=>AA ⟨.inl c::q.it,by rw[yp,q.h],by rw[AO,q.s];rfl,λm S X G=>zoc (h.down m S X G) (q.k m S X G)⟩
  |_,_=>AC
 |some i::sh,.cons (.cst (.int j)) _,.cons _ r,kws=>if e:i=j then match ybI sh r kws with
  |some q=>AA ⟨.inr i::q.it,by rw[yp,q.h,e],by rw[AO,q.s];rfl,λm S X G=>zn3 (q.k m S X G)⟩
  |none=>AC
  else AC
 |_,_,_,_=>AC
noncomputable def kwN:List CQ->List AQ
 |[]=>[]
 |⟨AA x,_,_⟩ :: r=>x::kwN r
 |_::r=>kwN r
noncomputable def kwB:List CQ->Bool
 |[]=>AB
 |⟨AA _,_,_⟩ :: r=>kwB r
 |_=>AD
theorem zl4{pos:CH}{env:BS}:∀{kws:List CQ},kwB kws=AB->(backToKw pos (keywordEach kws env)).all (·.1.isSome)=AB/\(backToKw pos (keywordEach kws env)).filterMap (·.1)=kwN kws/\(backToKw pos (keywordEach kws env)).any (·.1.isNone)=AD
 |[],_=>⟨rfl,rfl,rfl⟩
 |⟨AA x,e,_⟩ :: r,h=>by
  let⟨h1,h2,h3⟩:=zl4 (pos:=pos) (env:=env) (kws:=r) h;erw[backToKw]at h1 h2 h3 ⊢;erw[keywordEach,AO,B5,CP,BH,h1,h2,h3,kwN];simp
def yfO(i:Nat)(F:Fs γ κ ces)(e:AS):Pr (YE γ κ e (.call i ces)):=
 match e with
 |.Call (.Name x _) [] [] _=>match F with
  |.nil=>an (ask (glB κ x=AB)) λhg=>an (gFn γ x i) λhf=>ok λm S X G=>by
   let⟨f,fd,ps,h1,h2,h3,h4⟩:=G.glo.F x i hf;exact ziV h1 (G.room.mono (Ca m)) (z7 G hg) h2 h3 h4 (ybe (zbf hg))
  |_=>AC
 |.Call (.Name x _) (a::es) kws _=>an (ask (glB κ x=AB/\nst a=AB/\ybB es=AB)) λhg=>
  match hx:γ.g x with
  |some (.fn j)=>match kws with
   |[]=>an (ask (j=i)) λhj=>an (yaN F (a::es)) λha=>ok λm S X G=>by
    subst hj;let⟨f,fd,ps,h1,h2,h3,h4⟩:=G.glo.F x j hx;exact zjV h1 (G.room.mono (Ca m)) (z7 G hg.1) h2 h3 h4 (ha m S X G) (ybe (zbf hg.1)) (yaa hg.2.1) (stars hg.2.2)
   |_=>AC
  |some (.fnD j)=>match hk:γ.kb j (es.length+1) (kwN kws)with
   |none=>AC
   |some sh=>match yb6 (es.length+1) F with
    |none=>AC
    |some s=>match ybI sh s.f2 kws with
     |none=>AC
     |some q=>an (ask (kwB kws=AB/\j=i)) λhw=>an (yaN s.f1 (a::es)) λha=>ok λm S X G=>by
      let⟨hw,rfl⟩:=hw;let⟨f,fd,ps,h1,h2,h3,h4⟩:=G.glo.Q x j _ _ sh hx hk;rw[<-s.h,<-q.h];rw[<-q.s]at h4;have w:=λ{pos}=>zl4 (pos:=pos) (env:=X.env) hw;exact ziN h1 (G.room.mono (Ca m)) (z7 G hg.1) h2 h3 h4 s.l (ha m S X G) (q.k m S X G) w.1 w.2.1 (ybe (zbf hg.1)) (yaa hg.2.1) (by
       rw[w.2.2,Gf];exact stars (es:=a::es) (by erw[ybB,B5,hg.2.1,DU];exact hg.2.2))
  |_=>AC
 |_=>AC
abbrev ydT(b:Blt)(x:AQ):Prop:=∀S X,X.calm=AB->(∃id,yab X (.builtin id) (rB S X b)/\bootBuiltins x=AA (.builtin id)) \/ ∃T,yab X (.type T) (rB S X b)/\bootBuiltins x=AA (.type T)
def yge(b:Blt)(x:AQ):Pr (ydT b x):=
 match b with
 |.len=>an (ask (x="len")) λh=>ok λ_ _ _=>.inl ⟨_,zni,h ▸ zln⟩
 |.int=>an (ask (x="int")) λh=>ok λ_ _ _=>.inr ⟨_,zmR,h ▸ zjF⟩
 |.abs=>an (ask (x="abs")) λh=>ok λ_ _ _=>.inl ⟨_,zmg,h ▸ zmV⟩
 |.max=>an (ask (x="max")) λh=>ok λ_ _ c=>.inl ⟨_,zm2 c,h ▸ znl⟩
 |.tuple=>an (ask (x="tuple")) λh=>ok λ_ _ _=>.inr ⟨_,ziM,h ▸ zfI⟩
 |.all=>an (ask (x="all")) λh=>ok λ_ _ c=>.inl ⟨_,zmz c,h ▸ zlM⟩
 |.any=>an (ask (x="any")) λh=>ok λ_ _ c=>.inl ⟨_,zmw c,h ▸ zmp⟩
 |_=>AC
def ygI(b:Blt)(F:Fs γ κ ces)(e:AS):Pr (YE γ κ e (.blt b ces)):=
 match e with
 |.Call (.Name x _) (a::es) [] _=>an (ask (glB κ x=AB/\nst a=AB/\ybB es=AB/\γ.b x=AB)) λhg=>an (yge b x) λhb=>an (yaN F (a::es)) λha=>ok λm S X G=>by
  rcases hb S X G.calm with⟨id,h1,h2⟩|⟨T,h1,h2⟩
  .exact zlH h1 (z7 G hg.1) (G.glo.B x hg.2.2.2) h2 (ha m S X G) (ydB (zbf hg.1)) (ybe (zbf hg.1)) (yaa hg.2.1) (stars hg.2.2.1)
  .exact zjL h1 (z7 G hg.1) (G.glo.B x hg.2.2.2) h2 (ha m S X G) (ydB (zbf hg.1)) (ybe (zbf hg.1)) (yaa hg.2.1) (stars hg.2.2.1)
 |_=>AC
def ygm(b:Blt)(F:Fs γ κ ces)(e:AS):Pr (YE γ κ e (.blt b ces)):=
 match b with
 |b=>ygI b F e
def tyB(t:Ty)(x:AQ):Pr (ydf t=AB/\bootBuiltins x=AA (.type (tyN t))):=
 match t with
 |.int=>an (ask (x="int")) λh=>ok ⟨rfl,h ▸ zjF⟩
 |.bool=>an (ask (x="bool")) λh=>ok ⟨rfl,h ▸ zkl⟩
 |.str=>an (ask (x="str")) λh=>ok ⟨rfl,h ▸ zmT⟩
 |.tuple=>an (ask (x="tuple")) λh=>ok ⟨rfl,h ▸ zfI⟩
 |_=>AC
def yf4(ts:List Ty)(e:AS)(fa:∀x,Pr (YE γ κ x ca)):Pr (YE γ κ e (.isi ca ts)):=
 match ts,e with
 |[t],.Call (.Name n _) [a,.Name x _] [] _=>an (ask (n="isinstance"/\glB κ n=AB/\γ.b n=AB/\glB κ x=AB/\γ.b x=AB/\γ.t t=AB/\nst a=AB)) λh=>an (tyB t x) λht=>an (fa a) λha=>ok λm S X G=>by
  let⟨rfl,h1,h2,h3,h4,h5,h6⟩:=h;exact zmu (G.glo.T t h5) ht.1 (z7 G h1) (G.glo.B _ h2) (z7 G h3) (G.glo.B _ h4) ht.2 (ha m S X G) (ydB (zbf h3)) (ybe (zbf h3)) (yaa h6) rfl
 |_,_=>AC
mutual
noncomputable def ydu:(a b:PV)->Pr (a=b)
 |.non,.non=>ok rfl
 |.bl a,.bl b=>an (ask (a=b)) λh=>ok (by rw[h])
 |.int a,.int b=>an (ask (a=b)) λh=>ok (by rw[h])
 |.str a,.str b=>an (ask (a=b)) λh=>ok (by rw[h])
 |.tp k a,.tp j b=>an (ask (k=j)) λh=>an (ycp a b) λg=>ok (by rw[h,g])
 |.lst a,.lst b=>an (ycp a b) λg=>ok (by rw[g])
 |_,_=>AC
noncomputable def ycp:(a b:List PV)->Pr (a=b)
 |[],[]=>ok rfl
 |a::x,b::y=>an (ydu a b) λh=>an (ycp x y) λg=>ok (by rw[h,g])
 |_,_=>AC
end
def eqD:(a b:List (AQ×PV))->Pr (a=b)
 |[],[]=>ok rfl
 |(k,a)::x,(j,b)::y=>an (ask (k=j)) λe=>an (ydu a b) λh=>an (eqD x y) λg=>ok (by rw[e,h,g])
 |_,_=>AC
def ygC(v:PV)(e:AS):Pr (YE γ κ e (.cst v)):=
 match e with
 |.Name x _=>match h:γ.g x with
  |some (.cst u)=>an (ask (glB κ x=AB)) λhg=>an (ydu u v) λhv=>ok λm S X G=>by
   subst hv;rcases G.glo.C x u h with q|⟨i,rfl,q⟩
   .exact znS (z7 G hg) q (ybe (zbf hg))
   .exact znq (z7 G hg) q (ybe (zbf hg))
  |_=>AC
 |e=>yew v e
def ye3(D:List (AQ×PV))(e:AS)(fb:∀x,Pr (YE γ κ x cb)):Pr (YE γ κ e (.dix D cb)):=
 match e with
 |.Subscript (.Name x _) b _=>match h:γ.g x with
  |some (.dct E)=>an (ask (glB κ x=AB/\nsl b=AB)) λhg=>an (eqD E D) λhv=>an (fb b) λhb=>ok λm S X G=>by
   subst hv;exact znc (z7 G hg.1) (G.glo.D x E h) (hb m S X G) (nos hg.2) (ybe (zbf hg.1))
  |_=>AC
 |_=>AC
def yfn(D:List (AQ×PV))(e:AS)(fa:∀x,Pr (YE γ κ x ca)):Pr (YE γ κ e (.din ca D)):=
 match e with
 |.Compare a [.In] [.Name x _] _=>match h:γ.g x with
  |some (.dct E)=>an (ask (glB κ x=AB)) λhg=>an (eqD E D) λhv=>an (fa a) λha=>ok λm S X G=>by
   subst hv;exact zlI (z7 G hg) (G.glo.D x E h) (ha m S X G) rfl (ybe (zbf hg))
  |_=>AC
 |_=>AC
theorem ydd{pos:CH}{env:BS}:∀{es:List AS},ybB es=AB->((backTo pos (starEach es env)).all λx=>!x.1)=AB
 |[],_=>rfl
 |a::es,h=>by
  erw[ybB,B5,AK]at h;have:=ydd (pos:=pos) (env:=env) (es:=es) h.2;erw[backTo]at this ⊢;rw[yaa h.1,AO,B5,this];rfl
theorem zjh{o:AS}{n:AQ}{ap pos:CH}{es:List AS}{env:BS}(hb:nca o=AB)(hs:ybB es=AB)(hn:es.length<30)(hl:(ap.endLine==pos.line)=AB):
  eval (.Call (.Attribute o n ap) es [] pos) env=(do
   let ov <-eval o env
   standAt ap.atName
   let (f,first) <-holding [ov] (getMethod ov n (do return (<-importBound o env).getD AB))
   callWith pos f first (backTo pos (starEach es env)) (backToKw pos (keywordEach [] env))):=by
 have hf:methodCallForm (es.length+([]:List CQ).length) (backTo pos (starEach es env)) (backToKw pos (keywordEach [] env))=true:=by
  erw[methodCallForm,ydd hs,DU];simp[backToKw,keywordEach,hn]
 rw[arm_eval_Call,ydo hb];erw[methodCall,calleeOf,methodCallPos,hf,hl,if_true,Bool.not_true,Gv,pure_bind]
def yfl(c:Nat)(f:AQ)(e:AS)(fa:∀x,Pr (YE γ κ x ca)):Pr (YE γ κ e (.fld c ca f)):=
 match e with
 |.Attribute a g _=>an (ask (g=f/\γ.fl c f=AB/\nca a=AB)) λh=>an (fa a) λha=>ok λm S X G=>by
  let⟨rfl,h1,h2⟩:=h;exact zlr (G.glo.A c g h1).1 (G.glo.A c g h1).2 (ha m S X G) (ydo h2)
 |_=>AC
def yft(c i:Nat)(F:Fs γ κ ces)(e:AS):Pr (YE γ κ e (.new c i ces)):=
 match e with
 |.Call (.Name x _) (a::es) [] _=>match h:γ.g x with
  |some (.cls c' i')=>an (ask (c'=c/\i'=i/\glB κ x=AB/\nst a=AB/\ybB es=AB)) λhg=>an (yaN F (a::es)) λha=>ok λm S X G=>by
   let⟨rfl,rfl,h1,h2,h3⟩:=hg;let⟨q,f,fd,ps,q1,q2,q3⟩:=G.glo.N x c' i' h;exact zlv q1 q2 G.room (z7 G h1) q q3 (ha m S X G) (ybe (zbf h1)) (yaa h2) (stars h3)
  |_=>AC
 |_=>AC
def yfY(c i:Nat)(n:AQ)(F:Fs γ κ ces)(e:AS)(fa:∀x,Pr (YE γ κ x ca)):Pr (YE γ κ e (.mcl c i n ca ces)):=
 match e with
 |.Call (.Attribute (.Name x p) n' ap) [] [] pos=>match F with
  |.nil=>an (ask (n'=n/\γ.me c n=AA i/\(ap.endLine==pos.line)=AB)) λh=>an (fa (.Name x p)) λho=>ok λm S X G=>by
   let⟨rfl,h1,h4⟩:=h;let⟨q,f,fd,ps,q1,q2,q3⟩:=G.glo.M c n' i h1;exact zk9 q q1 q2 (G.room.mono (Ca m)) q3 (ho m S X G) (zjh rfl rfl (Nat.zero_lt_succ _) h4)
  |_=>AC
 |.Call (.Attribute (.Name x p) n' ap) (a::es) [] pos=>an (ask (n'=n/\γ.me c n=AA i/\nst a=AB/\ybB es=AB/\(ap.endLine==pos.line)=AB/\(a::es).length<30)) λh=>an (fa (.Name x p)) λho=>an (yaN F (a::es)) λha=>ok λm S X G=>by
  let⟨rfl,h1,h2,h3,h4,h5⟩:=h;let⟨q,f,fd,ps,q1,q2,q3⟩:=G.glo.M c n' i h1;exact zlR q q1 q2 (G.room.mono (Ca m)) q3 (ho m S X G) (ha m S X G) (yaa h2) (stars h3) (zjh rfl (by erw[ybB,B5,h2,DU];exact h3) h5 h4)
 |_=>AC
theorem ygu{pos:CH}{env:BS}{b:AS}(h:nst b=AB):((backTo pos (starEach [b] env)).all (λx=>!x.1)&&(backToKw pos (keywordEach [] env)).all (λx=>x.1.isSome)&&decide (([b]:List AS).length+([]:List CQ).length+(if ([]:List CQ).isEmpty then 0 else 1)<30))=true:=by
 rw[yaa h];rfl
def yfD(k:Mth)(F:Fs γ κ ces)(e:AS)(fa:∀x,Pr (YE γ κ x ca)):Pr (YE γ κ e (.mth k ca ces)):=
 match k,e,F with
 |.append,.Call (.Attribute a n ap) [b] [] pos,.cons fb .nil=>an (ask (n="append"/\nca a=AB/\nst b=AB/\(ap.endLine==pos.line)=AB)) λh=>an (fa a) λha=>an (fb b) λhb=>ok λm S X G=>by
  let⟨rfl,h1,h2,h3⟩:=h;exact zhj (ha m S X G) (hb m S X G) (yaa h2) (ydo h1) h3 (ygu h2)
 |.get,.Call (.Attribute a n ap) [b,c] [] pos,.cons fb (.cons fc .nil)=>an (ask (n="get"/\nca a=AB/\nst b=AB/\nst c=AB/\(ap.endLine==pos.line)=AB)) λh=>an (fa a) λha=>an (fb b) λhb=>an (fc c) λhc=>ok λm S X G=>by
  let⟨rfl,h1,h2,h4,h3⟩:=h;exact znx (zkb G.room) (ha m S X G) (hb m S X G) (hc m S X G) ⟨ydo h1,by rw[yaa h2,yaa h4];rfl,h3,by rw[yaa h2,yaa h4];rfl⟩
 |_,_,_=>AC
end
structure Ev(γ:Gs)(c:Ce) where
 e:∀κ x,Pr (YE γ κ x c)
 t:∀κ x,Pr (YT γ κ x c)
 w:∀κ op l pos,Pr (YW γ κ (.BoolOp op l pos) c)
section
variable {γ:Gs}{ca cb cc:Ce}
def w1{c:Ce}(t:∀κ x,Pr (YT γ κ x c))(κ:Kx)(op:Gr)(l:List AS)(pos:CH):Pr (YW γ κ (.BoolOp op l pos) c):=
 match op,l with
 |.And,[a]=>an (t κ a) λh=>ok λm S X G=>zk2 (h m S X G)
 |.Or,[a]=>an (t κ a) λh=>ok λm S X G=>zne (h m S X G)
 |_,_=>AC
def plT{c:Ce}(e:∀κ x,Pr (YE γ κ x c))(κ:Kx)(x:AS):Pr (YT γ κ x c):=an (ask (nte x=AB)) λh=>an (e κ x) λhe=>ok λm S X G=>znd (he m S X G) (itr h)
def plain{c:Ce}(e:∀κ x,Pr (YE γ κ x c)):Ev γ c:=⟨e,plT e,w1 (plT e)⟩
def ycr{c:Ce}(e:∀κ x,Pr (YE γ κ x c))(t:∀κ x,Pr (YT γ κ x c)):Ev γ c:=⟨e,t,w1 t⟩
def yga(A:Ev γ ca)(κ:Kx)(e:AS):Pr (YT γ κ e (.not ca)):=
 match e with
 |.UnaryOp .Not a _=>an (A.t κ a) λh=>ok λm S X G=>zmI (h m S X G)
 |_=>AC
def ygr(A:Ev γ ca)(B:Ev γ cb)(κ:Kx)(e:AS):Pr (YE γ κ e (.and ca cb)):=
 match e with
 |.BoolOp .And (a::b::[]) _=>an (A.e κ a) λha=>an (B.e κ b) λhb=>ok λm S X G=>zjg (ha m S X G) (zjd (hb m S X G))
 |.BoolOp .And (a::b::c::r) p=>an (A.e κ a) λha=>an (B.e κ (.BoolOp .And (b::c::r) p)) λhb=>ok λm S X G=>zjg (ha m S X G) (hb m S X G)
 |_=>AC
def orE(A:Ev γ ca)(B:Ev γ cb)(κ:Kx)(e:AS):Pr (YE γ κ e (.or ca cb)):=
 match e with
 |.BoolOp .Or (a::b::[]) _=>an (A.e κ a) λha=>an (B.e κ b) λhb=>ok λm S X G=>znb (ha m S X G) (zjd (hb m S X G))
 |.BoolOp .Or (a::b::c::r) p=>an (A.e κ a) λha=>an (B.e κ (.BoolOp .Or (b::c::r) p)) λhb=>ok λm S X G=>znb (ha m S X G) (hb m S X G)
 |_=>AC
def ydR(A:Ev γ ca)(B:Ev γ cb)(κ:Kx)(op:Gr)(l:List AS)(pos:CH):Pr (YW γ κ (.BoolOp op l pos) (.and ca cb)):=
 match op,l with
 |.And,a::b::r=>an (A.t κ a) λha=>an (B.w κ .And (b::r) pos) λhb=>ok λm S X G=>zmo (ha m S X G) (hb m S X G)
 |_,_=>AC
def orW(A:Ev γ ca)(B:Ev γ cb)(κ:Kx)(op:Gr)(l:List AS)(pos:CH):Pr (YW γ κ (.BoolOp op l pos) (.or ca cb)):=
 match op,l with
 |.Or,a::b::r=>an (A.t κ a) λha=>an (B.w κ .Or (b::r) pos) λhb=>ok λm S X G=>znQ (ha m S X G) (hb m S X G)
 |_,_=>AC
def ptW{c:Ce}(w:∀κ op l pos,Pr (YW γ κ (.BoolOp op l pos) c))(κ:Kx)(e:AS):Pr (YT γ κ e c):=
 match e with
 |.BoolOp op l p=>an (w κ op l p) λh=>ok λm S X G=>PW.pt (h m S X G)
 |_=>AC
def yeH{c:Ce}(t:∀κ x,Pr (YT γ κ x c))(w:∀κ op l pos,Pr (YW γ κ (.BoolOp op l pos) c))(κ:Kx)(op:Gr)(l:List AS)(pos:CH):Pr (YW γ κ (.BoolOp op l pos) c):=
 match l with
 |[a]=>w1 t κ op [a] pos
 |l=>w κ op l pos
def yd7(A:Ev γ ca)(B:Ev γ cb):Ev γ (.and ca cb):=⟨ygr A B,ptW (ydR A B),yeH (ptW (ydR A B)) (ydR A B)⟩
def yfd(A:Ev γ ca)(B:Ev γ cb):Ev γ (.or ca cb):=⟨orE A B,ptW (orW A B),yeH (ptW (orW A B)) (orW A B)⟩
end
abbrev YI(γ:Gs)(κ:Kx)(tg l:AS)(c:Cit):Prop:=∀m S X,Good γ κ m S X->PI X tg l (tI S X c)
abbrev YG(γ:Gs)(κ:Kx)(tg:AS)(c:Tg):Prop:=∀m S X,Good γ κ m S X->PG X tg (tG S X c)
section
variable {γ:Gs}{κ:Kx}{ca cb cc ce:Ce}{ci:Cit}
def yfr(e:∀x,Pr (YE γ κ x ca))(tg l:AS):Pr (YI γ κ tg l (.seq ca)):=an (e l) λh=>ok λm S X G=>zmJ (h m S X G)
def iR1(fa:∀x,Pr (YE γ κ x ca))(tg l:AS):Pr (YI γ κ tg l (.range1 ca)):=
 match l with
 |.Call (.Name x _) [a] [] _=>an (ask (x="range"/\glB κ x=AB/\γ.b x=AB/\nst a=AB)) λh=>an (fa a) λha=>ok λm S X G=>by
  let⟨rfl,h1,h2,h3⟩:=h;exact zhK (z7 G h1) (G.glo.B _ h2) (ha m S X G) (yaa h3)
 |_=>AC
def ydz(fa:∀x,Pr (YE γ κ x ca))(tg l:AS):Pr (YI γ κ tg l (.enum ca)):=
 match tg,l with
 |.Tuple _ _ _,.Call (.Name x _) [a] [] _=>an (ask (x="enumerate"/\glB κ x=AB/\γ.b x=AB/\nst a=AB)) λh=>an (fa a) λha=>ok λm S X G=>by
  let⟨rfl,h1,h2,h3⟩:=h;exact zkv (z7 G h1) (G.glo.B _ h2) (ha m S X G) (yaa h3)
 |_,_=>AC
def yfI(fa:∀x,Pr (YE γ κ x ca))(fb:∀x,Pr (YE γ κ x cb))(tg l:AS):Pr (YI γ κ tg l (.zip ca cb)):=
 match tg,l with
 |.Tuple _ _ _,.Call (.Name x _) [a,b] [] _=>an (ask (x="zip"/\glB κ x=AB/\γ.b x=AB/\nst a=AB/\nst b=AB)) λh=>an (fa a) λha=>an (fb b) λhb=>ok λm S X G=>by
  let⟨rfl,h1,h2,h3,h4⟩:=h;exact znw (z7 G h1) (G.glo.B _ h2) (ha m S X G) (hb m S X G) (by rw[yaa h3,yaa h4];rfl) (yaa h4)
 |_,_=>AC
def gNm(κ:Kx):(l:List Nat)->(es:List AS)->Pr (∀m S X,Good γ κ m S X->PGs X es (gNs l)/\(assignEach es X.env).length=l.length/\(assignEach es X.env).findIdx? (·.1)=AC)
 |[],[]=>ok λ_ _ _ _=>⟨zkq,rfl,rfl⟩
 |i::l,.Name x _::es=>an (ask (setB κ i x=AB)) λh=>an (gNm κ l es) λhr=>ok λm S X G=>by
  have s:=zaQ G h;let⟨h1,h2,h3⟩:=hr m S X G;refine⟨zio s.d s.i s.l h1 s.f,?_,?_⟩
  .simp only[assignEach,AT,h2]
  .simp only[assignEach,List.findIdx?_cons,h3];rfl
 |_,_=>AC
def mTg(ct:Tg)(tg:AS):Pr (YG γ κ tg ct):=
 match ct,tg with
 |.n i,.Name x _=>an (ask (setB κ i x=AB)) λh=>ok λm S X G=>let s:=zaQ G h;zkV s.d s.i s.l s.f
 |.t l,.Tuple es _ _=>an (gNm κ l es) λh=>ok λm S X G=>zmP G.calm (h m S X G).1 (h m S X G).2.1 (h m S X G).2.2
 |_,_=>AC
noncomputable def tgN:AS->List AQ
 |.Name x _=>[x]
 |.Tuple es _ _=>es.filterMap fun
  |.Name x _=>AA x
  |_=>AC
 |_=>[]
def ycK(N:List AQ)(sl:List (Option Nat))(tg:AS):List Str:=tgN tg++(sl.drop (tgN tg).length).filterMap λo=>o.bind λj=>N[j]?
noncomputable def ybX(sc so:Bc):Scope:={sc with names:=sc.names.map λ(n,k)=>if (k==C5&&so.kind==.function&&so.names.lookup n==AA .cell)then(n,FP)else(n,k)}
noncomputable def yar(N:List AQ)(so sc:Bc)(NC:List AQ)(sl:List (Option Nat)):Bool:=
 decide (sc.kind=.function)&&(sc.names.all λy=>y.2 != .local || decide (sc.names.lookup y.1=AA .local))&&(sc.names.all λy=>y.2 != .cell)&&(sc.names.all λy=>y.2 != .free || decide (so.names.lookup y.1=AA .cell)) &&
  ((NC.zip sl).all λp=>p.2.all λj=>decide (N[j]?=AA p.1/\sc.names.lookup p.1=AA .free))&&decide (sl.length=NC.length)
theorem ziu{X:Cx}{sc:Bc}{NC:List AQ}{sl:List (Option Nat)}(h:yar X.N X.env.scope sc NC sl=AB):yaj X sc NC sl:=by
 erw[yar,AK,decide_eq_true_eq,Bb,Ct,bne_iff_ne,ne_eq]at h;let⟨⟨⟨⟨⟨h1,h2⟩,h3⟩,h4⟩,h5⟩,h6⟩:=h;exact ycW _ _ rfl rfl h1 (λy hy e=>(h2 y hy).resolve_left λz=>z e) h3 (λy hy e=>(h4 y hy).resolve_left λz=>z e) (λp hp=>by simpa using h5 p hp) h6
theorem Good.comp{m:Nat}{S:Se}{X:Cx}(G:Good γ κ m S X)(sc:Bc)(NC:List AQ)(j:CI):Good γ ⟨NC,ybX sc κ.sc,AD⟩ m S (cxC X sc NC j):=by
 refine⟨rfl,?_,G.calm,G.room,(λh=>nomatch h),⟨G.glo.F,G.glo.Q,G.glo.C,G.glo.D,G.glo.E,G.glo.N,G.glo.B,G.glo.T,G.glo.A,G.glo.M,λy D h=>let ⟨fa,fdd,ps,M,d⟩:=G.glo.K y D h;⟨fa,fdd,ps,⟨M.F,M.kp,M.b⟩,d⟩⟩⟩;show relabel sc X.env=_;rw[<-G.sc];rfl
def ygc(c:Ce)(f:∀x,Pr (YT γ κ x c))(ifs:List AS):Pr (∀m S X,Good γ κ m S X->PTs X ifs (tT0 S X.K c)):=
 match ifs with
 |[]=>match c with
  |.cst (.bl AB)=>ok λ_ _ _ _=>zi6
  |_=>AC
 |[a]=>an (f a) λh=>ok λm S X G=>zj9 rfl (h m S X G)
 |_=>AC
structure ych(γ:Gs)(κ:Kx)(sl:List (Option Nat))(ct:Tg)(ci:Cit)(cc ce:Ce)(elt tg it:AS)(ifs:List AS)(sc:Bc):Prop where
 q:∀m S X,Good γ κ m S X->∃NC,yaj X sc NC sl/\PI X tg it (tI S X ci)/\(∀j,PG (cxC X sc NC j) tg (tG0 S X.K ct))/\(∀j,PTs (cxC X sc NC j) ifs (tT0 S X.K cc))/\∀j,PE (cxC X sc NC j) elt (tE0 S X.K ce)
 f:yax ct sl=AB
 s:nse it=AB
def mCo(sl:List (Option Nat))(ct:Tg)(fi:∀tg l,Pr (YI γ κ tg l ci))(C:Ev γ cc)(E:Ev γ ce)(elt tg it:AS)(ifs:List AS)(sc:Bc):Pr (ych γ κ sl ct ci cc ce elt tg it ifs sc):=
 an (ask (yar κ.N κ.sc sc (ycK κ.N sl tg) sl=AB/\yax ct sl=AB/\nse it=AB)) λh=>an (fi tg it) λhi=>an (mTg (γ:=γ) (κ:=⟨ycK κ.N sl tg,ybX sc κ.sc,AD⟩) ct tg) λhg=>
  an (ygc (γ:=γ) (κ:=⟨ycK κ.N sl tg,ybX sc κ.sc,AD⟩) cc (C.t _) ifs) λht=>an (E.e ⟨ycK κ.N sl tg,ybX sc κ.sc,AD⟩ elt) λhe=>ok ⟨λm S X G=>⟨ycK κ.N sl tg,by
   rw[<-G.n,<-G.sc]at h;rw[<-G.n];exact ziu h.1,hi m S X G,λj=>zkQ rfl (hg m S _ (G.comp sc _ j)),λj=>ht m S _ (G.comp sc _ j),λj=>zkU rfl (he m S _ (G.comp sc _ j))⟩,h.2.1,h.2.2⟩
def yen(sl:List (Option Nat))(ct:Tg)(fi:∀tg l,Pr (YI γ κ tg l ci))(C:Ev γ cc)(E:Ev γ ce)(e:AS):Pr (YE γ κ e (.comp sl ct ci cc ce)):=
 match e with
 |.ListComp elt [⟨tg,it,ifs,0⟩] sc _=>an (mCo sl ct fi C E elt tg it ifs sc) λh=>ok λm S X G=>by
  let⟨NC,h1,h2,h3,h4,h5⟩:=h.q m S X G;exact zkm G.calm h1 h.f h2 h3 h4 h5 (fse h.s)
 |_=>AC
end
section
variable {γ:Gs}{κ:Kx}
end
mutual
noncomputable def ch(γ:Gs):(c:Ce)->Ev γ c
 |.cst v=>plain λκ x=>ygC v x
 |.var i=>plain λκ x=>yeJ i x
 |.bin o a b=>plain λκ x=>yfL o x ((ch γ a).e κ) ((ch γ b).e κ)
 |.neg a=>plain λκ x=>ygk x ((ch γ a).e κ)
 |.not a=>ycr (λκ x=>ygx x ((ch γ a).e κ)) (yga (ch γ a))
 |.and a b=>yd7 (ch γ a) (ch γ b)
 |.or a b=>yfd (ch γ a) (ch γ b)
 |.cmp o a b=>ycr (λκ x=>yfj o x ((ch γ a).e κ) ((ch γ b).e κ)) (λκ x=>ydV o x ((ch γ a).e κ) ((ch γ b).e κ))
 |.chain o p a b c=>ycr (λκ x=>ygn o p x ((ch γ a).e κ) ((ch γ b).e κ) ((ch γ c).e κ)) (λκ x=>yd1 o p x ((ch γ a).e κ) ((ch γ b).e κ) ((ch γ c).e κ))
 |.ite c a b=>plain λκ x=>yfc x ((ch γ c).t κ) ((ch γ a).e κ) ((ch γ b).e κ)
 |.tup es=>plain λκ x=>ye8 x (yaN (chs γ es κ))
 |.lst es=>plain λκ x=>yfx x (yaN (chs γ es κ))
 |.newl es=>plain λκ x=>yeo x (yaN (chs γ es κ))
 |.dict0 t=>plain λκ x=>yef t x
 |.idx a i=>plain λκ x=>mIdx x ((ch γ a).e κ) ((ch γ i).e κ)
 |.slc a l h=>plain λκ x=>yfE x ((ch γ a).e κ) (λo=>yeU l o ((ch γ l).e κ)) (λo=>yeU h o ((ch γ h).e κ))
 |.call f es=>plain λκ x=>yfO f (chs γ es κ) x
 |.blt b es=>plain λκ x=>ygm b (chs γ es κ) x
 |.mth k o es=>plain λκ x=>yfD k (chs γ es κ) x ((ch γ o).e κ)
 |.isi a ts=>plain λκ x=>yf4 ts x ((ch γ a).e κ)
 |.comp sl tg it c e=>plain λκ x=>yen sl tg (chi γ it κ) (ch γ c) (ch γ e) x
 |.frz a=>plain λκ x=>an ((ch γ a).e κ x) λh=>ok λm S X G=>zmr (h m S X G)
 |.nope=>plain λκ x=>ok λ_ _ _ _=>zkc
 |.dix D a=>plain λκ x=>ye3 D x ((ch γ a).e κ)
 |.din a D=>plain λκ x=>yfn D x ((ch γ a).e κ)
 |.fld c a f=>plain λκ x=>yfl c f x ((ch γ a).e κ)
 |.new c i es=>plain λκ x=>yft c i (chs γ es κ) x
 |.mcl c i n o es=>plain λκ x=>yfY c i n (chs γ es κ) x ((ch γ o).e κ)
noncomputable def chs(γ:Gs):(cs:Ces)->(κ:Kx)->Fs γ κ cs
 |.nil,_=>.nil
 |.cons c cs,κ=>.cons (λx=>(ch γ c).e κ x) (chs γ cs κ)
noncomputable def chi(γ:Gs):(c:Cit)->(κ:Kx)->∀tg l,Pr (YI γ κ tg l c)
 |.seq a,κ=>yfr ((ch γ a).e κ)
 |.range1 a,κ=>iR1 ((ch γ a).e κ)
 |.enum a,κ=>ydz ((ch γ a).e κ)
 |.zip a b,κ=>yfI ((ch γ a).e κ) ((ch γ b).e κ)
 |_,_=>λ_ _=>AC
end
section
variable {γ:Gs}{κ:Kx}{ca cb cc ce:Ce}{ci:Cit}{ct:Tg}{cs cs':Css}{ces:Ces}
def ydF(f:∀x,Pr (YE γ κ x ca))(s:Bn):Pr (YS γ κ s (.expr ca)):=
 match s with
 |.Expr a _=>an (ask (nco a=AB)) λhs=>an (f a) λh=>ok λm S X G=>zkz (h m S X G) (swp hs)
 |_=>AC
def yeM(i:Nat)(f:∀x,Pr (YE γ κ x ca))(s:Bn):Pr (YS γ κ s (.asg (.n i) ca)):=
 match s with
 |.Assign [.Name x _] a _=>an (ask (nco a=AB/\setB κ i x=AB)) λhs=>an (f a) λh=>ok λm S X G=>let q:=zaQ G hs.2;zmS q.d q.i q.l (h m S X G) (swp hs.1) q.f
 |_=>AC
theorem yeX{a:AS}(h:nst a=AB):(match (generalizing:=false) a with | .Starred _ _=>AB|_=>AD)=false:=by
 revert h;cases a<;>intro h<;>first|rfl|cases h
def swD(so:Bc)(x y:AQ)(px py:CH)(a b:AS):Bool:=(if so.kind.isAnnotationScope then F2 else so.kind)==.function&&so.names.lookup x==AA .local&&so.names.lookup y==AA .local&&py.line==px.line&&nst a&&nst b&&!(x==y)&&!(foldedForSure 8 a&&foldedForSure 8 b)&&!(constantsAlone 8 a&&constantsAlone 8 b)
theorem ye9{x y:AQ}{px py pt pt2:CH}{kt k2:Nat}{a b:AS}{env:BS}(h:swD env.scope x y px py a b=AB):
  swappedStores [.Tuple [.Name x px,.Name y py] kt pt] (.Tuple [a,b] k2 pt2) env=pure (AA [x,y]):=by
 erw[swD,AK,C8]at h;let⟨⟨⟨⟨⟨⟨⟨⟨h1,h2⟩,h3⟩,h4⟩,h5⟩,h6⟩,h7⟩,h8⟩,h9⟩:=h;have k1:(env.blockKind != .function)=false:=by
  show (!((if env.scope.kind.isAnnotationScope then F2 else env.scope.kind)==.function))=AD;rw[h1];rfl
 have k2:env.kindOf x=AA .local:=eq_of_beq h2;have k3:env.kindOf y=AA .local:=eq_of_beq h3;have k4:py.line=px.line:=eq_of_beq h4;have k7:¬y=x:=λz=>by subst z;simp at h7
 have m1:=yeX h5;have m2:=yeX h6;have c8:¬(foldedForSure 8 a=AB/\foldedForSure 8 b=AB):=λz=>by rw[z.1,z.2]at h8;cases h8
 have c9:¬(constantsAlone 8 a=AB/\constantsAlone 8 b=AB):=λz=>by rw[z.1,z.2]at h9;cases h9
 have x1:(Expr.Name x px).pos=px:=rfl;have x2:(Expr.Name y py).pos=py:=rfl;unfold swappedStores;simp[k1,m1,m2,k2,k3,k4,List.eraseDups_cons,k7,x1,x2,c8,c9,CP];intro z;exfalso;rcases z with z|z
 .exact Av (m1.symm.trans z)
 .exact Av (m2.symm.trans z)
def ygq(i j:Nat)(fa:∀x,Pr (YE γ κ x ca))(fb:∀x,Pr (YE γ κ x cb))(s:Bn):Pr (YS γ κ s (.asg (.t [i,j]) (.tup (.cons ca (.cons cb .nil))))):=
 match s with
 |.Assign [.Tuple [.Name x px,.Name y py] _ _] (.Tuple [a,b] _ _) _=>an (ask (setB κ i x=AB/\setB κ j y=AB/\i≠j/\swD κ.sc x y px py a b=AB)) λh=>an (fa a) λha=>an (fb b) λhb=>ok λm S X G=>by
  let⟨h1,h2,h3,h4⟩:=h;have q:=zaQ G h1;have r:=zaQ G h2;have h5:=h4;erw[swD,AK]at h5;have e1:X.env.scope.names.lookup x=AA .local:=by rw[G.sc];exact eq_of_beq h5.1.1.1.1.1.1.1.2
  have e2:X.env.scope.names.lookup y=AA .local:=by rw[G.sc];exact eq_of_beq h5.1.1.1.1.1.1.2
  exact zmj G.calm q.d q.i r.i h3 (zmt G.calm q.d q.i r.i h3 e1 e2 (zdF (ha m S X G) (zdF (hb m S X G) zgr (yaa h5.1.1.1.2)) (yaa h5.1.1.1.1.2)) (ye9 (by rw[G.sc];exact h4)))
 |_=>AC
theorem sw0{es:List AS}{k:Nat}{p:CH}{a:AS}{env:BS}(h:ntu a=AB):swappedStores [.Tuple es k p] a env=pure none:=by
 cases a<;>first|rfl|cases h
theorem sw1{b c:AS}{p:CH}{a:AS}{env:BS}:swappedStores [.Subscript b c p] a env=pure none:=by
 cases a<;>rfl
theorem yeO{t a:AS}{l:Nat}{env:BS}(h:nco a=AB):swapsWithSole [t] a l env=pure false:=by
 show swapsWith a (AA t) l env=_;exact swp h
theorem asS{b c:AS}{pos:CH}{env:BS}(h:nsl c=AB):∀v,assign (.Subscript b c pos) env v=(do
   let ov <-holding [v] (eval b env)
   let iv <-holding [v,ov] (eval c env)
   standAt pos
   holding [v,ov,iv] (setItem ov iv v)
   release [v,ov,iv] []):=by
 cases c<;>first|exact λ_=>rfl|cases h
def ygG(l:List Nat)(f:∀x,Pr (YE γ κ x ca))(s:Bn):Pr (YS γ κ s (.asg (.t l) ca)):=
 match s with
 |.Assign [.Tuple es k p] a _=>an (ask (nco a=AB/\ntu a=AB)) λhs=>an (mTg (γ:=γ) (κ:=κ) (.t l) (.Tuple es k p)) λhg=>an (f a) λh=>ok λm S X G=>zkW (h m S X G) (hg m S X G) (yeO hs.1) (sw0 hs.2)
 |_=>AC
def yfT(f:∀x,Pr (YE γ κ x cc))(fo:∀x,Pr (YE γ κ x ca))(fi:∀x,Pr (YE γ κ x cb))(s:Bn):Pr (YS γ κ s (.six ca cb cc)):=
 match s with
 |.Assign [.Subscript b c _] a _=>an (ask (nco a=AB/\nsl c=AB)) λhs=>an (f a) λh=>an (fo b) λho=>an (fi c) λhi=>ok λm S X G=>zl1 (h m S X G) (ho m S X G) (hi m S X G) (yeO hs.1) sw1 (zjv (ho m S X G) (hi m S X G) zfT (asS hs.2))
 |_=>AC
def ydP(f:∀x,Pr (YE γ κ x cc))(fo:∀x,Pr (YE γ κ x ca))(fi:∀x,Pr (YE γ κ x cb))(s:Bn):Pr (YS γ κ s (.dput ca cb cc)):=
 match s with
 |.Assign [.Subscript b c _] a _=>an (ask (nco a=AB)) λhs=>an (f a) λh=>an (fo b) λho=>an (fi c) λhi=>ok λm S X G=>zk3 (zkb G.room) (ho m S X G) (hi m S X G) (h m S X G) (swp hs)
 |_=>AC
def yfW(op:DW)(o:BOp):Pr (∀S X,PIp X op (rT2 S X (ybv o))):=
 match op,o with
 |.Add,.add=>ok λ_ _=>zld
 |_,_=>AC
def yf3(i:Nat)(o:BOp)(f:∀x,Pr (YE γ κ x ca))(s:Bn):Pr (YS γ κ s (.aug i o ca)):=
 match s with
 |.AugAssign (.Name x _) op a _=>an (ask (setB κ i x=AB)) λh=>an (yfW op o) λhp=>an (f a) λha=>ok λm S X G=>let q:=zaQ G h;zmQ q.d q.i q.l (ha m S X G) (hp S X) q.f (ybe q.p) (ydp q.p)
 |_=>AC
def ye2(c:Ce)(f:∀x,Pr (YE γ κ x c))(s:Bn):Pr (YS γ κ s (.ret c)):=
 match s with
 |.Return (AA a) _=>an (f a) λh=>ok λm S X G=>znf (h m S X G)
 |.Return AC _=>match c with
  |.cst .non=>ok λ_ _ _ _=>zk8
  |_=>AC
 |_=>AC
def sIf(fc:∀x,Pr (YT γ κ x cc))(fa:∀x,Pr (YSs γ κ x cs))(fb:∀x,Pr (YSs γ κ x cs'))(s:Bn):Pr (YS γ κ s (.ite cc cs cs')):=
 match s with
 |.If c a b _=>an (fc c) λhc=>an (fa a) λha=>an (fb b) λhb=>ok λm S X G=>zn6 (hc m S X G) (ha m S X G) (hb m S X G)
 |_=>AC
def yfH(ct:Tg)(fi:∀tg l,Pr (YI γ κ tg l ci))(fb:∀x,Pr (YSs γ κ x cs))(s:Bn):Pr (YS γ κ s (.for ct ci cs)):=
 match s with
 |.For tg l b [] _=>an (ask (κ.own=AB/\nse l=AB)) λho=>an (fi tg l) λhi=>an (mTg (γ:=γ) (κ:=κ) ct tg) λhg=>an (fb b) λhb=>ok λm S X G=>zlZ (G.own ho.1).1 G.calm (hi m S X G) (hg m S X G) (hb m S X G) (fse ho.2)
 |_=>AC
def sWh(fc:∀x,Pr (YT γ κ x cc))(fb:∀x,Pr (YSs γ κ x cs))(s:Bn):Pr (YS γ κ s (.while cc cs)):=
 match s with
 |.While c b [] _=>an (ask (κ.own=AB)) λho=>an (fc c) λhc=>an (fb b) λhb=>ok λm S X G=>zh0 (G.own ho).1 (hc m S X G) (hb m S X G)
 |_=>AC
def ygf(c:Nat)(f:AQ)(fo:∀x,Pr (YE γ κ x ca))(fv:∀x,Pr (YE γ κ x cb))(s:Bn):Pr (YS γ κ s (.sfl c ca f cb)):=
 match s with
 |.Assign [.Attribute a g _] b _=>an (ask (g=f/\γ.fl c f=AB/\nco b=AB)) λh=>an (fo a) λha=>an (fv b) λhb=>ok λm S X G=>by
  let⟨rfl,h1,h2⟩:=h;exact zlw (G.glo.A c g h1).1 (G.glo.A c g h1).2 (ha m S X G) (hb m S X G) (swp h2)
 |_=>AC
def yfA(c i:Nat)(f:AQ)(j:Int)(fo:∀x,Pr (YE γ κ x (.var i)))(fv:∀x,Pr (YE γ κ x (.cst (.int j))))(s:Bn):Pr (YS γ κ s (.sfl c (.var i) f (.bin .add (.fld c (.var i) f) (.cst (.int j))))):=
 match s with
 |.AugAssign (.Attribute a g _) .Add b _=>an (ask (g=f/\γ.fl c f=AB)) λh=>an (fo a) λha=>an (fv b) λhb=>ok λm S X G=>by
  let⟨rfl,h1⟩:=h;exact znj (G.glo.A c g h1).1 (G.glo.A c g h1).2 (ha m S X G) (hb m S X G)
 |_=>AC
def yeY(c:Nat)(o:Ce)(f:AQ)(e:Ce)(O:Ev γ o)(E:Ev γ e)(s:Bn):Pr (YS γ κ s (.sfl c o f e)):=
 match s with
 |.AugAssign t op b p=>match o,e with
  | .var i,.bin .add (.fld c' (.var i') f') (.cst (.int j))=>an (ask (c'=c/\i'=i/\f'=f)) λh=>an (yfA (γ:=γ) (κ:=κ) c i f j (λx=>yeJ i x) (λx=>yew (.int j) x) (.AugAssign t op b p)) λq=>ok (by
    let⟨rfl,rfl,rfl⟩:=h;exact q)
  |_,_=>AC
 |s=>ygf c f (O.e κ) (E.e κ) s
def yfz(ix:Nat)(D:List (AQ×Nat)){cn:Ce}{ces:Ces}(fn:∀x,Pr (YE γ κ x cn))(F:Fs γ κ ces)(ss:List Bn):Pr (YSs γ κ ss (.cons (.mkr ix D cn ces) .nil)):=
 match ss with
 |[.Assign [.Name x _] (.Subscript (.Name y _) n _) _,.Return (AA (.Call (.Name x' _) (e::es) [] _)) _]=>match hy:γ.mr y with
  |some E=>an (ask (E=D/\x'=x/\setB κ ix x=AB/\ydn κ.sc x=AB/\glB κ y=AB/\nsl n=AB/\nst e=AB/\ybB es=AB)) λh=>an (fn n) λhn=>an (yaN F (e::es)) λha=>ok λm S X G=>by
   let⟨rfl,rfl,h1,h2,h3,h4,h5,h6⟩:=h;have q:=zaQ G h1;let⟨fa,fdd,ps,M,d⟩:=G.glo.K y E hy;exact zlB M (G.room.mono (Ca m)) q.d q.i q.l (by rw[G.sc];exact zhP h2) (z7 G h3) d (hn m S X G) (ha m S X G) (nos h4) (swp rfl) q.f (ybe (zbf h3)) (ybe q.p) (ydp q.p) (yaa h5) (stars h6)
  |none=>AC
 |_=>AC
end
mutual
noncomputable def chS(γ:Gs):(c:Cs)->(κ:Kx)->∀s,Pr (YS γ κ s c)
 |.expr e,κ=>ydF ((ch γ e).e κ)
 |.asg (.n i) c,κ=>yeM i ((ch γ c).e κ)
 |.asg (.t [i,j]) (.tup (.cons a (.cons b .nil))),κ=>ygq i j ((ch γ a).e κ) ((ch γ b).e κ)
 |.asg (.t l) c,κ=>ygG l ((ch γ c).e κ)
 |.six o i e,κ=>yfT ((ch γ e).e κ) ((ch γ o).e κ) ((ch γ i).e κ)
 |.dput o i e,κ=>ydP ((ch γ e).e κ) ((ch γ o).e κ) ((ch γ i).e κ)
 |.aug i o e,κ=>yf3 i o ((ch γ e).e κ)
 |.ret e,κ=>ye2 e ((ch γ e).e κ)
 |.ite c a b,κ=>sIf ((ch γ c).t κ) (ycB γ a κ) (ycB γ b κ)
 |.for t it b,κ=>yfH t (chi γ it κ) (ycB γ b κ)
 |.while c b,κ=>sWh ((ch γ c).t κ) (ycB γ b κ)
 |.nope,_=>λ_=>ok λ_ _ _ _=>zj1
 |.sfl c o f e,κ=>yeY c o f e (ch γ o) (ch γ e)
 |_,_=>λ_=>AC
noncomputable def ycB(γ:Gs):(c:Css)->(κ:Kx)->∀s,Pr (YSs γ κ s c)
 |.nil,_,[]=>ok λ_ _ _ _=>znp
 |.cons (.mkr ix D cn ces) .nil,κ,ss=>yfz ix D ((ch γ cn).e κ) (chs γ ces κ) ss
 |.cons c cs,κ,s::ss=>an (chS γ c κ s) λh=>an (ycB γ cs κ ss) λhr=>ok λm S X G=>zj6 (h m S X G) (hr m S X G)
 |_,_,_=>AC
end
inductive Dk where
 |fn|fd (ds:List Int)|me (c:Nat)|ini (c:Nat)
structure Df where
 gn:AQ
 nm:AQ
 q:AQ
 st:Bn
 N:List AQ
 ps:List AQ
 fn:IC.Fn
 k:Dk
def scB(N P:List AQ)(sc:Bc):Bool:=decide (sc.kind=.function)&&!sc.isCoroutine&&!sc.isGenerator&&decide N.Nodup&&decide (N.take P.length=P)&&P.all (ydj sc)&&sc.names.all λy=>y.2 != .free
theorem zlO{N P:List AQ}{sc:Bc}(h:scB N P sc=AB):ya4 N P sc:=by
 erw[scB,AK,decide_eq_true_eq,C8,Bb,bne_iff_ne,ne_eq]at h;let⟨⟨⟨⟨⟨⟨h1,h2⟩,h3⟩,h4⟩,h5⟩,h6⟩,h7⟩:=h;exact⟨h1,h2,h3,h4,h5,λx hx=>zgC (h6 x hx),h7⟩
def okD(γ:Gs)(d:Df):Bool:=scB d.N d.ps (yw d.st)&&decide (d.ps.length=d.fn.np)&&decide (d.N.length=d.fn.ns)&&(ycB γ d.fn.body ⟨d.N,yw d.st,AB⟩ (yS d.st)).isSome
noncomputable def ybz{α:Type}(P:α->Prop):List α->Prop
 |[]=>True
 |d::r=>P d/\ybz P r
theorem ybz.get{α:Type}{P:α->Prop}:∀{l:List α},ybz P l->∀d∈l,P d
 |_::_,h,d,hd=>by
  rcases Ad.1 hd with rfl|hd
  .exact h.1
  .exact h.2.get d hd
noncomputable def ybq:List AQ->(List AF->Prop)->Prop
 |[],P=>P []
 |_::r,P=>∀a,ybq r λus=>P (a::us)
theorem ybq.get:∀{ps:List AQ} {P:List AF->Prop},ybq ps P->∀us,us.length=ps.length->P us
 |[],P,h,[],_=>h
 |_::r,P,h,a::us,e=>(h a).get us (by simpa using e)
def ya2(d:Df):Prop:=∀(kV doc pm:AF) (an:Option AI) (cdv ct:AF),ybq d.ps λus=>bindArgs (BX d.nm d.q (yZ d.st) (yS d.st) (yw d.st) .none kV doc pm an cdv ct) ⟨us,[]⟩=pure (d.ps.zip us)
structure yb3(K:AE)(d:Df)(dv:AF)(f:AI)(fd:Az):Prop where
 ex:∃(oc:AF) (od:Option AI) (kV doc pm:AF) (an:Option AI) (cdv ct:AF) (osl:Array (Option AF)),
  fd=BX d.nm d.q (yZ d.st) (yS d.st) (yw d.st) dv kV doc pm an cdv ct/\K.lookup f=AA ⟨oc,od,.func fd,osl⟩/\CA K cdv d.q=AB
 kp:An K (.ref f)=AB
def At(K:AE)(cn:Nat->AQ)(d:Df)(f:AI):Prop:=
 match d.k with
 |.fn=>BF K mainGlobals d.gn=AA (AA (.ref f))/\ya2 d
 |.fd _=>BF K mainGlobals d.gn=AA (AA (.ref f))
 |.me c=>ya2 d/\∃q,BF K mainGlobals (cn c)=AA (AA (.ref q))/\As K (.ref q) d.nm=AA (AA (.ref f))/\Ci K (.ref f)=AB
 |.ini c=>ya2 d/\∃q,BF K mainGlobals (cn c)=AA (AA (.ref q))/\As K (.ref q) d.nm=AA (AA (.ref f))/\Ci K (.ref f)=AB/\DZ K q=AB/\An K (.ref q)=AB
def DvP(K:AE)(d:Df)(dv:AF):Prop:=
 match d.k with
 |.fd ds=>∃dT o its n,dv=.ref dT/\K.lookup dT=AA o/\o.data=.seq its n/\Vals (ds.map V.int) its.toList
 |_=>dv=.none
def ycC(K:AE)(cn:Nat->AQ)(d:Df):Prop:=∃dv f fd,yb3 K d dv f fd/\At K cn d f/\DvP K d dv
section
variable {K:AE}{cn:Nat->AQ}{gn nm:AQ}{st:Bn}{N ps:List AQ}{fn:IC.Fn}{f:AI}{oc:AF}{od:Option AI}{kV doc pm:AF}{an:Option AI}{cdv ct:AF}{osl:Array (Option AF)}
theorem rowFn(a:BF K mainGlobals gn=AA (AA (.ref f)))(l:K.lookup f=AA ⟨oc,od,.func (BX nm nm (yZ st) (yS st) (yw st) .none kV doc pm an cdv ct),osl⟩)
  (c:CA K cdv nm=AB) (p:An K (.ref f)=AB) (b:ya2 ⟨gn,nm,nm,st,N,ps,fn,.fn⟩):ycC K cn ⟨gn,nm,nm,st,N,ps,fn,.fn⟩:=
 ⟨.none,f,_,⟨⟨oc,od,kV,doc,pm,an,cdv,ct,osl,rfl,l,c⟩,p⟩,⟨a,b⟩,rfl⟩
theorem rowFd{ds:List Int}{dT:AI}{o:Bs}{its:Array AF}{n:Nat}(a:BF K mainGlobals gn=AA (AA (.ref f)))(l:K.lookup f=AA ⟨oc,od,.func (BX nm nm (yZ st) (yS st) (yw st) (.ref dT) kV doc pm an cdv ct),osl⟩)
  (c:CA K cdv nm=AB) (p:An K (.ref f)=AB) (d:K.lookup dT=AA o) (e:o.data=.seq its n) (v:Vals (ds.map V.int) its.toList):ycC K cn ⟨gn,nm,nm,st,N,ps,fn,.fd ds⟩:=
 ⟨.ref dT,f,_,⟨⟨oc,od,kV,doc,pm,an,cdv,ct,osl,rfl,l,c⟩,p⟩,a,dT,o,its,n,rfl,d,e,v⟩
theorem rowMe{qn:AQ}{cc:Nat}{q:AI}(z:BF K mainGlobals (cn cc)=AA (AA (.ref q)))(a:As K (.ref q) nm=AA (AA (.ref f)))(i:Ci K (.ref f)=AB)(l:K.lookup f=AA ⟨oc,od,.func (BX nm qn (yZ st) (yS st) (yw st) .none kV doc pm an cdv ct),osl⟩)
  (c:CA K cdv qn=AB) (p:An K (.ref f)=AB) (b:ya2 ⟨gn,nm,qn,st,N,ps,fn,.me cc⟩):ycC K cn ⟨gn,nm,qn,st,N,ps,fn,.me cc⟩:=
 ⟨.none,f,_,⟨⟨oc,od,kV,doc,pm,an,cdv,ct,osl,rfl,l,c⟩,p⟩,⟨b,q,z,a,i⟩,rfl⟩
theorem rowIni{qn:AQ}{cc:Nat}{q:AI}(z:BF K mainGlobals (cn cc)=AA (AA (.ref q)))(a:As K (.ref q) nm=AA (AA (.ref f)))(i:Ci K (.ref f)=AB)(l:K.lookup f=AA ⟨oc,od,.func (BX nm qn (yZ st) (yS st) (yw st) .none kV doc pm an cdv ct),osl⟩)
  (c:CA K cdv qn=AB) (p:An K (.ref f)=AB) (b:ya2 ⟨gn,nm,qn,st,N,ps,fn,.ini cc⟩) (mk:DZ K q=AB) (kq:An K (.ref q)=AB):ycC K cn ⟨gn,nm,qn,st,N,ps,fn,.ini cc⟩:=
 ⟨.none,f,_,⟨⟨oc,od,kV,doc,pm,an,cdv,ct,osl,rfl,l,c⟩,p⟩,⟨b,q,z,a,i,mk,kq⟩,rfl⟩
theorem gdf_mk{w:Ag}{h:Ay}{mg:AQ->Option AF}{x:AQ}{D:List (AQ×Nat)}{fa:Nat->AI}{y:AI}{es:Array By}{ep:Nat}(X:K.In h)(G:h.Ns mainGlobals mg)(a:BF K mainGlobals x=AA (AA (.ref y)))(l:K.lookup y=AA ⟨.type "dict",AC,.dict es ep,#[]⟩)
  (r:ybY w fa D es.toList) (n:(D.map (·.1)).Nodup):GDF K w mg fa x D:=⟨y,es,ep,EJ X G a,l,r,n⟩
theorem gd_mk{w:Ag}{h:Ay}{mg:AQ->Option AF}{x:AQ}{D:List (AQ×PV)}{cl:Nat->AI}{y:AI}{es:Array By}{ep:Nat}(X:K.In h)(G:h.Ns mainGlobals mg)(a:BF K mainGlobals x=AA (AA (.ref y)))(l:K.lookup y=AA ⟨.type "dict",AC,.dict es ep,#[]⟩)
  (s:(y==sysModules)=AD) (r:yb2 K cl w D es.toList) (n:(D.map (·.1)).Nodup):GD K w mg cl x D:=⟨y,es,ep,EJ X G a,l,s,r,n⟩
end
abbrev KoV(K:AE)(v:PV)(u:AF):Prop:=∃x:V,RelV x u/\∀cl B φ H,yd K cl B φ H v x
abbrev KoL(K:AE)(vs:List PV)(us:List AF):Prop:=∃xs:List V,Vals xs us/\∀cl B φ H,ye K cl B φ H vs xs
mutual
noncomputable def yeb(K:AE):(v:PV)->(u:AF)->Pr (KoV K v u)
 |.int i,.int j t=>an (ask (i=j)) λh=>ok ⟨.int i,⟨t,by rw[h]⟩,λ_ _ _ _=>by erw[yd]⟩
 |.str i,.str j t=>an (ask (i=j)) λh=>ok ⟨.str i,⟨t,by rw[h]⟩,λ_ _ _ _=>by erw[yd]⟩
 |.tp AB vs,.ref a=>match h:K.lookup a with
  |some ⟨c,_,.seq its n,_⟩=>an (ask (c=.type "tuple"/\its.size<=sizeLine)) λq=>an (yc6 K vs its.toList) λr=>ok (by
    let⟨xs,r1,r2⟩:=r;refine⟨.ref a,rfl,λcl B φ H=>?_⟩;erw[yd];exact⟨a,xs,rfl,.inr ⟨rfl,_,its,n,h,q.1,rfl,q.2,r1⟩,r2 cl B φ H⟩)
  |_=>AC
 |_,_=>AC
noncomputable def yc6(K:AE):(vs:List PV)->(us:List AF)->Pr (KoL K vs us)
 |[],[]=>ok ⟨[],.nil,λ_ _ _ _=>by erw[ye]⟩
 |v::vs,u::us=>an (yeb K v u) λh=>an (yc6 K vs us) λr=>ok (by
   let⟨x,h1,h2⟩:=h;let⟨xs,r1,r2⟩:=r;refine⟨x::xs,.cons h1 r1,λcl B φ H=>?_⟩;erw[ye];exact⟨x,xs,rfl,h2 cl B φ H,r2 cl B φ H⟩)
 |_,_=>AC
end
theorem con_row{K:AE}{cl:Nat->AI}{w:Ag}{k:AQ}{v:PV}{tk:HQ}{u:AF}{D:List (AQ×PV)}{es:List By}(c:(yeb K v u).isSome=AB)(h:yb2 K cl w D es):yb2 K cl w ((k,v)::D) (⟨Dq w.params k,.str k tk,u⟩ :: es):=by
 let⟨⟨x,r,q⟩,_⟩:=Aq.1 c;exact .cons r (q cl) h
theorem frow_cons{w:Ag}{fa:Nat->AI}{k:AQ}{i:Nat}{tk:HQ}{a:AI}{D:List (AQ×Nat)}{es:List By}(e:fa i=a)(h:ybY w fa D es):ybY w fa ((k,i)::D) (⟨Dq w.params k,.str k tk,.ref a⟩ :: es):=by
 subst e;exact .cons h
structure Tb where
 tbl:List Df
 al:List (AQ×GK)
 bs:List AQ
 ts:List Ty
 fl:List (Nat×AQ)
 me:List ((Nat×AQ)×Nat)
 kb:List ((Nat×Nat×List AQ)×List (Option Int))
 cn:List (Nat×AQ)
 dd:List (AQ×List (AQ×PV))
 ml:List (AQ×List (AQ×Nat))
noncomputable abbrev eF(x:AQ)(i:Nat):AQ×GK:=(x,.fn i)
noncomputable abbrev eD(x:AQ)(i:Nat):AQ×GK:=(x,.fnD i)
noncomputable abbrev eC(x:AQ)(v:PV):AQ×GK:=(x,.cst v)
noncomputable abbrev eG(x:AQ)(g:GK):AQ×GK:=(x,g)
noncomputable abbrev eN(c:Nat)(x:AQ):Nat×Str:=(c,x)
noncomputable abbrev eM(c:Nat)(x:AQ)(i:Nat):(Nat×AQ)×Nat:=((c,x),i)
noncomputable abbrev eK(i n:Nat)(ks:List AQ)(sh:List (Option Int)):(Nat×Nat×List AQ)×List (Option Int):=((i,n,ks),sh)
noncomputable abbrev eL(x:AQ)(d:List (AQ×Nat)):AQ×List (AQ×Nat):=(x,d)
noncomputable abbrev eB(x:AQ)(d:List (AQ×PV)):AQ×List (AQ×PV):=(x,d)
noncomputable def tyE:Ty->Ty->Bool
 |.int,.int=>AB
 |.bool,.bool=>AB
 |.str,.str=>AB
 |.tuple,.tuple=>AB
 |.list,.list=>AB
 |_,_=>AD
theorem zlm{a b:Ty}(h:tyE a b=AB):a=b:=by
 cases a<;>cases b<;>first|rfl|cases h
def Tb.gs(t:Tb):Gs:=⟨λx=>t.al.lookup x,λx=>t.bs.contains x,λy=>t.ts.any (tyE y),λc f=>t.fl.contains (c,f),λc n=>t.me.lookup (c,n),λi n ks=>t.kb.lookup (i,n,ks),λx=>t.ml.lookup x⟩
noncomputable def nmA(K:AE)(x:AQ):Option Addr:=match BF K mainGlobals x with
 |some (AA (.ref q))=>AA q
 |_=>AC
def clA(K:AE)(t:Tb)(c:Nat):Addr:=((t.cn.lookup c).bind (nmA K)).getD 0
noncomputable def cnm(t:Tb)(c:Nat):Str:=(t.cn.lookup c).getD ""
def faA(K:AE)(t:Tb)(i:Nat):Addr:=match t.tbl[i]? with
 |some d=>match d.k with
  |.fn=>(nmA K d.gn).getD 0
  |.fd _=>(nmA K d.gn).getD 0
  |.me c=>match As K (.ref (clA K t c)) d.nm with
   |some (AA (.ref f))=>f
   |_=>0
  |.ini c=>match As K (.ref (clA K t c)) d.nm with
   |some (AA (.ref f))=>f
   |_=>0
 |none=>0
noncomputable def ycJ:Dk->Bool
 |.fn=>AB
 |_=>AD
noncomputable def yek:Dk->Bool
 |.fd _=>AB
 |_=>AD
noncomputable def yfb:PV->Bool
 |.int _=>AB
 |.tp _ _=>AB
 |_=>AD
def alB(K:AE)(t:Tb):AQ×GK->Bool
 |(x,.fn i)=>match t.tbl[i]? with
  |some d=>ycJ d.k&&(decide (x=d.gn) || decide (nmA K x=nmA K d.gn))
  |none=>AD
 |(x,.fnD i)=>match t.tbl[i]? with
  |some d=>yek d.k&&(decide (x=d.gn) || decide (nmA K x=nmA K d.gn))
  |none=>AD
 |(x,.cst v)=>yfb v&&match BF K mainGlobals x with
  |some (AA u)=>(yeb K v u).isSome
  |_=>AD
 |(x,.dct d)=>t.dd.any λp=>decide (p.1=x)&&(eqD p.2 d).isSome
 |(x,.exc c)=>decide (t.cn.lookup c=AA x)&&(nmA K x).any λq=>FT K q [.type "ValueError",.type "Exception",.type "BaseException",.type "object"] "ValueError.__new__"
 |(x,.cls c i)=>decide (t.cn.lookup c=AA x)&&(nmA K x).isSome&&match t.tbl[i]? with
  |some d=>match d.k with
   |.ini c'=>decide (c'=c)&&decide (d.nm="__init__")
   |_=>AD
  |none=>AD
def yer(K:AE)(t:Ty):Bool:=
 decide (BV K (.type "NoneType") (.type (tyN t))=AA (ybi .non t))&&decide (BV K (.type "bool") (.type (tyN t))=AA (ybi (.bl AB) t))&&decide (BV K (.type "int") (.type (tyN t))=AA (ybi (.int 0) t))&&decide (BV K (.type "str") (.type (tyN t))=AA (ybi (.str Fx) t))&&decide (BV K (.type "tuple") (.type (tyN t))=AA (ybi (.tp AB []) t))&&decide (BV K (.type "list") (.type (tyN t))=AA (ybi (.lst []) t))
noncomputable def yds(K:AE)(q:AI):Bool:=Ch K q Fx&&DA K q&&EA K q&&decide (As K (.ref q) "__setattr__"=AA (AA (.builtin "object.__setattr__")))
theorem zhh{K:AE}{q:AI}(h:yds K q=AB):Cls K q:=by
 erw[yds,AK,decide_eq_true_eq]at h;exact⟨h.1.1.1,h.1.1.2,h.1.2,h.2⟩
def yd5(K:AE)(t:Tb):Bool:=
 t.al.all (alB K t)&&t.bs.all (λx=>decide (BF K mainGlobals x=AA AC))&&t.ts.all (yer K) &&
  t.fl.all (λp=>(t.cn.lookup p.1).isSome&&(nmA K (cnm t p.1)).any λq=>yds K q&&decide (As K (.ref q) p.2=AA AC)) &&
  t.me.all (λp=>(t.cn.lookup p.1.1).isSome&&(nmA K (cnm t p.1.1)).any λq=>yds K q&&match t.tbl[p.2]? with
   |some d=>(match d.k with
    |.me c=>decide (c=p.1.1)
    |_=>AD)&&decide (d.nm=p.1.2)
   |none=>AD) &&
  t.ml.all λp=>p.2.all λq=>match t.tbl[q.2]? with
   |some d=>ycJ d.k
   |none=>AD
noncomputable def fd0:FuncData:=BX "" "" (yZ (.Pass ⟨0,0,0,0⟩)) [] (yw (.Pass ⟨0,0,0,0⟩)) .none .none .none .none AC .none .none
def fdA(K:AE)(t:Tb)(i:Nat):FuncData:=match K.lookup (faA K t i)with
 |some ⟨_,_,.func fd,_⟩=>fd
 |_=>fd0
noncomputable def psA(t:Tb)(i:Nat):List Str:=match t.tbl[i]? with
 |some d=>d.ps
 |none=>[]
theorem lkm{α β:Type}[BEq α][LawfulBEq α]{x:α}{k:β}:∀{l:List (α×β)},l.lookup x=AA k->(x,k)∈l
 |[],h=>nomatch h
 |y::l,h=>by
  rw[B9]at h
  cases hx:x==y.1 with
  |true=>rw[hx]at h;cases h;rw[eq_of_beq hx];exact BA
  |false=>rw[hx]at h;exact AX _ (lkm h)
def KbP(t:Tb)(p:(Nat×Nat×List AQ)×List (Option Int)):Prop:=∀d ds,t.tbl[p.1.1]?=AA d->d.k=.fd ds->∀(K:AE) (mg:AQ->Option AF) (f:AI) (fd:Az),FnD K mg d.nm d.st d.ps ds f fd->∃g,ybr K fd d.ps p.1.2.2 g (gK p.1.2.1 p.2)
structure Fact(t:Tb)(w:Ag)(K:AE)(mg:AQ->Option AF):Prop where
 X:∀x u,BF K mainGlobals x=AA u->mg x=u
 R:ybz (ycC K (cnm t)) t.tbl
 B:yd5 K t=AB
 D:ybz (λp=>∀cl,GD K w mg cl p.1 p.2) t.dd
 Kb:ybz (KbP t) t.kb
 Ml:ybz (λp=>GDF K w mg (faA K t) p.1 p.2) t.ml
theorem zm9{K:AE}{x:AQ}{q:AI}(h:nmA K x=AA q):BF K mainGlobals x=AA (AA (.ref q)):=by
 unfold nmA at h;split at h
 .cases h;assumption
 .cases h
theorem zb0{K:AE}{x:AQ}{q:AI}(h:BF K mainGlobals x=AA (AA (.ref q))):nmA K x=AA q:=by
 erw[nmA,h]
theorem zfK{K:AE}{t:Tb}{c:Nat}{q:AI}(h:nmA K (cnm t c)=AA q)(hc:(t.cn.lookup c).isSome=AB):clA K t c=q:=by
 let⟨x,e⟩:=Aq.1 hc;erw[clA,e,Bk];erw[cnm,e,Ba]at h;rw[h];rfl
noncomputable def okT(t:Tb)(d:Df):Bool:=okD t.gs d&&match d.k with
 |.fn=>AB
 |.fd _=>decide (d.q=d.nm)
 |.me c=>(t.cn.lookup c).isSome
 |.ini c=>(t.cn.lookup c).isSome&&decide (d.nm="__init__")
section
variable {t:Tb}{w:Ag}{K:AE}{mg:AQ->Option AF}{T:Nat->Option IC.Fn}{P:A7}{base:Ay}{k:Nat}
theorem zdj(F:Fact t w K mg)(O:∀d∈t.tbl,okT t d=AB){i:Nat}{d:Df}(h:t.tbl[i]?=AA d):∃dv fd,yb3 K d dv (faA K t i) fd/\At K (cnm t) d (faA K t i)/\DvP K d dv:=by
 have hm:=A4 h;let⟨dv,f,fd,h1,h2,h3⟩:=F.R.get d hm;have e:f=faA K t i:=by
  have o:=O d hm;erw[okT,AK]at o;have o:=o.2;erw[faA,h];unfold At at h2
  cases q:d.k with
  |fn=>
   rw[q]at h2;erw[zb0 h2.1,Ba]
  |fd ds=>
   rw[q]at h2;have h2:BF K mainGlobals d.gn=AA (AA (.ref f)):=h2;erw[zb0 h2,Ba]
  |me c=>
   rw[q]at h2 o;let⟨_,q',e1,e2,_⟩:=h2;erw[zfK (zb0 e1) o,e2]
  |ini c=>
   rw[q]at h2 o;let⟨_,q',e1,e2,_⟩:=h2;erw[AK]at o;erw[zfK (zb0 e1) o.1,e2]
 subst e;exact⟨dv,fd,h1,h2,h3⟩
theorem yb3.binds{d:Df}{f:AI}{fd:Az}(R:yb3 K d .none f fd)(b:ya2 d):Binds K fd d.ps []:=
 Fun.binds ⟨R.ex,R.kp⟩ λkV doc pm an cdv ct us hl=>(b kV doc pm an cdv ct).get us hl
theorem yb3.ok{d:Df}{dv:AF}{f:AI}{fd:Az}{fi m:Nat}{cl:Nat->AI}(R:yb3 K d dv f fd)(hT:T fi=AA d.fn)(Sc:ya4 d.N d.ps (yw d.st))(hnp:d.ps.length=d.fn.np)(hns:d.N.length=d.fn.ns)
  (body:∀(cdv:AF) (A:Am) (outer:List BS) (s:AJ) (H:Hp) (E:XK),yan m (A.deeper (envOfC d.q (yw d.st) s.heap.objs.size f cdv)) ->
   PSs (yaM (CX1 P w) P w K mg base d.N d.q (yw d.st) f cdv A outer s H E) (yS d.st) (tSs ⟨cl,yc T k,AB⟩ (yaM (CX1 P w) P w K mg base d.N d.q (yw d.st) f cdv A outer s H E) d.fn.body)):
  yaE P w K mg base (CX1 P w) (m+1) f fd d.ps (spI K cl (yc T (k+1)) fi):=by
 let⟨oc,od,kV,doc,pm,an,cdv,ct,osl,rfl,lk,hcd⟩:=R.ex;exact znI lk hcd Sc (λvs H Q E h=>zmE hT hnp h) λA outer s H vs Q E hr h=>⟨_,body cdv A outer s H E hr,zkD hT hns h⟩
def Fn2(t:Tb)(P:A7)(w:Ag)(K:AE)(mg:AQ->Option AF)(base:Ay)(T:Nat->Option IC.Fn)(k:Nat):Prop:=
 ∀i d dv fd,t.tbl[i]?=AA d->yb3 K d dv (faA K t i) fd->yaE P w K mg base (CX1 P w) (2*k) (faA K t i) fd d.ps (spI K (clA K t) (yc T k) i)
theorem zi5(F:Fact t w K mg)(O:∀d∈t.tbl,okT t d=AB)(C:Fn2 t P w K mg base T k){N:List AQ}{q:AQ}{sc:Bc}{f:AI}{cdv:AF}{A:Am}{outer:List BS}{s:AJ}{H:Hp}{E:XK}:
  Glo t.gs (2*k) ⟨clA K t,yc T k,AB⟩ (yaM (CX1 P w) P w K mg base N q sc f cdv A outer s H E):=by
 have B:=F.B;erw[yd5,AK,Bb]at B;let⟨⟨⟨⟨⟨b1,b2⟩,b3⟩,b4⟩,b5⟩,b6⟩:=B;have mgr:∀{x:AQ} {a:AI},nmA K x=AA a->mg x=AA (.ref a):=λh=>F.X _ _ (zm9 h);have same:∀{x y:AQ} {a:AI},(decide (x=y) || decide (nmA K x=nmA K y))=AB->nmA K y=AA a->nmA K x=AA a:=λ{x y a} h e=>by
  erw[Ct,decide_eq_true_eq]at h;rcases h with rfl|h
  .exact e
  .rw[h];exact e
 refine⟨λx i h=>?_,λx i np ks sh h hk=>?_,λx v h=>?_,λx d h=>?_,λx c h=>?_,λx c i h=>?_,λx h=>?_,λy h=>?_,λc n h=>?_,λc n i h=>?_,λy D h=>?_⟩
 .have q:=b1 _ (lkm h);erw[alB]at q;split at q
  .rename_i d hd;erw[AK]at q;let⟨dv,fd,r1,r2,r3⟩:=zdj F O hd;have hk:d.k=.fn:=by cases e:d.k<;>rw[e]at q<;>first|rfl|cases q.1
   erw[At,hk]at r2;erw[DvP,hk]at r3;subst r3;exact⟨_,fd,d.ps,C i d _ fd hd r1,mgr (same q.2 (zb0 r2.1)),r1.kp,r1.binds r2.2⟩
  .cases q
 .have q:=b1 _ (lkm h);erw[alB]at q;split at q
  .rename_i d hd;erw[AK]at q;let⟨dv,fd,r1,r2,r3⟩:=zdj F O hd;obtain⟨ds,hk'⟩:∃ds,d.k=.fd ds:=by cases e:d.k<;>rw[e]at q<;>first|exact⟨_,rfl⟩|cases q.1
   erw[At,hk']at r2;erw[DvP,hk']at r3;let⟨dT,o,its,n,rfl,e1,e2,e3⟩:=r3;have oo:=O d (A4 hd);erw[okT,hk',AK,decide_eq_true_eq]at oo;have D:FnD K (λ_=>AA (.ref (faA K t i))) d.nm d.st d.ps ds (faA K t i) fd:=by
    let⟨oc,od,kV,doc,pm,an,cdv,ct,osl,z1,z2,z3⟩:=r1.ex;rw[oo.2]at z1 z3;exact⟨⟨oc,od,dT,kV,doc,pm,an,cdv,ct,osl,o,its,n,z1,z2,z3,e1,e2,e3⟩,r1.kp,rfl⟩
   exact⟨_,fd,d.ps,C i d _ fd hd r1,mgr (same q.2 (zb0 r2)),r1.kp,F.Kb.get _ (lkm hk) d ds hd hk' K _ _ _ D⟩
  .cases q
 .have q:=b1 _ (lkm h);erw[alB,AK]at q;let⟨q0,q⟩:=q;split at q
  .rename_i u hu;let⟨⟨y,r,z⟩,_⟩:=Aq.1 q;have hm:=F.X _ _ hu
   cases v with
   |int i=>
    have z:=z (λ_=>0) (λ_=>False) [] (λ_=>AC);erw[yd]at z;subst z;let⟨tk,rfl⟩:=r;exact .inr ⟨i,rfl,tk,hm⟩
   |tp b vs=>
    have z0:=z (λ_=>0) (λ_=>False) [] (λ_=>AC);erw[yd]at z0;let⟨a,xs,rfl,_⟩:=z0;have r:u=.ref a:=r;subst r;exact .inl ⟨a,hm,λB φ H=>z _ B φ H⟩
   |_=>cases q0
  .cases q
 .have q:=b1 _ (lkm h);erw[alB,ES,AK,decide_eq_true_eq]at q;let⟨p,hp,rfl,q⟩:=q;let⟨⟨e⟩,_⟩:=Aq.1 q;rw[<-e];exact F.D.get p hp _
 .have q:=b1 _ (lkm h);erw[alB,AK,decide_eq_true_eq,Cd]at q;let⟨q1,q2,q3⟩:=q;let⟨a,ha⟩:=Aq.1 q2;have e:clA K t c=a:=by erw[clA,q1,Bk,ha,Ba]
  erw[ha,Ej]at q3;exact⟨by show mg x=AA (.ref (clA K t c));rw[e];exact mgr ha,by show FT K (clA K t c) _ _=AB;rw[e];exact q3⟩
 .have q:=b1 _ (lkm h);erw[alB,AK,decide_eq_true_eq]at q;let⟨⟨q1,q2⟩,q3⟩:=q;let⟨a,ha⟩:=Aq.1 q2;have e:clA K t c=a:=by erw[clA,q1,Bk,ha,Ba]
  split at q3
  .rename_i d hd
   cases hk:d.k with
   |ini c'=>
    rw[hk]at q3;erw[AK,decide_eq_true_eq]at q3;let⟨rfl,hn⟩:=q3;let⟨dv,fd,r1,r2,r3⟩:=zdj F O hd;erw[At,hk]at r2;erw[DvP,hk]at r3;subst r3;let⟨r0,q',r4,r5,r6,r7,r8⟩:=r2;have e2:q'=a:=by
     have:nmA K (cnm t c')=AA q':=zb0 r4;erw[cnm,q1,Ba,ha]at this;exact(AY this).symm
    subst e2;rw[hn]at r5;refine⟨by show mg x=AA (.ref (clA K t c'));rw[e];exact mgr ha,_,fd,d.ps,?_,C i d _ fd hd r1,r1.binds r0⟩;show Mk K (clA K t c') _;rw[e];exact⟨r7,r5,r6,r8⟩
   |_=>rw[hk]at q3;cases q3
  .cases q3
 .have q:x∈t.bs:=by simpa [Tb.gs] using h
  have:=b2 x q;erw[decide_eq_true_eq]at this;exact F.X _ _ this
 .simp only[Tb.gs,ES]at h;let⟨y',hy,e⟩:=h;have:=zlm e;subst this;have q:=b3 y hy;erw[yer,AK,decide_eq_true_eq]at q;exact⟨q.1.1.1.1.1,q.1.1.1.1.2,q.1.1.1.2,q.1.1.2,q.1.2,q.2⟩
 .have q:(c,n)∈t.fl:=by simpa [Tb.gs] using h
  have q:=b4 _ q;erw[AK,Cd,decide_eq_true_eq]at q;let⟨q1,q2,q3⟩:=q;let⟨a,ha⟩:=Aq.1 q2;erw[ha,Ej]at q3;have e:clA K t c=a:=zfK ha q1;show Cls K (clA K t c)/\yam K (clA K t c) n;rw[e];exact⟨zhh q3.1,q3.2⟩
 .have q:=b5 _ (lkm h);erw[AK,Cd,decide_eq_true_eq]at q;let⟨q1,q2,q3,q4⟩:=q;let⟨a,ha⟩:=Aq.1 q2;erw[ha,Ej]at q3;have e:clA K t c=a:=zfK ha q1;split at q4
  .rename_i d hd;erw[AK,decide_eq_true_eq]at q4;let⟨q4,hn⟩:=q4
   cases hk:d.k with
   |me c'=>
    rw[hk]at q4;have q4:c'=c:=by simpa using q4
    subst q4;let⟨dv,fd,r1,r2,r3⟩:=zdj F O hd;erw[At,hk]at r2;erw[DvP,hk]at r3;subst r3;let⟨r0,q',r4,r5,r6⟩:=r2;have e2:q'=a:=AY ((zb0 r4).symm.trans ha);subst e2;refine⟨by show Cls K (clA K t c');rw[e];exact zhh q3,_,fd,d.ps,?_,C i d _ fd hd r1,r1.binds r0⟩;show Meth K (clA K t c') n _;rw[e,<-hn];exact⟨r5,r6,r1.kp⟩
   |_=>rw[hk]at q4;cases q4
  .cases q4
 .have q:=b6 _ (lkm h);have g:∀s j,D.lookup s=AA j->∃d dv fd,t.tbl[j]?=AA d/\yb3 K d dv (faA K t j) fd/\dv=.none/\ya2 d/\fd=fdA K t j/\d.ps=psA t j:=λs j hj=>by
   have q:=q _ (lkm hj);split at q
   .rename_i d hd;let⟨dv,fd,r1,r2,r3⟩:=zdj F O hd;have hk:d.k=.fn:=by cases e:d.k<;>rw[e]at q<;>first|rfl|cases q
    erw[At,hk]at r2;erw[DvP,hk]at r3;let⟨oc,od,kV,doc,pm,an,cdv,ct,osl,_,lk,_⟩:=r1.ex;exact⟨d,dv,fd,hd,r1,r3,r2.2,by erw[fdA,lk],by erw[psA,hd]⟩
   .cases q
  refine⟨faA K t,fdA K t,psA t,⟨λs j hj=>?_,λs j hj=>?_,λs j hj=>?_⟩,F.Ml.get _ (lkm h)⟩
  .let⟨d,dv,fd,h1,h2,h3,h4,h5,h6⟩:=g s j hj;rw[<-h5,<-h6];exact C j d dv fd h1 h2
  .let⟨d,dv,fd,h1,h2,h3,h4,h5,h6⟩:=g s j hj;exact h2.kp
  .let⟨d,dv,fd,h1,h2,h3,h4,h5,h6⟩:=g s j hj;subst h3;rw[<-h5,<-h6];exact h2.binds h4
theorem zgn(F:Fact t w K mg)(O:∀d∈t.tbl,okT t d=AB)(hT:∀i d,t.tbl[i]?=AA d->T i=AA d.fn):∀k,Fn2 t P w K mg base T k
 |0=>λi d dv fd _ _=>zin
 |k+1=>λi d dv fd h R=>by
  have o:=O d (A4 h);erw[okT,okD,AK,decide_eq_true_eq]at o;let⟨⟨⟨⟨o1,o2⟩,o3⟩,o4⟩,_⟩:=o;let⟨⟨y⟩,_⟩:=Aq.1 o4;exact R.ok (m:=2*k+1) (hT i d h) (zlO o1) o2 o3 λ_ _ _ _ _ _ hr=>y (2*k) _ _ ⟨rfl,rfl,rfl,hr,λ_=>⟨own1,λ_=>rfl,rfl⟩,zi5 F O (zgn F O hT k)⟩
noncomputable def ycz:Nat->(List AF->Prop)->Prop
 |0,P=>P []
 |n+1,P=>∀a,ycz n λus=>P (a::us)
theorem ycz.get:∀{n:Nat} {P:List AF->Prop},ycz n P->∀us,us.length=n->P us
 |0,P,h,[],_=>h
 |n+1,P,h,a::us,e=>(h a).get us (by simpa using e)
theorem kbP{i np:Nat}{ks:List AQ}{sh:List (Option Int)}{d:Df}{ds:List Int}(hd:t.tbl[i]?=AA d)(hk:d.k=.fd ds)(h1:ks.length=nKw sh)(h2:sh.length=(ds.drop (ds.length-sh.length)).length)
  (h3:((sh.zip (ds.drop (ds.length-sh.length))).all λp=>p.1.all λi=>decide (i=p.2))=AB) (hp:0<d.ps.length)
  (h:∀(dT:AI) (kV doc pm:AF) (an:Option AI) (cdv ct:AF),ycz np λus=>ycz ks.length λws=>ycz ds.length λits=>
   ∃k,bindArgs (BX d.nm d.nm (yZ d.st) (yS d.st) (yw d.st) (.ref dT) kV doc pm an cdv ct) ⟨us,ks.zip ws⟩=seqItems? (.ref dT) >>= k/\k (AA its.toArray)=pure (d.ps.zip (us++yaT sh ws (its.drop (ds.length-sh.length))))):KbP t ((i,np,ks),sh):=by
 intro d' ds' e1 e2 K mg f fd D;have e1:t.tbl[i]?=AA d':=e1;rw[hd]at e1
 cases e1
 rw[hk]at e2
 cases e2
 exact kbD D h1 h2 h3 (λdT kV doc pm an cdv ct us ws its z1 z2 z3=>(((h dT kV doc pm an cdv ct).get us z1).get ws z2).get its z3) hp
theorem all_mk2{h:Ay}{fx:AI}(X:K.In h)(G:h.Ns mainGlobals mg)(hfa:mg "law"=AA (.ref fx))(R:ybz (ycC K (cnm t)) t.tbl)(B:yd5 K t=AB)(D:ybz (λp=>∀cl,GD K w mg cl p.1 p.2) t.dd)(Kb:ybz (KbP t) t.kb)(Ml:ybz (λp=>GDF K w mg (faA K t) p.1 p.2) t.ml)
  (O:t.tbl.all (okT t)=AB) (hT:∀i d,t.tbl[i]?=AA d->T i=AA d.fn) {L:Nat} {st:Bn} {N:List AQ} {fn:IC.Fn} (hL:t.tbl[L]?=AA ⟨"law","law","law",st,N,["_law_script"],fn,.fn⟩) (lvl:Nat):
  ∃fd:Az,(∀(s:AJ) (v:AF),Ez s fd ⟨[v],[]⟩ [("_law_script",v)])/\∀base:Ay,K.In base->base.Ns mainGlobals mg->yaE P w K mg base (CX1 P w) (2*lvl) fx fd ["_law_script"] (spX K (yc T lvl) L):=by
 have F:Fact t w K mg:=⟨λx u e=>by
  cases u with
  |none=>exact PySem.W.mg_none_of X G e
  |some v=>exact EJ X G e,R,B,D,Kb,Ml⟩
 have O':=Bb.1 O;let⟨dv,fd,r1,r2,r3⟩:=zdj F O' hL;have r3:dv=.none:=r3;subst r3;have r2:BF K mainGlobals "law"=AA (AA (.ref (faA K t L)))/\ya2 _:=r2;have e:=Value.ref.inj (AY (hfa.symm.trans (EJ X G r2.1)));subst e;refine⟨fd,λs v=>?_,λbase _ _=>(zgn F O' hT lvl L _ _ fd hL r1).imp λ_ _ _ _ h=>h _⟩;let⟨oc,od,kV,doc,pm,an,cdv,ct,osl,rfl,_⟩:=r1.ex;exact .of_eq (r2.2 kV doc pm an cdv ct v)
end
end L2
namespace IC
open PySem
noncomputable def zbQ:List (AQ×Nat):=[(AG "sum",64),(AG "difference",65),(AG "turned",66),(AG "both",67),(AG "any",68),(AG "odd",69),(AG "bare",70),(AG "left",71),(AG "right",72),(AG "down",73),(AG "roll",74),(AG "product",75),(AG "signed product",76),(AG "quotient",77),(AG "signed quotient",78)]
noncomputable def zC:List (AQ×Nat):=[(AG "move",81),(AG "bare",82),(AG "sum",83),(AG "less",84),(AG "both",85),(AG "any",86),(AG "odd",87),(AG "twice",88),(AG "half",89)]
noncomputable def zaA:PV:=(.tp AB [(.int 0),(.int 1),(.int 0)])
noncomputable def za5:PV:=(.int 10000000000000000000000000000000000000000)
noncomputable def zje:PV:=(.tp AB [(.str "turned"),(.str "bare")])
noncomputable def zq:PV:=(.tp AB [(.tp AB [(.str "m"),(.tp AB [(.int 0),(.int 0),(.int 0),(.int 0)])]),(.tp AB [(.str "m"),(.tp AB [(.int 1),(.int 0),(.int 0),(.int 0)])]),(.tp AB [(.str "m"),(.tp AB [(.int 2),(.int 0),(.int 0),(.int 0)])]),(.tp AB [(.str "m"),(.tp AB [(.int 3),(.int 0),(.int 0),(.int 0)])])])
noncomputable def zbY:PV:=(.int 4)
noncomputable def zeT:PV:=(.int 2)
noncomputable def zdu:PV:=(.int 4000)
noncomputable def ze4:PV:=(.int 4000)
noncomputable def zew:PV:=(.int 20)
noncomputable def zdK:PV:=(.int 2)
noncomputable def zcS:PV:=(.int 200)
noncomputable def zf8:PV:=(.tp AB [(.str "z"),(.tp AB [(.int 0),(.int 0),(.int 0),(.int 0)])])
noncomputable def zdJ:PV:=(.tp AB [(.str "sum"),(.str "difference"),(.str "compare"),(.str "both"),(.str "any"),(.str "odd"),(.str "product"),(.str "signed product"),(.str "quotient"),(.str "signed quotient")])
noncomputable def zc5:PV:=(.tp AB [(.str "both"),(.str "any"),(.str "odd")])
noncomputable def zdd:PV:=(.tp AB [(.str "product"),(.str "signed product")])
noncomputable def zaf:PV:=(.tp AB [(.str "quotient"),(.str "signed quotient")])
noncomputable def zcH:PV:=(.tp AB [(.str "s"),(.tp AB [(.int 0),(.int 0),(.int 0),(.int 0)])])
noncomputable def zbg:PV:=(.tp AB [(.str "left"),(.str "right"),(.str "down"),(.str "roll")])
noncomputable def zbc:PV:=(.tp AB [(.str "t"),(.tp AB [(.int 0),(.int 0),(.int 0),(.int 0)])])
def zeE:List (AQ×PV):=[(AG "set",(.tp AB [(.str "cell"),(.str "figure")])),(AG "move",(.tp AB [(.str "cell"),(.str "cell")])),(AG "bare",(.tp AB [(.str "cell"),(.str "cell")])),(AG "sum",(.tp AB [(.str "cell"),(.str "cell"),(.str "cell")])),(AG "less",(.tp AB [(.str "cell"),(.str "cell"),(.str "cell")])),(AG "both",(.tp AB [(.str "cell"),(.str "cell"),(.str "cell")])),(AG "any",(.tp AB [(.str "cell"),(.str "cell"),(.str "cell")])),(AG "odd",(.tp AB [(.str "cell"),(.str "cell"),(.str "cell")])),(AG "twice",(.tp AB [(.str "cell"),(.str "cell")])),(AG "half",(.tp AB [(.str "cell"),(.str "cell")])),(AG "times",(.tp AB [(.str "cell"),(.str "cell"),(.str "cell"),(.str "cell")])),(AG "mark",(.tp AB [(.str "figure")])),(AG "ask",(.tp AB [(.str "cell")]))]
noncomputable def zjm:Fn:=⟨5,5,AB,(.k (.ret (.tup (.k (.v 0) (.k (.tup (.k (.v 1) (.k (.v 2) (.k (.v 3) (.k (.v 4) .e))))) .e)))) .e)⟩
def zcI:Fn:=⟨1,1,AB,(.k (.ret (.call 0 (yac (.k (.v 0) (.k (.neg (.i 1)) .e)) (yp [.inr 0,.inr 0,.inl (.i 1)])))) .e)⟩
noncomputable def zjf:Fn:=⟨1,1,AB,(.k (.ret (.blt .tuple (.k (.comp [AC] (.n 0) (.seq (.v 0)) (.cst (.bl AB)) (.tup (.k (.s "row") (.k (.v 0) .e)))) .e))) .e)⟩
noncomputable def zfM:Fn:=⟨3,3,AB,(.k (.ret (.tup (.k (.tup (.k (.s "rounds") (.k (.v 0) (.k (.v 1) (.k (.v 2) .e))))) .e))) .e)⟩
noncomputable def zfr:Fn:=⟨5,5,AB,(.k (.ret (.tup (.k (.s "slice") (.k (.v 0) (.k (.tup (.k (.i 0) (.k (.i 0) (.k (.i 0) (.k (.i 0) .e))))) (.k (.tup (.k (.v 1) (.k (.v 2) (.k (.v 3) (.k (.v 4) .e))))) .e)))))) .e)⟩
noncomputable def zjw:Fn:=⟨6,6,AB,(.k (.ret (.tup (.k (.v 0) (.k (.tup (.k (.i 0) (.k (.v 2) (.k (.i 0) (.k (.v 3) (.k (.v 4) (.k (.v 5) .e))))))) (.k (.v 1) .e))))) .e)⟩
def zcq:Fn:=⟨1,1,AB,(.k (.ret (.tup (.k (.s "sum") (.k (.v 0) (.k (.cst zf8) (.k (.cst zf8) .e)))))) .e)⟩
def zaP:Fn:=⟨1,1,AB,(.k (.ret (.lst (.k (.tup (.k (.s "set") (.k (.v 0) (.k (.i 1) .e)))) (.k (.tup (.k (.s "less") (.k (.v 0) (.k (.v 0) (.k (.cst zf8) .e))))) .e)))) .e)⟩
def zbp:Fn:=⟨3,4,AB,(.k (.asg (.n 3) (.tup (.k (.s "any") (.k (.cst zcH) (.k (.cst zcH) (.k (.call 0 (yac (.k (.v 0) .e) (yp [.inr 0,.inl (.i 1),.inr 0,.inl (.v 1)]))) .e)))))) (.k (.ret (.bin .add (.bin .add (.call 2 (.k (.lst (.k (.tup (.k (.s "set") (.k (.cst zcH) (.k (.i 0) .e)))) .e)) .e)) (.call 3 (.k (.v 2) (.k (.tup .e) (.k (.call 2 (.k (.lst (.k (.v 3) .e)) .e)) .e))))) (.call 2 (.k (.lst (.k (.tup (.k (.s "ask") (.k (.cst zcH) .e))) .e)) .e)))) .e))⟩
def za7:Fn:=⟨2,3,AB,(.k (.asg (.n 2) (.lst (.k (.tup (.k (.s "twice") (.k (.cst zbc) (.k (.call 0 (yac (.k (.s "c") (.k (.bin .sub (.v 0) (.i 1)) .e)) (yp [.inr 0,.inr 0,.inl (.v 1)]))) .e)))) (.k (.call 6 (.k (.idx (.cst zq) (.i 3)) .e)) .e)))) (.k (.ret (.bin .add (.call 8 (.k (.s "c") (.k (.i 0) (.k (.tup (.k (.v 0) (.k (.v 1) (.k (.i 0) .e)))) .e)))) (.call 2 (.k (.bin .add (.call 7 (.k (.idx (.cst zq) (.i 2)) .e)) (.v 2)) .e)))) .e))⟩
noncomputable def zaV:Fn:=⟨3,3,AB,(.k (.ret (.and (.isi (.v 0) [.int]) (.and (.not (.isi (.v 0) [.bool])) (.chain .le .le (.v 1) (.v 0) (.v 2))))) .e)⟩
noncomputable def zck:Fn:=⟨1,1,AB,(.k (.ret (.and (.isi (.v 0) [.str]) (.and (.cmp .eq (.blt .len (.k (.v 0) .e)) (.i 1)) (.chain .le .le (.s "a") (.v 0) (.s "z"))))) .e)⟩
def zc7:Fn:=⟨2,2,AB,(.k (.ite (.or (.not (.isi (.v 0) [.tuple])) (.cmp .ne (.blt .len (.k (.v 0) .e)) (.v 1))) (.k .nope .e) .e) (.k (.ret (.blt .all (.k (.comp [AC] (.n 0) (.seq (.v 0)) (.cst (.bl AB)) (.call 10 (.k (.v 0) (.k (.neg (.cst zcS)) (.k (.cst zcS) .e))))) .e))) .e))⟩
def zbE:Fn:=⟨0,3,AB,(.k (.asg (.n 0) (.tup (.k (.s "sum") (.k (.call 0 (yac (.k (.s "c") .e) (yp [.inr 0,.inl (.i 1),.inr 0,.inr 0]))) (.k (.call 0 (yac (.k (.s "a") .e) (yp [.inr 0,.inl (.i 1),.inr 0,.inr 0]))) (.k (.call 0 (yac (.k (.s "b") .e) (yp [.inr 0,.inl (.i 1),.inr 0,.inr 0]))) .e)))))) (.k (.asg (.n 1) (.tup (.k (.call 5 (yac (.k (.i 1) (.k (.tup (.k (.call 4 (yac (.k (.s "a") .e) (yp [.inr 0,.inl (.i 1),.inr 0,.inr 0]))) .e)) .e)) (yp [.inr 0,.inr 0,.inr 0,.inr 0]))) (.k (.call 5 (yac (.k (.i 1) (.k (.tup (.k (.call 4 (yac (.k (.s "b") .e) (yp [.inr 0,.inl (.i 1),.inr 0,.inr 0]))) .e)) .e)) (yp [.inr 0,.inr 0,.inr 0,.inr 0]))) (.k (.call 5 (yac (.k (.neg (.i 1)) (.k (.tup (.k (.call 4 (yac (.k (.s "c") .e) (yp [.inr 0,.inl (.i 1),.inr 0,.inr 0]))) .e)) .e)) (yp [.inr 0,.inr 0,.inr 0,.inr 0]))) (.k (.call 5 (yac (.k (.neg (.i 1)) (.k (.tup (.k (.tup (.k (.s "mark") .e)) .e)) .e)) (yp [.inr 0,.inl (.i 1),.inr 0,.inr 0]))) .e)))))) (.k (.asg (.n 2) (.call 20 (.k (.call 1 (.k (.s "c") .e)) (.k (.call 1 (.k (.s "a") .e)) (.k (.call 1 (.k (.s "b") .e)) .e))))) (.k (.ret (.bin .add (.bin .add (.call 19 (.k (.v 0) (.k (.v 1) .e))) (.v 2)) (.call 9 (.k (.i 0) (.k (.i 1) .e))))) .e))))⟩
def z8:Fn:=⟨0,3,AB,(.k (.asg (.n 0) (.tup (.k (.s "less") (.k (.call 0 (yac (.k (.s "c") .e) (yp [.inr 0,.inl (.i 1),.inr 0,.inr 0]))) (.k (.call 0 (yac (.k (.s "a") .e) (yp [.inr 0,.inl (.i 1),.inr 0,.inr 0]))) (.k (.call 0 (yac (.k (.s "b") .e) (yp [.inr 0,.inl (.i 1),.inr 0,.inr 0]))) .e)))))) (.k (.asg (.n 1) (.tup (.k (.call 5 (yac (.k (.i 1) (.k (.tup (.k (.call 4 (yac (.k (.s "a") .e) (yp [.inr 0,.inl (.i 1),.inr 0,.inr 0]))) .e)) .e)) (yp [.inr 0,.inr 0,.inr 0,.inr 0]))) (.k (.call 5 (yac (.k (.neg (.i 1)) (.k (.tup (.k (.call 4 (yac (.k (.s "b") .e) (yp [.inr 0,.inl (.i 1),.inr 0,.inr 0]))) .e)) .e)) (yp [.inr 0,.inr 0,.inr 0,.inr 0]))) (.k (.call 5 (yac (.k (.neg (.i 1)) (.k (.tup (.k (.call 4 (yac (.k (.s "c") .e) (yp [.inr 0,.inl (.i 1),.inr 0,.inr 0]))) .e)) .e)) (yp [.inr 0,.inr 0,.inr 0,.inr 0]))) (.k (.call 5 (yac (.k (.i 1) (.k (.tup (.k (.tup (.k (.s "mark") .e)) .e)) .e)) (yp [.inr 0,.inl (.i 1),.inr 0,.inr 0]))) .e)))))) (.k (.asg (.n 2) (.call 20 (.k (.call 1 (.k (.s "a") .e)) (.k (.call 1 (.k (.s "b") .e)) (.k (.call 1 (.k (.s "c") .e)) .e))))) (.k (.ret (.bin .add (.bin .add (.call 19 (.k (.v 0) (.k (.v 1) .e))) (.v 2)) (.call 9 (.k (.i 0) (.k (.i 1) .e))))) .e))))⟩
def zaD:Fn:=⟨0,3,AB,(.k (.asg (.n 0) (.tup (.k (.s "less") (.k (.call 0 (yac (.k (.s "c") .e) (yp [.inr 0,.inl (.i 1),.inr 0,.inr 0]))) (.k (.cst zf8) (.k (.call 0 (yac (.k (.s "a") .e) (yp [.inr 0,.inl (.i 1),.inr 0,.inr 0]))) .e)))))) (.k (.asg (.n 1) (.tup (.k (.call 5 (yac (.k (.i 1) (.k (.tup (.k (.call 4 (yac (.k (.s "a") .e) (yp [.inr 0,.inl (.i 1),.inr 0,.inr 0]))) .e)) .e)) (yp [.inr 0,.inr 0,.inr 0,.inr 0]))) (.k (.call 5 (yac (.k (.i 1) (.k (.tup (.k (.call 4 (yac (.k (.s "c") .e) (yp [.inr 0,.inl (.i 1),.inr 0,.inr 0]))) .e)) .e)) (yp [.inr 0,.inr 0,.inr 0,.inr 0]))) (.k (.call 5 (yac (.k (.neg (.i 1)) (.k (.tup (.k (.tup (.k (.s "mark") .e)) .e)) .e)) (yp [.inr 0,.inl (.i 1),.inr 0,.inr 0]))) .e))))) (.k (.asg (.n 2) (.call 20 (.k (.cst zf8) (.k (.call 1 (.k (.s "a") .e)) (.k (.call 1 (.k (.s "c") .e)) .e))))) (.k (.ret (.bin .add (.bin .add (.call 19 (.k (.v 0) (.k (.v 1) .e))) (.v 2)) (.call 9 (.k (.i 0) (.k (.i 1) .e))))) .e))))⟩
def zar:Fn:=⟨0,1,AB,(.k (.asg (.n 0) (.lst (.k (.tup (.k (.s "odd") (.k (.idx (.cst zq) (.i 1)) (.k (.idx (.cst zq) (.i 1)) (.k (.idx (.cst zq) (.i 3)) .e))))) (.k (.tup (.k (.s "set") (.k (.idx (.cst zq) (.i 3)) (.k (.i 0) .e)))) .e)))) (.k (.ret (.bin .add (.call 14 .e) (.call 2 (.k (.v 0) .e)))) .e))⟩
def zam:Fn:=⟨1,2,AB,(.k (.asg (.n 1) (.tup (.k (.v 0) (.k (.call 0 (yac (.k (.s "c") .e) (yp [.inr 0,.inl (.i 1),.inr 0,.inr 0]))) (.k (.call 0 (yac (.k (.s "a") .e) (yp [.inr 0,.inl (.i 1),.inr 0,.inr 0]))) (.k (.call 0 (yac (.k (.s "b") .e) (yp [.inr 0,.inl (.i 1),.inr 0,.inr 0]))) .e)))))) (.k (.ret (.bin .add (.call 3 (.k (.cst zaA) (.k (.tup .e) (.k (.call 2 (.k (.lst (.k (.v 1) .e)) .e)) .e)))) (.call 9 (.k (.i 0) (.k (.i 1) .e))))) .e))⟩
def za6:Fn:=⟨0,2,AB,(.k (.asg (.n 0) (.tup (.k (.call 5 (yac (.k (.i 1) (.k (.tup (.k (.call 4 (yac (.k (.s "a") .e) (yp [.inr 0,.inl (.i 1),.inr 0,.inr 0]))) .e)) .e)) (yp [.inr 0,.inr 0,.inr 0,.inr 0]))) (.k (.call 5 (yac (.k (.i 1) (.k (.tup (.k (.call 4 (yac (.k (.s "c") .e) (yp [.inr 0,.inl (.i 1),.inr 0,.inr 0]))) .e)) .e)) (yp [.inr 0,.inr 0,.inr 0,.inr 0]))) (.k (.call 5 (yac (.k (.neg (.i 1)) (.k (.tup .e) .e)) (yp [.inr 0,.inl (.i 1),.inr 0,.inr 0]))) (.k (.call 5 (yac (.k (.i 1) (.k (.tup .e) .e)) (yp [.inr 0,.inr 0,.inr 0,.inr 0]))) .e)))))) (.k (.asg (.n 1) (.tup (.k (.s "bare") (.k (.call 0 (yac (.k (.s "c") .e) (yp [.inr 0,.inl (.i 1),.inr 0,.inr 0]))) (.k (.call 0 (yac (.k (.s "a") .e) (yp [.inr 0,.inl (.i 1),.inr 0,.inr 0]))) .e))))) (.k (.ret (.bin .add (.call 3 (.k (.cst zaA) (.k (.v 0) (.k (.call 2 (.k (.lst (.k (.v 1) .e)) .e)) .e)))) (.call 9 (.k (.i 0) (.k (.i 1) .e))))) .e)))⟩
def zeM:Fn:=⟨2,2,AB,(.k (.ret (.bin .add (.bin .add (.call 2 (.k (.lst (.k (.tup (.k (.s "mark") (.k (.i 0) .e))) .e)) .e)) (.call 3 (.k (.cst zaA) (.k (.v 1) (.k (.call 2 (.k (.lst (.k (.v 0) .e)) .e)) .e))))) (.call 2 (.k (.lst (.k (.call 6 (.k (.idx (.cst zq) (.i 0)) .e)) .e)) .e)))) .e)⟩
def zcv:Fn:=⟨3,3,AB,(.k (.ret (.call 2 (.k (.lst (.k (.tup (.k (.s "odd") (.k (.cst zbc) (.k (.v 0) (.k (.v 1) .e))))) (.k (.tup (.k (.s "odd") (.k (.cst zcH) (.k (.v 0) (.k (.v 2) .e))))) (.k (.tup (.k (.s "both") (.k (.cst zbc) (.k (.cst zbc) (.k (.cst zcH) .e))))) (.k (.tup (.k (.s "twice") (.k (.cst zbc) (.k (.cst zbc) .e)))) (.k (.call 6 (.k (.idx (.cst zq) (.i 1)) .e)) .e)))))) .e))) .e)⟩
noncomputable def zfy:Fn:=⟨1,1,AB,(.k (.ret (.call 23 (.k (.v 0) (.k (.cst (.bl AD)) .e)))) .e)⟩
noncomputable def zbm:Fn:=⟨1,1,AB,(.k (.ret (.call 23 (.k (.v 0) (.k (.cst (.bl AB)) .e)))) .e)⟩
def zde:Fn:=⟨2,4,AB,(.k (.ite (.or (.not (.call 24 (.k (.v 0) .e))) (.cmp .ne (.blt .len (.k (.v 0) .e)) (.bin .add (.blt .len (.k (.dix zeE (.idx (.v 0) (.i 0))) .e)) (.i 1)))) (.k (.ret (.cst (.bl AD))) .e) .e) (.k (.for (.t [2,3]) (.zip (.dix zeE (.idx (.v 0) (.i 0))) (.slc (.v 0) (.i 1) (.cst .non))) (.k (.ite (.not (.call 25 (.k (.v 2) (.k (.v 3) (.k (.v 1) .e))))) (.k (.ret (.cst (.bl AD))) .e) .e) .e)) (.k (.ret (.or (.cmp .ne (.idx (.v 0) (.i 0)) (.s "times")) (.cmp .ne (.idx (.v 0) (.i 1)) (.idx (.v 0) (.i 2))))) .e)))⟩
def zdk:Fn:=⟨1,1,AB,(.k (.ret (.and (.isi (.v 0) [.tuple]) (.and (.cmp .gt (.blt .len (.k (.v 0) .e)) (.i 0)) (.and (.isi (.idx (.v 0) (.i 0)) [.str]) (.din (.idx (.v 0) (.i 0)) zeE))))) .e)⟩
noncomputable def zbU:Fn:=⟨3,3,AB,(.k (.ite (.cmp .eq (.v 0) (.s "figure")) (.k (.ret (.call 10 (.k (.v 1) (.k (.i 0) (.k (.i 1) .e))))) .e) .e) (.k (.ret (.ite (.v 2) (.call 27 (.k (.v 1) .e)) (.call 26 (.k (.v 1) .e)))) .e))⟩
noncomputable def zem:Fn:=⟨1,1,AB,(.k (.ret (.and (.call 28 (.k (.v 0) .e)) (.call 10 (.k (.idx (.v 0) (.i 1)) (.k (.i 0) (.k (.i 99) .e)))))) .e)⟩
noncomputable def za4:Fn:=⟨1,1,AB,(.k (.ret (.and (.call 28 (.k (.v 0) .e)) (.call 12 (.k (.idx (.v 0) (.i 1)) (.k (.i 4) .e))))) .e)⟩
noncomputable def zbx:Fn:=⟨1,1,AB,(.k (.ret (.and (.isi (.v 0) [.tuple]) (.and (.cmp .eq (.blt .len (.k (.v 0) .e)) (.i 2)) (.call 11 (.k (.idx (.v 0) (.i 0)) .e))))) .e)⟩
def zbC:Fn:=⟨1,1,AB,(.k (.ret (.and (.isi (.v 0) [.tuple]) (.and (.cmp .le (.blt .len (.k (.v 0) .e)) (.cst zew)) (.blt .all (.k (.comp [AC] (.n 0) (.seq (.v 0)) (.cst (.bl AB)) (.call 31 (.k (.v 0) .e))) .e))))) .e)⟩
noncomputable def zc2:Fn:=⟨4,4,AB,(.k (.ret (.bin .add (.bin .add (.bin .add (.idx (.v 0) (.i 0)) (.bin .mul (.idx (.v 0) (.i 1)) (.v 2))) (.bin .mul (.idx (.v 0) (.i 2)) (.v 3))) (.bin .mul (.idx (.v 0) (.i 3)) (.v 1)))) .e)⟩
def zef:Fn:=⟨1,4,AB,(.k (.ite (.or (.not (.isi (.v 0) [.tuple])) (.cmp .ne (.blt .len (.k (.v 0) .e)) (.i 3))) (.k (.ret (.cst (.bl AD))) .e) .e) (.k (.asg (.t [1,2,3]) (.v 0)) (.k (.ret (.and (.call 10 (.k (.v 1) (.k (.bin .sub (.i 1) (.cst za5)) (.k (.bin .sub (.cst za5) (.i 1)) .e)))) (.and (.call 12 (.k (.v 2) (.k (.i 6) .e))) (.call 32 (.k (.v 3) .e))))) .e)))⟩
def zb2:Fn:=⟨1,1,AB,(.k (.ret (.and (.isi (.v 0) [.tuple]) (.and (.cmp .le (.blt .len (.k (.v 0) .e)) (.cst zdK)) (.blt .all (.k (.comp [AC] (.n 0) (.seq (.v 0)) (.cst (.bl AB)) (.call 33 (.k (.v 0) .e))) .e))))) .e)⟩
noncomputable def zc4:Fn:=⟨1,1,AB,(.k (.ite (.or (.not (.isi (.v 0) [.tuple])) (.cmp .eq (.blt .len (.k (.v 0) .e)) (.i 0))) (.k (.ret (.cst (.bl AD))) .e) .e) (.k (.ite (.cmp .eq (.idx (.v 0) (.i 0)) (.s "mark")) (.k (.ret (.cmp .eq (.blt .len (.k (.v 0) .e)) (.i 1))) .e) .e) (.k (.ite (.or (.cmp .ne (.idx (.v 0) (.i 0)) (.s "slice")) (.or (.cmp .ne (.blt .len (.k (.v 0) .e)) (.i 4)) (.not (.call 11 (.k (.idx (.v 0) (.i 1)) .e))))) (.k (.ret (.cst (.bl AD))) .e) .e) (.k (.ret (.and (.call 12 (.k (.idx (.v 0) (.i 2)) (.k (.i 4) .e))) (.call 12 (.k (.idx (.v 0) (.i 3)) (.k (.i 4) .e))))) .e))))⟩
noncomputable def zaa:Fn:=⟨3,3,AD,(.k (.sfl 20 (.v 0) (AG "w") (.v 1)) (.k (.sfl 20 (.v 0) (AG "n") (.v 2)) (.k (.sfl 20 (.v 0) (AG "steps") (.newl .e)) (.k (.sfl 20 (.v 0) (AG "rows") (.i 0)) (.k (.sfl 20 (.v 0) (AG "rounds") (.i 0)) .e)))))⟩
noncomputable def zab:Fn:=⟨3,4,AD,(.k (.for (.n 3) (.seq (.v 1)) (.k (.ite (.cmp .eq (.idx (.v 3) (.i 0)) (.s "row")) (.k (.expr (.mcl 20 38 (AG "add_row") (.v 0) (.k (.idx (.v 3) (.i 1)) (.k (.v 2) .e)))) .e) (.k (.expr (.mcl 20 36 (AG "go_rounds") (.v 0) (.k (.v 3) (.k (.v 2) .e)))) .e)) .e)) .e)⟩
noncomputable def zV:Fn:=⟨3,5,AD,(.k (.asg (.n 3) (.blt .max (.k (.i 0) (.k (.mcl 20 37 (AG "count_of") (.v 0) (.k (.idx (.v 1) (.i 1)) .e)) .e)))) (.k (.for (.n 4) (.range1 (.v 3)) (.k (.expr (.mcl 20 40 (AG "add_asked") (.v 0) (.k (.idx (.v 1) (.i 2)) (.k (.bin .add (.v 2) (.tup (.k (.v 4) .e))) .e)))) (.k (.expr (.mcl 20 39 (AG "add_round") (.v 0) .e)) (.k (.expr (.mcl 20 35 (AG "go_parts") (.v 0) (.k (.idx (.v 1) (.i 3)) (.k (.bin .add (.v 2) (.tup (.k (.v 4) .e))) .e)))) .e)))) (.k (.expr (.mcl 20 40 (AG "add_asked") (.v 0) (.k (.idx (.v 1) (.i 2)) (.k (.bin .add (.v 2) (.tup (.k (.v 3) .e))) .e)))) .e)))⟩
noncomputable def z6:Fn:=⟨2,5,AD,(.k (.asg (.t [2,3,4]) (.v 1)) (.k (.ret (.bin .add (.bin .add (.v 2) (.bin .mul (.v 3) (.fld 20 (.v 0) (AG "n")))) (.bin .mul (.bin .mul (.v 4) (.fld 20 (.v 0) (AG "w"))) (.fld 20 (.v 0) (AG "n"))))) .e))⟩
def zag:Fn:=⟨3,6,AD,(.k (.asg (.t [3,4]) (.call 46 (.k (.v 2) .e))) (.k (.asg (.n 5) (.blt .tuple (.k (.comp [AC,AA 3,AA 4,AA 0] (.n 0) (.seq (.v 1)) (.cst (.bl AB)) (.call 47 (.k (.v 0) (.k (.fld 20 (.v 3) (AG "n")) (.k (.v 1) (.k (.v 2) .e)))))) .e))) (.k (.sfl 20 (.v 0) (AG "rows") (.bin .add (.fld 20 (.v 0) (AG "rows")) (.i 1))) (.k (.ite (.or (.not (.call 21 (.k (.v 5) .e))) (.cmp .gt (.fld 20 (.v 0) (AG "rows")) (.cst ze4))) (.k .nope .e) .e) (.k (.expr (.mth .append (.fld 20 (.v 0) (AG "steps")) (.k (.tup (.k (.s "row") (.k (.v 5) .e))) .e))) .e)))))⟩
def z4:Fn:=⟨1,1,AD,(.k (.sfl 20 (.v 0) (AG "rounds") (.bin .add (.fld 20 (.v 0) (AG "rounds")) (.i 1))) (.k (.ite (.cmp .gt (.fld 20 (.v 0) (AG "rounds")) (.cst zdu)) (.k .nope .e) .e) .e))⟩
noncomputable def zX:Fn:=⟨3,5,AD,(.k (.asg (.t [3,4]) (.call 46 (.k (.v 2) .e))) (.k (.expr (.mth .append (.fld 20 (.v 0) (AG "steps")) (.k (.tup (.k (.s "asked") (.k (.v 1) (.k (.v 3) (.k (.v 4) .e))))) .e))) .e))⟩
def zbW:Fn:=⟨1,1,AB,(.k (.ret (.call 44 (.k (.v 0) (.k (.cst zeT) .e)))) .e)⟩
noncomputable def zc6:Fn:=⟨3,3,AB,(.k (.ret (.blt .tuple (.k (.comp [AC] (.n 0) (.seq (.call 43 (.k (.v 0) (.k (.v 1) (.k (.v 2) .e))))) (.cmp .eq (.idx (.v 0) (.i 0)) (.s "row")) (.idx (.v 0) (.i 1))) .e))) .e)⟩
noncomputable def zda:Fn:=⟨3,4,AB,(.k (.ite (.not (.call 41 (.k (.v 0) .e))) (.k .nope .e) .e) (.k (.asg (.n 3) (.new 20 34 (.k (.v 1) (.k (.v 2) .e)))) (.k (.expr (.mcl 20 35 (AG "go_parts") (.v 3) (.k (.v 0) (.k (.tup .e) .e)))) (.k (.ret (.frz (.fld 20 (.v 3) (AG "steps")))) .e))))⟩
noncomputable def zcG:Fn:=⟨2,2,AB,(.k (.ret (.and (.isi (.v 0) [.tuple]) (.blt .all (.k (.comp [AC,AA 1] (.n 0) (.seq (.v 0)) (.cst (.bl AB)) (.call 45 (.k (.v 0) (.k (.v 1) .e)))) .e)))) .e)⟩
noncomputable def zea:Fn:=⟨2,2,AB,(.k (.ite (.or (.not (.isi (.v 0) [.tuple])) (.cmp .eq (.blt .len (.k (.v 0) .e)) (.i 0))) (.k (.ret (.cst (.bl AD))) .e) .e) (.k (.ite (.cmp .eq (.idx (.v 0) (.i 0)) (.s "row")) (.k (.ret (.and (.cmp .eq (.blt .len (.k (.v 0) .e)) (.i 2)) (.call 22 (.k (.idx (.v 0) (.i 1)) .e)))) .e) .e) (.k (.ite (.or (.cmp .ne (.idx (.v 0) (.i 0)) (.s "rounds")) (.or (.cmp .ne (.blt .len (.k (.v 0) .e)) (.i 4)) (.cmp .eq (.v 1) (.i 0)))) (.k (.ret (.cst (.bl AD))) .e) .e) (.k (.ret (.and (.call 12 (.k (.idx (.v 0) (.i 1)) (.k (.i 3) .e))) (.and (.call 29 (.k (.idx (.v 0) (.i 2)) .e)) (.call 44 (.k (.idx (.v 0) (.i 3)) (.k (.bin .sub (.v 1) (.i 1)) .e)))))) .e))))⟩
noncomputable def zcy:Fn:=⟨1,1,AB,(.k (.ret (.slc (.bin .add (.v 0) (.tup (.k (.i 0) (.k (.i 0) .e)))) (.cst .non) (.i 2))) .e)⟩
noncomputable def zfH:Fn:=⟨4,4,AB,(.k (.ite (.not (.isi (.v 0) [.tuple])) (.k (.ret (.v 0)) .e) .e) (.k (.ret (.tup (.k (.idx (.v 0) (.i 0)) (.k (.call 30 (.k (.idx (.v 0) (.i 1)) (.k (.v 1) (.k (.v 2) (.k (.v 3) .e))))) .e)))) .e))⟩
def zeH:Fn:=⟨1,1,AB,(.k (.ite (.not (.call 50 (.k (.v 0) .e))) (.k .nope .e) .e) (.k (.ite (.cmp .eq (.idx (.v 0) (.i 0)) (.s "led")) (.k .nope .e) .e) (.k (.ite (.cmp .isin (.idx (.v 0) (.i 0)) (.cst zbg)) (.k .nope .e) .e) (.k (.ite (.cmp .isin (.idx (.v 0) (.i 0)) (.cst zc5)) (.k (.ret (.call 17 (.k (.idx (.v 0) (.i 0)) .e))) .e) .e) (.k (.ret (.call 54 (.k (.idx (.v 0) (.i 0)) .e))) .e)))))⟩
noncomputable def zbe:Fn:=⟨3,3,AB,(.k (.ret (.call 42 (.k (.call 48 (.k (.v 0) .e)) (.k (.v 1) (.k (.v 2) .e))))) .e)⟩
def zd4:Fn:=⟨1,1,AB,(.k (.ite (.or (.not (.isi (.v 0) [.tuple])) (.cmp .eq (.blt .len (.k (.v 0) .e)) (.i 0))) (.k .nope .e) .e) (.k (.ite (.cmp .eq (.idx (.v 0) (.i 0)) (.s "led")) (.k .nope .e) .e) (.k (.ite (.cmp .isin (.idx (.v 0) (.i 0)) (.cst zbg)) (.k .nope .e) .e) (.k (.ret (.and (.cmp .eq (.blt .len (.k (.v 0) .e)) (.i 1)) (.or (.cmp .isin (.idx (.v 0) (.i 0)) (.cst zdJ)) (.cmp .isin (.idx (.v 0) (.i 0)) (.cst zje))))) .e))))⟩
def zcJ:Fn:=⟨1,1,AB,(.k (.ret (.cmp .isin (.idx (.v 0) (.i 0)) (.cst zdJ))) .e)⟩
def zS:Fn:=⟨2,2,AB,(.k (.ite (.cmp .eq (.idx (.v 0) (.i 0)) (.s "compare")) (.k (.ret (.i 0)) .e) .e) (.k (.ite (.cmp .eq (.idx (.v 0) (.i 0)) (.s "led")) (.k .nope .e) .e) (.k (.ret (.ite (.cmp .isin (.idx (.v 0) (.i 0)) (.cst zdd)) (.bin .mul (.i 2) (.v 1)) (.v 1))) .e)))⟩
def zan:Fn:=⟨2,2,AB,(.k (.ret (.ite (.cmp .isin (.idx (.v 0) (.i 0)) (.cst zaf)) (.v 1) (.i 0))) .e)⟩
noncomputable def zaR:Fn:=⟨1,1,AB,(.k (.ite (.cmp .eq (.v 0) (.s "sum")) (.k (.ret (.call 13 .e)) .e) .e) (.k (.ite (.cmp .eq (.v 0) (.s "difference")) (.k (.ret (.call 14 .e)) .e) .e) (.k (.ite (.cmp .eq (.v 0) (.s "turned")) (.k (.ret (.call 15 .e)) .e) .e) (.k (.ite (.cmp .eq (.v 0) (.s "compare")) (.k (.ret (.call 16 .e)) .e) .e) (.k (.ite (.cmp .eq (.v 0) (.s "bare")) (.k (.ret (.call 18 .e)) .e) .e) (.k .nope (.k .nope (.k .nope (.k .nope .e)))))))))⟩
noncomputable def za3:Fn:=⟨3,3,AB,(.k (.ite (.or (.cmp .lt (.v 0) (.i 0)) (.cmp .ge (.v 0) (.bin .shl (.i 1) (.bin .mul (.v 1) (.v 2))))) (.k .nope .e) .e) (.k (.ret (.call 57 (.k (.v 0) (.k (.v 1) (.k (.v 2) .e))))) .e))⟩
noncomputable def zbv:Fn:=⟨2,2,AB,(.k (.ret (.bin .shr (.idx (.v 0) (.neg (.i 1))) (.bin .sub (.v 1) (.i 1)))) .e)⟩
noncomputable def zT:Fn:=⟨3,4,AB,(.k (.asg (.n 3) (.bin .sub (.bin .shl (.i 1) (.v 1)) (.i 1))) (.k (.ret (.blt .tuple (.k (.comp [AC,AA 3,AA 0,AA 1] (.n 0) (.range1 (.v 2)) (.cst (.bl AB)) (.bin .band (.bin .shr (.v 2) (.bin .mul (.v 3) (.v 0))) (.v 1))) .e))) .e))⟩
noncomputable def yaC:Fn:=⟨5,10,AB,(.k (.expr (.call 59 (.k (.v 0) (.k (.v 1) (.k (.v 2) (.k (.v 3) (.k (.v 4) .e))))))) (.k (.ite (.cmp .eq (.idx (.v 0) (.i 0)) (.s "compare")) (.k (.ret (.tup (.k (.tup .e) (.k (.tup .e) (.k (.call 63 (.k (.v 3) (.k (.v 4) (.k (.bin .mul (.v 1) (.v 2)) .e)))) .e))))) .e) .e) (.k (.asg (.t [5,6,7]) (.call 60 (.k (.v 0) (.k (.v 1) (.k (.v 2) (.k (.v 3) (.k (.v 4) .e))))))) (.k (.asg (.n 8) (.call 57 (.k (.v 5) (.k (.v 1) (.k (.call 52 (.k (.v 0) (.k (.v 2) .e))) .e))))) (.k (.asg (.n 9) (.call 57 (.k (.bin .sub (.v 3) (.bin .mul (.v 4) (.v 5))) (.k (.v 1) (.k (.call 53 (.k (.v 0) (.k (.v 2) .e))) .e))))) (.k (.ret (.tup (.k (.v 8) (.k (.v 9) (.k (.tup (.k (.v 6) (.k (.v 7) (.k (.ite (.blt .any (.k (.v 8) .e)) (.i 0) (.i 1)) (.k (.call 56 (.k (.v 8) (.k (.v 1) .e))) .e))))) .e))))) .e))))))⟩
def zN:Fn:=⟨5,5,AB,(.k (.ite (.not (.call 50 (.k (.v 0) .e))) (.k .nope .e) .e) (.k (.expr (.call 55 (.k (.v 3) (.k (.v 1) (.k (.v 2) .e))))) (.k (.expr (.call 55 (.k (.v 4) (.k (.v 1) (.k (.v 2) .e))))) (.k (.ite (.and (.cmp .ne (.v 4) (.i 0)) (.not (.call 51 (.k (.v 0) .e)))) (.k .nope .e) .e) (.k (.ite (.and (.cmp .eq (.v 4) (.i 0)) (.cmp .isin (.idx (.v 0) (.i 0)) (.cst zaf))) (.k .nope .e) .e) .e)))))⟩
def yat:Fn:=⟨5,6,AB,(.k (.ite (.cmp .eq (.idx (.v 0) (.i 0)) (.s "led")) (.k .nope .e) .e) (.k (.mkr 5 zbQ (.idx (.v 0) (.i 0)) (.k (.v 3) (.k (.ite (.cmp .isin (.idx (.v 0) (.i 0)) (.cst zbg)) (.idx (.v 0) (.i 1)) (.v 4)) (.k (.bin .mul (.v 1) (.v 2)) .e)))) .e))⟩
noncomputable def zQ:Fn:=⟨2,2,AB,(.k (.ret (.bin .sub (.v 0) (.bin .shl (.bin .shr (.v 0) (.bin .sub (.v 1) (.i 1))) (.v 1)))) .e)⟩
noncomputable def zcO:Fn:=⟨2,3,AB,(.k (.asg (.n 2) (.bin .shl (.i 1) (.bin .sub (.v 1) (.i 1)))) (.k (.ret (.ite (.chain .le .lt (.neg (.v 2)) (.v 0) (.v 2)) (.i 0) (.i 1))) .e))⟩
noncomputable def zaZ:Fn:=⟨3,3,AB,(.k (.ret (.tup (.k (.blt .int (.k (.cmp .lt (.v 0) (.v 1)) .e)) (.k (.blt .int (.k (.cmp .lt (.call 61 (.k (.v 0) (.k (.v 2) .e))) (.call 61 (.k (.v 1) (.k (.v 2) .e)))) .e)) (.k (.blt .int (.k (.cmp .eq (.v 0) (.v 1)) .e)) (.k (.i 0) .e)))))) .e)⟩
noncomputable def zK:Fn:=⟨3,3,AB,(.k (.ret (.tup (.k (.bin .add (.v 0) (.v 1)) (.k (.bin .shr (.bin .add (.v 0) (.v 1)) (.v 2)) (.k (.call 62 (.k (.bin .add (.call 61 (.k (.v 0) (.k (.v 2) .e))) (.call 61 (.k (.v 1) (.k (.v 2) .e)))) (.k (.v 2) .e))) .e))))) .e)⟩
noncomputable def zx:Fn:=⟨3,3,AB,(.k (.ret (.tup (.k (.bin .sub (.v 0) (.v 1)) (.k (.blt .int (.k (.cmp .lt (.v 0) (.v 1)) .e)) (.k (.call 62 (.k (.bin .sub (.call 61 (.k (.v 0) (.k (.v 2) .e))) (.call 61 (.k (.v 1) (.k (.v 2) .e)))) (.k (.v 2) .e))) .e))))) .e)⟩
noncomputable def zcc:Fn:=⟨3,3,AB,(.k (.ret (.call 65 (.k (.i 0) (.k (.v 0) (.k (.v 2) .e))))) .e)⟩
noncomputable def zH:Fn:=⟨3,3,AB,(.k (.ret (.tup (.k (.bin .band (.v 0) (.v 1)) (.k (.i 0) (.k (.i 0) .e))))) .e)⟩
noncomputable def zO:Fn:=⟨3,3,AB,(.k (.ret (.tup (.k (.bin .bor (.v 0) (.v 1)) (.k (.i 0) (.k (.i 0) .e))))) .e)⟩
noncomputable def zL:Fn:=⟨3,3,AB,(.k (.ret (.tup (.k (.bin .bxor (.v 0) (.v 1)) (.k (.i 0) (.k (.i 0) .e))))) .e)⟩
noncomputable def zU:Fn:=⟨3,3,AB,(.k (.ret (.tup (.k (.bin .sub (.neg (.i 1)) (.v 0)) (.k (.i 0) (.k (.i 0) .e))))) .e)⟩
noncomputable def zbT:Fn:=⟨3,3,AB,(.k (.ret (.tup (.k (.bin .shl (.v 0) (.v 1)) (.k (.bin .band (.bin .shr (.bin .shl (.v 0) (.v 1)) (.v 2)) (.i 1)) (.k (.i 0) .e))))) .e)⟩
noncomputable def zbl:Fn:=⟨3,3,AB,(.k (.ret (.tup (.k (.bin .shr (.v 0) (.v 1)) (.k (.bin .band (.bin .shr (.bin .mul (.i 2) (.v 0)) (.v 1)) (.i 1)) (.k (.i 0) .e))))) .e)⟩
noncomputable def zbX:Fn:=⟨3,3,AB,(.k (.ret (.call 72 (.k (.call 61 (.k (.v 0) (.k (.v 2) .e))) (.k (.v 1) (.k (.v 2) .e))))) .e)⟩
noncomputable def zfx:Fn:=⟨3,4,AB,(.k (.asg (.n 3) (.bin .mod (.v 1) (.v 2))) (.k (.ret (.tup (.k (.bin .bor (.bin .shl (.v 0) (.v 3)) (.bin .shr (.v 0) (.bin .sub (.v 2) (.v 3)))) (.k (.i 0) (.k (.i 0) .e))))) .e))⟩
noncomputable def zb1:Fn:=⟨3,3,AB,(.k (.ret (.tup (.k (.bin .mul (.v 0) (.v 1)) (.k (.i 0) (.k (.ite (.cmp .eq (.bin .shr (.bin .mul (.v 0) (.v 1)) (.v 2)) (.i 0)) (.i 0) (.i 1)) .e))))) .e)⟩
noncomputable def zak:Fn:=⟨3,4,AB,(.k (.asg (.n 3) (.bin .mul (.call 61 (.k (.v 0) (.k (.v 2) .e))) (.call 61 (.k (.v 1) (.k (.v 2) .e))))) (.k (.ret (.tup (.k (.v 3) (.k (.i 0) (.k (.call 62 (.k (.v 3) (.k (.v 2) .e))) .e))))) .e))⟩
noncomputable def zd8:Fn:=⟨3,3,AB,(.k (.ret (.tup (.k (.bin .fdiv (.v 0) (.v 1)) (.k (.i 0) (.k (.i 0) .e))))) .e)⟩
noncomputable def zaB:Fn:=⟨3,6,AB,(.k (.asg (.t [3,4]) (.tup (.k (.call 61 (.k (.v 0) (.k (.v 2) .e))) (.k (.call 61 (.k (.v 1) (.k (.v 2) .e))) .e)))) (.k (.asg (.n 5) (.bin .fdiv (.blt .abs (.k (.v 3) .e)) (.blt .abs (.k (.v 4) .e)))) (.k (.ite (.cmp .ne (.cmp .lt (.v 3) (.i 0)) (.cmp .lt (.v 4) (.i 0))) (.k (.asg (.n 5) (.neg (.v 5))) .e) .e) (.k (.ret (.tup (.k (.v 5) (.k (.i 0) (.k (.call 62 (.k (.v 5) (.k (.v 2) .e))) .e))))) .e))))⟩
def zfC:Fn:=⟨5,6,AB,(.k (.mkr 5 zC (.v 0) (.k (.v 1) (.k (.v 2) (.k (.v 3) (.k (.v 4) .e))))) .e)⟩
noncomputable def zbz:Fn:=⟨1,1,AB,(.k (.ret (.bin .sub (.bin .shl (.i 1) (.v 0)) (.i 1))) .e)⟩
noncomputable def zdL:Fn:=⟨4,4,AB,(.k (.ret (.tup (.k (.v 1) (.k (.v 3) .e)))) .e)⟩
noncomputable def zd1:Fn:=⟨4,4,AB,(.k (.ret (.tup (.k (.bin .sub (.call 80 (.k (.v 0) .e)) (.v 1)) (.k (.v 3) .e)))) .e)⟩
noncomputable def zb5:Fn:=⟨4,5,AB,(.k (.asg (.n 4) (.bin .add (.bin .add (.v 1) (.v 2)) (.v 3))) (.k (.ret (.tup (.k (.bin .band (.v 4) (.call 80 (.k (.v 0) .e))) (.k (.bin .shr (.v 4) (.v 0)) .e)))) .e))⟩
noncomputable def zZ:Fn:=⟨4,5,AB,(.k (.asg (.n 4) (.bin .sub (.bin .sub (.v 1) (.v 2)) (.v 3))) (.k (.ret (.tup (.k (.bin .band (.v 4) (.call 80 (.k (.v 0) .e))) (.k (.ite (.cmp .lt (.v 4) (.i 0)) (.i 1) (.i 0)) .e)))) .e))⟩
noncomputable def zbk:Fn:=⟨4,4,AB,(.k (.ret (.tup (.k (.bin .band (.v 1) (.v 2)) (.k (.v 3) .e)))) .e)⟩
noncomputable def zb6:Fn:=⟨4,4,AB,(.k (.ret (.tup (.k (.bin .bor (.v 1) (.v 2)) (.k (.v 3) .e)))) .e)⟩
noncomputable def zb9:Fn:=⟨4,4,AB,(.k (.ret (.tup (.k (.bin .bxor (.v 1) (.v 2)) (.k (.v 3) .e)))) .e)⟩
noncomputable def zbs:Fn:=⟨4,4,AB,(.k (.ret (.call 83 (.k (.v 0) (.k (.v 1) (.k (.v 1) (.k (.v 3) .e)))))) .e)⟩
noncomputable def zb7:Fn:=⟨4,4,AB,(.k (.ret (.tup (.k (.bin .bor (.bin .shr (.v 1) (.i 1)) (.bin .shl (.v 3) (.bin .sub (.v 0) (.i 1)))) (.k (.bin .band (.v 1) (.i 1)) .e)))) .e)⟩
noncomputable def zy:Fn:=⟨2,2,AD,(.k (.sfl 21 (.v 0) (AG "w") (.v 1)) (.k (.sfl 21 (.v 0) (AG "words") (.dict0 AB)) (.k (.sfl 21 (.v 0) (AG "marked") (.i 0)) .e)))⟩
noncomputable def zac:Fn:=⟨4,5,AD,(.k (.asg (.n 4) (.call 97 (.k (.v 1) (.k (.v 2) .e)))) (.k (.ite (.not (.call 10 (.k (.v 3) (.k (.i 0) (.k (.call 80 (.k (.fld 21 (.v 0) (AG "w")) .e)) .e))))) (.k .nope .e) .e) (.k (.dput (.fld 21 (.v 0) (AG "words")) (.v 4) (.v 3)) .e)))⟩
noncomputable def zR:Fn:=⟨3,3,AD,(.k (.ret (.mcl 21 94 (AG "held_in") (.v 0) (.k (.call 97 (.k (.v 1) (.k (.v 2) .e))) .e))) .e)⟩
noncomputable def yu:Fn:=⟨2,3,AD,(.k (.for (.n 2) (.seq (.v 1)) (.k (.expr (.call 98 (.k (.v 2) .e))) .e)) (.k (.for (.n 2) (.seq (.v 1)) (.k (.expr (.mcl 21 95 (AG "go_row") (.v 0) (.k (.v 2) .e))) .e)) .e))⟩
noncomputable def zA:Fn:=⟨2,2,AD,(.k (.ret (.mth .get (.fld 21 (.v 0) (AG "words")) (.k (.v 1) (.k (.i 0) .e)))) .e)⟩
def zj:Fn:=⟨2,2,AD,(.k (.ite (.cmp .eq (.idx (.v 1) (.i 0)) (.s "mark")) (.k (.sfl 21 (.v 0) (AG "marked") (.idx (.v 1) (.i 1))) .e) (.k (.ite (.cmp .eq (.idx (.v 1) (.i 0)) (.s "ask")) (.k (.sfl 21 (.v 0) (AG "marked") (.ite (.cmp .eq (.mcl 21 94 (AG "held_in") (.v 0) (.k (.idx (.v 1) (.i 1)) .e)) (.i 0)) (.i 0) (.i 1))) .e) (.k (.ite (.cmp .eq (.idx (.v 1) (.i 0)) (.s "set")) (.k (.dput (.fld 21 (.v 0) (AG "words")) (.idx (.v 1) (.i 1)) (.idx (.v 1) (.i 2))) .e) (.k (.ite (.cmp .eq (.idx (.v 1) (.i 0)) (.s "times")) (.k .nope .e) (.k (.expr (.mcl 21 96 (AG "go_made") (.v 0) (.k (.v 1) .e))) .e)) .e)) .e)) .e)) .e)⟩
noncomputable def zB:Fn:=⟨2,6,AD,(.k (.asg (.t [2,3]) (.tup (.k (.mcl 21 94 (AG "held_in") (.v 0) (.k (.idx (.v 1) (.i 2)) .e)) (.k (.mcl 21 94 (AG "held_in") (.v 0) (.k (.idx (.v 1) (.neg (.i 1))) .e)) .e)))) (.k (.asg (.t [4,5]) (.call 79 (.k (.idx (.v 1) (.i 0)) (.k (.fld 21 (.v 0) (AG "w")) (.k (.v 2) (.k (.v 3) (.k (.fld 21 (.v 0) (AG "marked")) .e))))))) (.k (.dput (.fld 21 (.v 0) (AG "words")) (.idx (.v 1) (.i 1)) (.v 4)) (.k (.sfl 21 (.v 0) (AG "marked") (.v 5)) .e))))⟩
noncomputable def zaS:Fn:=⟨2,2,AB,(.k (.ite (.not (.call 26 (.k (.tup (.k (.v 0) (.k (.v 1) .e))) .e))) (.k .nope .e) .e) (.k (.ret (.tup (.k (.v 0) (.k (.v 1) .e)))) .e))⟩
noncomputable def zaF:Fn:=⟨1,1,AB,(.k (.ite (.not (.call 21 (.k (.v 0) .e))) (.k .nope .e) .e) .e)⟩
def ybT:Fn:=⟨5,7,AB,(.k (.expr (.call 59 (.k (.v 0) (.k (.v 1) (.k (.v 2) (.k (.v 3) (.k (.v 4) .e))))))) (.k (.asg (.n 5) (.call 100 (.k (.v 1) (.k (.v 2) (.k (.v 3) (.k (.v 4) .e)))))) (.k (.expr (.mcl 21 93 (AG "run") (.v 5) (.k (.call 49 (.k (.v 0) (.k (.v 1) (.k (.v 2) .e)))) .e))) (.k (.asg (.n 6) (.call 101 (.k (.v 5) (.k (.s "c") (.k (.call 52 (.k (.v 0) (.k (.v 2) .e))) .e))))) (.k (.ret (.tup (.k (.v 6) (.k (.call 101 (.k (.v 5) (.k (.s "d") (.k (.call 53 (.k (.v 0) (.k (.v 2) .e))) .e)))) (.k (.call 101 (.k (.v 5) (.k (.s "m") (.k (.cst zbY) .e)))) .e))))) .e)))))⟩
def yj:Fn:=⟨4,9,AD,(.k (.asg (.n 4) (.new 21 90 (.k (.v 0) .e))) (.k (.for (.t [5,6]) (.seq (.tup (.k (.tup (.k (.s "a") (.k (.v 2) .e))) (.k (.tup (.k (.s "b") (.k (.v 3) .e))) .e)))) (.k (.for (.t [7,8]) (.enum (.call 57 (.k (.v 6) (.k (.v 0) (.k (.v 1) .e))))) (.k (.expr (.mcl 21 91 (AG "put") (.v 4) (.k (.v 5) (.k (.v 7) (.k (.v 8) .e))))) .e)) .e)) (.k (.ret (.v 4)) .e)))⟩
noncomputable def yak:Fn:=⟨3,3,AD,(.k (.ret (.blt .tuple (.k (.comp [AC,AA 1,AA 0] (.n 0) (.range1 (.v 2)) (.cst (.bl AB)) (.mcl 21 92 (AG "word") (.v 2) (.k (.v 1) (.k (.v 0) .e)))) .e))) .e)⟩
noncomputable def zch:Fn:=⟨1,1,AD,(.k (.ret (.newl (.k (.slc (.v 0) (.cst .non) (.i 63)) (.k (.i 0) (.k (.i 0) (.k (.cst (.bl AD)) .e)))))) .e)⟩
noncomputable def yav:Fn:=⟨1,8,AB,(.k (.asg (.n 1) (.tup (.k (.i 2147483647) (.k (.i 2147483629) (.k (.i 2147483587) (.k (.i 2147483579) (.k (.i 2147483563) .e))))))) (.k (.asg (.n 2) (.i 0)) (.k (.for (.t [3,4]) (.enum (.v 1)) (.k (.asg (.n 5) (.bin .add (.v 0) (.idx (.tup (.k (.i 11) (.k (.i 101) (.k (.i 1009) (.k (.i 10007) (.k (.i 100003) .e)))))) (.v 3)))) (.k (.asg (.n 5) (.bin .mod (.bin .mul (.v 5) (.bin .add (.i 48271) (.bin .mul (.i 2) (.v 3)))) (.v 4))) (.k (.asg (.n 6) (.bin .mod (.bin .mul (.v 5) (.v 5)) (.v 4))) (.k (.asg (.n 7) (.bin .mod (.bin .mul (.bin .mod (.bin .mul (.v 6) (.v 6)) (.v 4)) (.v 5)) (.v 4))) (.k (.asg (.n 2) (.bin .add (.bin .mul (.v 2) (.v 4)) (.v 7))) .e)))))) (.k (.ret (.v 2)) .e))))⟩
noncomputable def yad:Fn:=⟨1,4,AD,(.k (.asg (.t [1,2]) (.tup (.k (.idx (.v 0) (.i 0)) (.k (.idx (.v 0) (.i 1)) .e)))) (.k (.asg (.n 3) (.bin .add (.bin .mul (.i 31) (.v 2)) (.i 7))) (.k (.ite (.cmp .gt (.blt .len (.k (.v 1) .e)) (.i 0)) (.k (.asg (.n 3) (.bin .mul (.i 104729) (.bin .fdiv (.v 2) (.blt .len (.k (.v 1) .e))))) (.k (.asg (.n 3) (.bin .add (.v 3) (.idx (.v 1) (.bin .mod (.v 2) (.blt .len (.k (.v 1) .e)))))) .e)) .e) (.k (.six (.v 0) (.i 1) (.bin .add (.v 2) (.i 1))) (.k (.six (.v 0) (.i 3) (.or (.cmp .ge (.v 2) (.blt .len (.k (.v 1) .e))) (.cmp .lt (.v 3) (.bin .pow (.i 10) (.i 18))))) (.k (.ite (.idx (.v 0) (.i 3)) (.k (.six (.v 0) (.i 2) (.call 103 (.k (.v 3) .e))) .e) (.k (.six (.v 0) (.i 2) (.bin .sub (.v 3) (.bin .pow (.i 10) (.i 18)))) .e)) .e))))))⟩
noncomputable def yR:Fn:=⟨2,4,AD,(.k (.asg (.n 2) (.i 0)) (.k (.while (.and (.cmp .lt (.v 2) (.i 64)) (.or (.cmp .eq (.idx (.v 0) (.i 2)) (.i 0)) (.and (.idx (.v 0) (.i 3)) (.cmp .lt (.idx (.v 0) (.i 2)) (.bin .mul (.v 1) (.i 4096)))))) (.k (.expr (.call 104 (.k (.v 0) .e))) (.k (.aug 2 .add (.i 1)) (.k (.ite (.and (.idx (.v 0) (.i 3)) (.cmp .lt (.idx (.v 0) (.i 2)) (.bin .mul (.v 1) (.i 4096)))) (.k (.six (.v 0) (.i 2) (.bin .add (.idx (.v 0) (.i 2)) (.bin .mul (.bin .mul (.v 1) (.i 4096)) (.bin .add (.i 1) (.bin .mod (.idx (.v 0) (.i 2)) (.i 4093)))))) .e) .e) .e)))) (.k (.asg (.n 3) (.bin .mod (.idx (.v 0) (.i 2)) (.v 1))) (.k (.six (.v 0) (.i 2) (.bin .fdiv (.idx (.v 0) (.i 2)) (.v 1))) (.k (.ret (.v 3)) .e)))))⟩
noncomputable def zcd:Fn:=⟨2,2,AD,(.k (.ret (.tup (.k (.bin .add (.i 4) (.call 105 (.k (.v 0) (.k (.i 13) .e)))) (.k (.bin .add (.i 1) (.call 105 (.k (.v 0) (.k (.v 1) .e)))) .e)))) .e)⟩
noncomputable def yN:Fn:=⟨3,13,AD,(.k (.asg (.n 3) (.call 105 (.k (.v 0) (.k (.i 12) .e)))) (.k (.asg (.n 4) (.i 1)) (.k (.for (.n 5) (.range1 (.bin .mul (.v 1) (.v 2))) (.k (.asg (.n 4) (.bin .mul (.i 2) (.v 4))) .e)) (.k (.asg (.n 6) (.tup (.k (.i 0) (.k (.i 1) (.k (.bin .sub (.v 4) (.i 1)) (.k (.bin .fdiv (.v 4) (.i 2)) (.k (.bin .sub (.bin .fdiv (.v 4) (.i 2)) (.i 1)) (.k (.bin .sub (.v 4) (.i 2)) .e)))))))) (.k (.ite (.cmp .lt (.v 3) (.i 6)) (.k (.ret (.idx (.v 6) (.v 3))) .e) .e) (.k (.asg (.n 7) (.call 105 (.k (.v 0) (.k (.v 4) .e)))) (.k (.ite (.cmp .eq (.v 3) (.i 6)) (.k (.asg (.n 8) (.i 1)) (.k (.for (.n 5) (.range1 (.call 105 (.k (.v 0) (.k (.bin .mul (.v 1) (.v 2)) .e)))) (.k (.asg (.n 8) (.bin .mul (.i 2) (.v 8))) .e)) (.k (.ret (.bin .mul (.bin .fdiv (.v 7) (.v 8)) (.v 8))) .e))) .e) (.k (.ite (.cmp .eq (.v 3) (.i 7)) (.k (.asg (.n 8) (.i 1)) (.k (.for (.n 5) (.range1 (.call 105 (.k (.v 0) (.k (.bin .mul (.v 1) (.v 2)) .e)))) (.k (.asg (.n 8) (.bin .mul (.i 2) (.v 8))) .e)) (.k (.ret (.bin .sub (.v 4) (.v 8))) .e))) .e) (.k (.ite (.cmp .gt (.v 3) (.i 9)) (.k (.ret (.v 7)) .e) .e) (.k (.asg (.n 9) (.i 1)) (.k (.for (.n 5) (.range1 (.v 1)) (.k (.asg (.n 9) (.bin .mul (.i 2) (.v 9))) .e)) (.k (.asg (.n 10) (.i 0)) (.k (.for (.n 5) (.range1 (.v 2)) (.k (.asg (.n 11) (.bin .mod (.bin .fdiv (.v 7) (.bin .add (.v 5) (.i 1))) (.v 9))) (.k (.asg (.n 12) (.tup (.k (.i 0) (.k (.i 1) (.k (.bin .sub (.v 9) (.i 1)) (.k (.bin .fdiv (.v 9) (.i 2)) (.k (.v 11) .e))))))) (.k (.asg (.n 10) (.bin .add (.bin .mul (.v 10) (.v 9)) (.idx (.v 12) (.call 105 (.k (.v 0) (.k (.i 5) .e)))))) .e)))) (.k (.ret (.v 10)) .e))))))))))))))⟩
noncomputable def zbB:Fn:=⟨1,3,AB,(.k (.asg (.n 1) (.i 1)) (.k (.for (.n 2) (.range1 (.v 0)) (.k (.asg (.n 1) (.bin .mul (.i 2) (.v 1))) .e)) (.k (.ret (.v 1)) .e)))⟩
noncomputable def zci:Fn:=⟨3,6,AB,(.k (.asg (.n 3) (.call 108 (.k (.v 1) .e))) (.k (.asg (.n 4) (.newl .e)) (.k (.for (.n 5) (.range1 (.v 2)) (.k (.expr (.mth .append (.v 4) (.k (.bin .mod (.v 0) (.v 3)) .e))) (.k (.asg (.n 0) (.bin .fdiv (.v 0) (.v 3))) .e))) (.k (.ret (.blt .tuple (.k (.v 4) .e))) .e))))⟩
noncomputable def zbA:Fn:=⟨2,3,AB,(.k (.asg (.n 2) (.call 108 (.k (.v 1) .e))) (.k (.ite (.cmp .ge (.bin .mul (.i 2) (.v 0)) (.v 2)) (.k (.ret (.bin .sub (.v 0) (.v 2))) .e) .e) (.k (.ret (.v 0)) .e)))⟩
noncomputable def zcb:Fn:=⟨1,1,AB,(.k (.ret (.and (.isi (.v 0) [.int]) (.not (.isi (.v 0) [.bool])))) .e)⟩
noncomputable def zbr:Fn:=⟨3,3,AB,(.k (.ite (.or (.not (.isi (.v 0) [.tuple])) (.cmp .ne (.blt .len (.k (.v 0) .e)) (.v 1))) (.k .nope .e) .e) (.k (.ret (.blt .all (.k (.comp [AC,AA 2] (.n 0) (.seq (.v 0)) (.cst (.bl AB)) (.and (.call 111 (.k (.v 0) .e)) (.chain .le .le (.bin .sub (.i 0) (.v 1)) (.v 0) (.v 1)))) .e))) .e))⟩
noncomputable def zbq:Fn:=⟨3,3,AB,(.k (.ite (.or (.not (.isi (.v 0) [.tuple])) (.or (.cmp .ne (.blt .len (.k (.v 0) .e)) (.v 2)) (.not (.blt .all (.k (.comp [AC] (.n 0) (.seq (.v 0)) (.cst (.bl AB)) (.call 111 (.k (.v 0) .e))) .e))))) (.k .nope .e) .e) (.k (.ret (.blt .all (.k (.comp [AC,AA 1] (.n 0) (.seq (.v 0)) (.cst (.bl AB)) (.chain .le .lt (.i 0) (.v 0) (.call 108 (.k (.v 1) .e)))) .e))) .e))⟩
noncomputable def zdG:Fn:=⟨2,3,AB,(.k (.asg (.n 2) (.call 108 (.k (.v 1) .e))) (.k (.ret (.chain .le .lt (.bin .sub (.i 0) (.v 2)) (.bin .mul (.i 2) (.v 0)) (.v 2))) .e))⟩
noncomputable def zdA:Fn:=⟨2,2,AB,(.k (.ret (.tup (.k (.blt .int (.k (.cmp .eq (.v 0) (.i 0)) .e)) (.k (.blt .int (.k (.cmp .ge (.bin .mul (.i 2) (.v 0)) (.call 108 (.k (.v 1) .e))) .e)) .e)))) .e)⟩
noncomputable def yM:Fn:=⟨4,8,AB,(.k (.asg (.n 4) (.i 0)) (.k (.asg (.n 5) (.i 1)) (.k (.for (.n 6) (.range1 (.v 1)) (.k (.asg (.n 7) (.bin .add (.bin .mod (.bin .fdiv (.v 2) (.v 5)) (.i 2)) (.bin .mod (.bin .fdiv (.v 3) (.v 5)) (.i 2)))) (.k (.ite (.or (.and (.cmp .eq (.v 7) (.i 2)) (.cmp .ne (.v 0) (.s "odd"))) (.and (.cmp .eq (.v 7) (.i 1)) (.cmp .ne (.v 0) (.s "both")))) (.k (.asg (.n 4) (.bin .add (.v 4) (.v 5))) .e) .e) (.k (.asg (.n 5) (.bin .mul (.i 2) (.v 5))) .e)))) (.k (.ret (.v 4)) .e))))⟩
noncomputable def yD:Fn:=⟨4,7,AB,(.k (.asg (.n 4) (.call 108 (.k (.v 1) .e))) (.k (.asg (.n 5) (.call 110 (.k (.v 2) (.k (.v 1) .e)))) (.k (.asg (.n 6) (.call 110 (.k (.v 3) (.k (.v 1) .e)))) (.k (.ite (.cmp .eq (.v 0) (.s "sum")) (.k (.ret (.tup (.k (.bin .add (.v 2) (.v 3)) (.k (.blt .int (.k (.cmp .ge (.bin .add (.v 2) (.v 3)) (.v 4)) .e)) (.k (.blt .int (.k (.not (.call 114 (.k (.bin .add (.v 5) (.v 6)) (.k (.v 1) .e)))) .e)) .e))))) .e) .e) (.k (.ite (.cmp .eq (.v 0) (.s "difference")) (.k (.ret (.tup (.k (.bin .sub (.v 2) (.v 3)) (.k (.blt .int (.k (.cmp .lt (.v 2) (.v 3)) .e)) (.k (.blt .int (.k (.not (.call 114 (.k (.bin .sub (.v 5) (.v 6)) (.k (.v 1) .e)))) .e)) .e))))) .e) .e) (.k (.ite (.cmp .eq (.v 0) (.s "turned")) (.k (.ret (.tup (.k (.bin .sub (.i 0) (.v 2)) (.k (.blt .int (.k (.cmp .ne (.v 2) (.i 0)) .e)) (.k (.blt .int (.k (.cmp .eq (.bin .mul (.i 2) (.v 2)) (.v 4)) .e)) .e))))) .e) .e) (.k (.ite (.cmp .eq (.v 0) (.s "bare")) (.k (.ret (.tup (.k (.bin .sub (.bin .sub (.v 4) (.i 1)) (.v 2)) (.k (.i 0) (.k (.i 0) .e))))) .e) .e) (.k (.ret (.tup (.k (.call 116 (.k (.v 0) (.k (.v 1) (.k (.v 2) (.k (.v 3) .e))))) (.k (.i 0) (.k (.i 0) .e))))) .e))))))))⟩
noncomputable def yaV:Fn:=⟨5,9,AB,(.k (.asg (.n 5) (.bin .mul (.v 1) (.v 2))) (.k (.ite (.cmp .eq (.v 0) (.s "compare")) (.k (.ret (.tup (.k (.tup .e) (.k (.tup .e) (.k (.tup (.k (.blt .int (.k (.cmp .lt (.v 3) (.v 4)) .e)) (.k (.blt .int (.k (.cmp .lt (.call 110 (.k (.v 3) (.k (.v 5) .e))) (.call 110 (.k (.v 4) (.k (.v 5) .e)))) .e)) (.k (.blt .int (.k (.cmp .eq (.v 3) (.v 4)) .e)) (.k (.i 0) .e))))) .e))))) .e) .e) (.k (.asg (.t [6,7,8]) (.call 117 (.k (.v 0) (.k (.v 5) (.k (.v 3) (.k (.v 4) .e)))))) (.k (.asg (.n 6) (.bin .mod (.v 6) (.call 108 (.k (.v 5) .e)))) (.k (.ret (.tup (.k (.call 109 (.k (.v 6) (.k (.v 1) (.k (.v 2) .e)))) (.k (.tup .e) (.k (.bin .add (.tup (.k (.v 7) (.k (.v 8) .e))) (.call 115 (.k (.v 6) (.k (.v 5) .e)))) .e))))) .e)))))⟩
noncomputable def yW:Fn:=⟨2,3,AB,(.k (.ite (.or (.not (.isi (.v 0) [.tuple])) (.cmp .ne (.blt .len (.k (.v 0) .e)) (.i 3))) (.k .nope .e) .e) (.k (.for (.n 2) (.seq (.slc (.v 0) (.cst .non) (.i 2))) (.k (.ite (.or (.not (.isi (.v 2) [.tuple])) (.not (.call 113 (.k (.v 2) (.k (.v 1) (.k (.blt .len (.k (.v 2) .e)) .e)))))) (.k .nope .e) .e) .e)) (.k (.ret (.call 112 (.k (.idx (.v 0) (.i 2)) (.k (.i 4) (.k (.i 1) .e))))) .e)))⟩
noncomputable def yaP:Fn:=⟨1,11,AB,(.k (.asg (.n 1) (.call 102 (.k (.v 0) .e))) (.k (.asg (.n 2) (.tup (.k (.s "sum") (.k (.s "difference") (.k (.s "turned") (.k (.s "compare") (.k (.s "both") (.k (.s "any") (.k (.s "odd") (.k (.s "bare") .e)))))))))) (.k (.for (.n 3) (.range1 (.i 3)) (.k (.asg (.n 4) (.idx (.v 2) (.call 105 (.k (.v 1) (.k (.i 8) .e))))) (.k (.asg (.t [5,6]) (.call 106 (.k (.v 1) (.k (.i 4) .e)))) (.k (.asg (.n 7) (.call 107 (.k (.v 1) (.k (.v 5) (.k (.v 6) .e))))) (.k (.asg (.n 8) (.call 107 (.k (.v 1) (.k (.v 5) (.k (.v 6) .e))))) (.k (.ite (.cmp .isin (.v 4) (.tup (.k (.s "turned") (.k (.s "bare") .e)))) (.k (.asg (.n 8) (.i 0)) .e) .e) (.k (.asg (.n 9) (.call 118 (.k (.v 4) (.k (.v 5) (.k (.v 6) (.k (.v 7) (.k (.v 8) .e))))))) (.k (.for (.n 10) (.seq (.tup (.k (.call 58 (.k (.tup (.k (.v 4) .e)) (.k (.v 5) (.k (.v 6) (.k (.v 7) (.k (.v 8) .e)))))) (.k (.call 99 (.k (.tup (.k (.v 4) .e)) (.k (.v 5) (.k (.v 6) (.k (.v 7) (.k (.v 8) .e)))))) (.k (.call 58 (.k (.tup (.k (.v 4) .e)) (.k (.v 5) (.k (.v 6) (.k (.v 7) (.k (.v 8) .e)))))) .e))))) (.k (.ite (.or (.not (.call 119 (.k (.v 10) (.k (.v 5) .e)))) (.cmp .ne (.v 10) (.v 9))) (.k .nope .e) .e) .e)) .e)))))))) (.k (.ret (.cst (.bl AB))) .e))))⟩
def Tl:List Fn:=[zjm,zcI,zjf,zfM,zfr,zjw,zcq,zaP,zbp,za7,zaV,zck,zc7,zbE,z8,zaD,zar,zam,za6,zeM,zcv,zfy,zbm,zde,zdk,zbU,zem,za4,zbx,zbC,zc2,zef,zb2,zc4,zaa,zab,zV,z6,zag,z4,zX,zbW,zc6,zda,zcG,zea,zcy,zfH,zeH,zbe,zd4,zcJ,zS,zan,zaR,za3,zbv,zT,yaC,zN,yat,zQ,zcO,zaZ,zK,zx,zcc,zH,zO,zL,zU,zbT,zbl,zbX,zfx,zb1,zak,zd8,zaB,zfC,zbz,zdL,zd1,zb5,zZ,zbk,zb6,zb9,zbs,zb7,zy,zac,zR,yu,zA,zj,zB,zaS,zaF,ybT,yj,yak,zch,yav,yad,yR,zcd,yN,zbB,zci,zbA,zcb,zbr,zbq,zdG,zdA,yM,yD,yaV,yW,yaP]
def T(i:Nat):Option Fn:=Tl[i]?
noncomputable abbrev zbR:Nat:=10
noncomputable abbrev za9:Nat:=49
noncomputable abbrev zeC:Nat:=50
noncomputable abbrev zcQ:Nat:=51
noncomputable abbrev zF:Nat:=52
noncomputable abbrev zY:Nat:=53
noncomputable abbrev za1:Nat:=55
noncomputable abbrev zbo:Nat:=56
noncomputable abbrev zm:Nat:=57
noncomputable abbrev zbN:Nat:=58
noncomputable abbrev zad:Nat:=59
noncomputable abbrev za2:Nat:=60
noncomputable abbrev zao:Nat:=61
noncomputable abbrev ze3:Nat:=62
noncomputable abbrev zbS:Nat:=63
noncomputable abbrev zaN:Nat:=64
noncomputable abbrev zah:Nat:=65
noncomputable abbrev zfh:Nat:=66
noncomputable abbrev zaE:Nat:=67
noncomputable abbrev zaG:Nat:=68
noncomputable abbrev zaO:Nat:=69
noncomputable abbrev za8:Nat:=70
noncomputable abbrev zgN:Nat:=79
noncomputable abbrev zcD:Nat:=80
noncomputable abbrev zeY:Nat:=81
noncomputable abbrev ze9:Nat:=82
noncomputable abbrev zd0:Nat:=83
noncomputable abbrev zaM:Nat:=84
noncomputable abbrev zcB:Nat:=85
noncomputable abbrev zdN:Nat:=86
noncomputable abbrev zdR:Nat:=87
noncomputable abbrev zct:Nat:=88
noncomputable abbrev zdM:Nat:=89
noncomputable abbrev zM:Nat:=90
noncomputable abbrev zbj:Nat:=91
noncomputable abbrev zE:Nat:=92
noncomputable abbrev zay:Nat:=93
noncomputable abbrev zr:Nat:=94
noncomputable abbrev zk:Nat:=95
noncomputable abbrev zP:Nat:=96
noncomputable abbrev zaK:Nat:=97
noncomputable abbrev zW:Nat:=98
noncomputable abbrev ziU:Nat:=99
noncomputable abbrev zap:Nat:=100
noncomputable abbrev zai:Nat:=101
noncomputable abbrev zdI:Nat:=102
noncomputable abbrev zdE:Nat:=103
noncomputable abbrev zhq:Nat:=104
noncomputable abbrev zdD:Nat:=105
noncomputable abbrev zdC:Nat:=106
noncomputable abbrev zb8:Nat:=107
noncomputable abbrev zaT:Nat:=108
noncomputable abbrev zdV:Nat:=109
noncomputable abbrev zal:Nat:=110
noncomputable abbrev zbF:Nat:=111
noncomputable abbrev zd3:Nat:=112
noncomputable abbrev zep:Nat:=113
noncomputable abbrev ze2:Nat:=114
noncomputable abbrev zfa:Nat:=115
noncomputable abbrev zbV:Nat:=116
noncomputable abbrev zbn:Nat:=117
noncomputable abbrev zd7:Nat:=118
noncomputable abbrev zcC:Nat:=119
noncomputable abbrev zib:Nat:=120
end IC
namespace WK
open PySem L2 IC
noncomputable def top(i:Nat):Stmt:=D5.main.body.getD i (.Pass ⟨0,0,0,0⟩)
def tbQ:Tb where
 tbl:=[⟨"word","word","word",top 15,["letter","c","i","j","m"],["letter","c","i","j","m"],zjm,.fd [0,0,0,0]⟩,⟨"last_word","last_word","last_word",top 16,["letter"],["letter"],zcI,.fn⟩,⟨"rows","rows","rows",top 17,["told"],["told"],zjf,.fn⟩,⟨"rounds","rounds","rounds",top 18,["count","sentence","inner"],["count","sentence","inner"],zfM,.fn⟩,⟨"lowest","lowest","lowest",top 19,["letter","c","i","j","m"],["letter","c","i","j","m"],zfr,.fd [0,0,0,0]⟩,⟨"term","term","term",top 20,["f","things","i","p","q","r"],["f","things","i","p","q","r"],zjw,.fd [0,0,0,0]⟩,⟨"kept_mark","kept_mark","kept_mark",top 25,["to"],["to"],zcq,.fn⟩,⟨"kept_contrary","kept_contrary","kept_contrary",top 26,["to"],["to"],zaP,.fn⟩,⟨"asked_words","asked_words","asked_words",top 29,["letter","m","count","gathered"],["letter","m","count"],zbp,.fn⟩,⟨"answer_marks","answer_marks","answer_marks",top 30,["c","m","sign"],["c","m"],za7,.fn⟩,⟨"is_whole","is_whole","is_whole",top 60,["thing","low","high"],["thing","low","high"],zaV,.fn⟩,⟨"is_letter","is_letter","is_letter",top 61,["thing"],["thing"],zck,.fn⟩,⟨"are_told","are_told","are_told",top 62,["thing","many"],["thing","many"],zc7,.fn⟩,⟨"sum_telling","sum_telling","sum_telling",top 93,["added","sentence","lone"],[],zbE,.fn⟩,⟨"difference_telling","difference_telling","difference_telling",top 94,["taken","sentence","lone"],[],z8,.fn⟩,⟨"turned_telling","turned_telling","turned_telling",top 95,["taken","sentence","lone"],[],zaD,.fn⟩,⟨"compare_telling","compare_telling","compare_telling",top 96,["below"],[],zar,.fn⟩,⟨"pairwise_telling","pairwise_telling","pairwise_telling",top 97,["name","paired"],["name"],zam,.fn⟩,⟨"bare_telling","bare_telling","bare_telling",top 98,["sentence","bared"],[],za6,.fn⟩,⟨"carried","carried","carried",top 99,["row","sentence"],["row","sentence"],zeM,.fn⟩,⟨"lone_sign","lone_sign","lone_sign",top 100,["lone","one","other"],["lone","one","other"],zcv,.fn⟩,⟨"is_row","is_row","is_row",top 103,["thing"],["thing"],zfy,.fn⟩,⟨"is_told_row","is_told_row","is_told_row",top 104,["thing"],["thing"],zbm,.fn⟩,⟨"has_form","has_form","has_form",top 105,["thing","told","kind","operand"],["thing","told"],zde,.fn⟩,⟨"is_named","is_named","is_named",top 106,["thing"],["thing"],zdk,.fn⟩,⟨"is_operand","is_operand","is_operand",top 107,["kind","thing","told"],["kind","thing","told"],zbU,.fn⟩,⟨"is_cell","is_cell","is_cell",top 108,["thing"],["thing"],zem,.fn⟩,⟨"is_told_cell","is_told_cell","is_told_cell",top 109,["thing"],["thing"],za4,.fn⟩,⟨"is_lettered","is_lettered","is_lettered",top 110,["thing"],["thing"],zbx,.fn⟩,⟨"is_sentence","is_sentence","is_sentence",top 115,["thing"],["thing"],zbC,.fn⟩,⟨"place_of","place_of","place_of",top 116,["told","n","i","j"],["told","n","i","j"],zc2,.fn⟩,⟨"is_term","is_term","is_term",top 117,["thing","f","exponent","things"],["thing"],zef,.fn⟩,⟨"are_things","are_things","are_things",top 118,["thing"],["thing"],zb2,.fn⟩,⟨"is_thing","is_thing","is_thing",top 119,["thing"],["thing"],zc4,.fn⟩,⟨"","__init__","Unrolling.__init__",inClass (top 124) 0,["self","w","n"],["self","w","n"],zaa,.ini 20⟩,⟨"","go_parts","Unrolling.go_parts",inClass (top 124) 1,["self","parts","gone","part"],["self","parts","gone"],zab,.me 20⟩,⟨"","go_rounds","Unrolling.go_rounds",inClass (top 124) 2,["self","part","gone","count","at"],["self","part","gone"],zV,.me 20⟩,⟨"","count_of","Unrolling.count_of",inClass (top 124) 3,["self","told","c","m","t"],["self","told"],z6,.me 20⟩,⟨"","add_row","Unrolling.add_row",inClass (top 124) 4,["self","told","gone","i","j","row"],["self","told","gone"],zag,.me 20⟩,⟨"","add_round","Unrolling.add_round",inClass (top 124) 5,["self"],["self"],z4,.me 20⟩,⟨"","add_asked","Unrolling.add_asked",inClass (top 124) 6,["self","sentence","gone","i","j"],["self","sentence","gone"],zX,.me 20⟩,⟨"is_telling","is_telling","is_telling",top 125,["thing"],["thing"],zbW,.fn⟩,⟨"unrolled","unrolled","unrolled",top 126,["telling","w","n"],["telling","w","n"],zc6,.fn⟩,⟨"steps_of","steps_of","steps_of",top 127,["telling","w","n","unrolling"],["telling","w","n"],zda,.fn⟩,⟨"are_parts","are_parts","are_parts",top 128,["thing","nests"],["thing","nests"],zcG,.fn⟩,⟨"is_part","is_part","is_part",top 129,["thing","nests"],["thing","nests"],zea,.fn⟩,⟨"both_gone","both_gone","both_gone",top 130,["gone"],["gone"],zcy,.fn⟩,⟨"placed","placed","placed",top 131,["thing","n","i","j"],["thing","n","i","j"],zfH,.fn⟩,⟨"telling","telling","telling",top 140,["deed"],["deed"],zeH,.fn⟩,⟨"deed_rows","deed_rows","deed_rows",top 141,["deed","w","n"],["deed","w","n"],zbe,.fn⟩,⟨"is_deed","is_deed","is_deed",top 142,["thing"],["thing"],zd4,.fn⟩,⟨"is_paired","is_paired","is_paired",top 143,["deed"],["deed"],zcJ,.fn⟩,⟨"answer_words","answer_words","answer_words",top 144,["deed","n"],["deed","n"],zS,.fn⟩,⟨"rest_words","rest_words","rest_words",top 145,["deed","n"],["deed","n"],zan,.fn⟩,⟨"named_telling","named_telling","named_telling",top 147,["name"],["name"],zaR,.fn⟩,⟨"words_of","words_of","words_of",top 149,["worth","w","n"],["worth","w","n"],za3,.fn⟩,⟨"sign_of","sign_of","sign_of",top 150,["number","w"],["number","w"],zbv,.fn⟩,⟨"lowest_words","lowest_words","lowest_words",top 151,["worth","w","n","highest"],["worth","w","n"],zT,.fn⟩,⟨"comes","comes","comes",top 153,["deed","w","n","x","y","worth","first","second","answer","rest"],["deed","w","n","x","y"],yaC,.fn⟩,⟨"refuse_deed","refuse_deed","refuse_deed",top 154,["deed","w","n","x","y"],["deed","w","n","x","y"],zN,.fn⟩,⟨"reckoned","reckoned","reckoned",top 155,["deed","w","n","x","y","reckon"],["deed","w","n","x","y"],yat,.fn⟩,⟨"signed_worth","signed_worth","signed_worth",top 156,["x","k"],["x","k"],zQ,.fn⟩,⟨"unfit","unfit","unfit",top 157,["worth","k","half"],["worth","k"],zcO,.fn⟩,⟨"compared","compared","compared",top 158,["x","y","k"],["x","y","k"],zaZ,.fn⟩,⟨"summed_worths","summed","summed",top 159,["x","y","k"],["x","y","k"],zK,.fn⟩,⟨"taken_away_worths","taken_away","taken_away",top 161,["x","y","k"],["x","y","k"],zx,.fn⟩,⟨"turned","turned","turned",top 163,["x","y","k"],["x","y","k"],zcc,.fn⟩,⟨"in_both_worths","in_both","in_both",top 164,["x","y","k"],["x","y","k"],zH,.fn⟩,⟨"in_any_worths","in_any","in_any",top 166,["x","y","k"],["x","y","k"],zO,.fn⟩,⟨"in_one_worths","in_one","in_one",top 168,["x","y","k"],["x","y","k"],zL,.fn⟩,⟨"bared_worths","bared","bared",top 170,["x","y","k"],["x","y","k"],zU,.fn⟩,⟨"moved_left","moved_left","moved_left",top 172,["x","s","k"],["x","s","k"],zbT,.fn⟩,⟨"moved_right","moved_right","moved_right",top 173,["x","s","k"],["x","s","k"],zbl,.fn⟩,⟨"moved_down","moved_down","moved_down",top 174,["x","s","k"],["x","s","k"],zbX,.fn⟩,⟨"rolled","rolled","rolled",top 175,["x","s","k","places"],["x","s","k"],zfx,.fn⟩,⟨"multiplied","multiplied","multiplied",top 176,["x","y","k"],["x","y","k"],zb1,.fn⟩,⟨"signed_multiplied","signed_multiplied","signed_multiplied",top 178,["x","y","k","worth"],["x","y","k"],zak,.fn⟩,⟨"divided","divided","divided",top 179,["x","y","k"],["x","y","k"],zd8,.fn⟩,⟨"signed_divided","signed_divided","signed_divided",top 181,["x","y","k","above","below","worth"],["x","y","k"],zaB,.fn⟩,⟨"made","made","made",top 185,["name","w","x","y","k","make"],["name","w","x","y","k"],zfC,.fn⟩,⟨"highest","highest","highest",top 186,["w"],["w"],zbz,.fn⟩,⟨"moved","moved","moved",top 187,["w","x","y","k"],["w","x","y","k"],zdL,.fn⟩,⟨"bared","bared","bared",top 189,["w","x","y","k"],["w","x","y","k"],zd1,.fn⟩,⟨"summed","summed","summed",top 191,["w","x","y","k","total"],["w","x","y","k"],zb5,.fn⟩,⟨"taken_away","taken_away","taken_away",top 193,["w","x","y","k","total"],["w","x","y","k"],zZ,.fn⟩,⟨"in_both","in_both","in_both",top 195,["w","x","y","k"],["w","x","y","k"],zbk,.fn⟩,⟨"in_any","in_any","in_any",top 197,["w","x","y","k"],["w","x","y","k"],zb6,.fn⟩,⟨"in_one","in_one","in_one",top 199,["w","x","y","k"],["w","x","y","k"],zb9,.fn⟩,⟨"doubled","doubled","doubled",top 201,["w","x","y","k"],["w","x","y","k"],zbs,.fn⟩,⟨"halved","halved","halved",top 203,["w","x","y","k"],["w","x","y","k"],zb7,.fn⟩,⟨"","__init__","Machine.__init__",inClass (top 207) 0,["self","w"],["self","w"],zy,.ini 21⟩,⟨"","put","Machine.put",inClass (top 207) 1,["self","letter","at","word","cell"],["self","letter","at","word"],zac,.me 21⟩,⟨"","word","Machine.word",inClass (top 207) 2,["self","letter","at"],["self","letter","at"],zR,.me 21⟩,⟨"","run","Machine.run",inClass (top 207) 5,["self","rows","row"],["self","rows"],yu,.me 21⟩,⟨"","held_in","Machine.held_in",inClass (top 207) 6,["self","cell"],["self","cell"],zA,.me 21⟩,⟨"","go_row","Machine.go_row",inClass (top 207) 7,["self","row"],["self","row"],zj,.me 21⟩,⟨"","go_made","Machine.go_made",inClass (top 207) 9,["self","row","x","y","word","mark"],["self","row"],zB,.me 21⟩,⟨"known_cell","known_cell","known_cell",top 208,["letter","at"],["letter","at"],zaS,.fn⟩,⟨"refuse_row","refuse_row","refuse_row",top 209,["thing"],["thing"],zaF,.fn⟩,⟨"ran","ran","ran",top 212,["deed","w","n","x","y","machine","answer"],["deed","w","n","x","y"],ybT,.fn⟩,⟨"machine_with","machine_with","machine_with",top 213,["w","n","x","y","machine","letter","worth","at","word"],["w","n","x","y"],yj,.fn⟩,⟨"number_in","number_in","number_in",top 214,["machine","letter","many"],["machine","letter","many"],yak,.fn⟩,⟨"_law_fresh","_law_fresh","_law_fresh",top 216,["_law_script"],["_law_script"],zch,.fn⟩,⟨"_law_mixed","_law_mixed","_law_mixed",top 217,["_law_seed","_law_primes","_law_number_here","_law_k","_law_prime","_law_far","_law_square","_law_power"],["_law_seed"],yav,.fn⟩,⟨"_law_fill","_law_fill","_law_fill",top 218,["_law_state","_law_cells","_law_at","_law_seed"],["_law_state"],yad,.fn⟩,⟨"_law_take","_law_take","_law_take",top 219,["_law_state","_law_many","_law_turns","_law_digit"],["_law_state","_law_many"],yR,.fn⟩,⟨"_law_sizes","_law_sizes","_law_sizes",top 220,["_law_state","_law_most"],["_law_state","_law_most"],zcd,.fn⟩,⟨"_law_worth","_law_worth","_law_worth",top 221,["_law_state","_law_w","_law_n","_law_way","_law_top","_law_k","_law_edges","_law_any_one","_law_low","_law_wide","_law_worth_here","_law_some","_law_words_here"],["_law_state","_law_w","_law_n"],yN,.fn⟩,⟨"_law_two_to","_law_two_to","_law_two_to",top 222,["_law_many","_law_found","_law_k"],["_law_many"],zbB,.fn⟩,⟨"_law_words","_law_words","_law_words",top 223,["_law_worth_here","_law_w","_law_n","_law_wide","_law_words_here","_law_k"],["_law_worth_here","_law_w","_law_n"],zci,.fn⟩,⟨"_law_signed","_law_signed","_law_signed",top 224,["_law_worth_here","_law_many","_law_top"],["_law_worth_here","_law_many"],zbA,.fn⟩,⟨"_law_whole","_law_whole","_law_whole",top 225,["_law_thing"],["_law_thing"],zcb,.fn⟩,⟨"_law_wholes","_law_wholes","_law_wholes",top 226,["_law_thing","_law_many","_law_most"],["_law_thing","_law_many","_law_most"],zbr,.fn⟩,⟨"_law_number","_law_number","_law_number",top 227,["_law_thing","_law_w","_law_n"],["_law_thing","_law_w","_law_n"],zbq,.fn⟩,⟨"_law_fits","_law_fits","_law_fits",top 228,["_law_signed_worth","_law_many","_law_top"],["_law_signed_worth","_law_many"],zdG,.fn⟩,⟨"_law_ends","_law_ends","_law_ends",top 229,["_law_worth_here","_law_many"],["_law_worth_here","_law_many"],zdA,.fn⟩,⟨"_law_by_places","_law_by_places","_law_by_places",top 230,["_law_word","_law_size","_law_x","_law_y","_law_worth_here","_law_place","_law_k","_law_many"],["_law_word","_law_size","_law_x","_law_y"],yM,.fn⟩,⟨"_law_simple","_law_simple","_law_simple",top 231,["_law_word","_law_size","_law_x","_law_y","_law_top","_law_first","_law_other"],["_law_word","_law_size","_law_x","_law_y"],yD,.fn⟩,⟨"_law_due","_law_due","_law_due",top 232,["_law_word","_law_w","_law_n","_law_x","_law_y","_law_size","_law_worth_here","_law_first","_law_other"],["_law_word","_law_w","_law_n","_law_x","_law_y"],yaV,.fn⟩,⟨"_law_answer","_law_answer","_law_answer",top 233,["_law_found","_law_w","_law_number_here"],["_law_found","_law_w"],yW,.fn⟩,⟨"law","law","law",top 234,["_law_script","_law_state","_law_words_here","_law_turn","_law_word","_law_w","_law_n","_law_x","_law_y","_law_due_here","_law_found"],["_law_script"],yaP,.fn⟩]
 al:=[eD "word" 0,eF "last_word" 1,eF "rows" 2,eF "rounds" 3,eD "lowest" 4,eD "term" 5,eF "kept_mark" 6,eF "kept_contrary" 7,eF "asked_words" 8,eF "answer_marks" 9,eF "is_whole" 10,eF "is_letter" 11,eF "are_told" 12,eF "sum_telling" 13,eF "difference_telling" 14,eF "turned_telling" 15,eF "compare_telling" 16,eF "pairwise_telling" 17,eF "bare_telling" 18,eF "carried" 19,eF "lone_sign" 20,eF "is_row" 21,eF "is_told_row" 22,eF "has_form" 23,eF "is_named" 24,eF "is_operand" 25,eF "is_cell" 26,eF "is_told_cell" 27,eF "is_lettered" 28,eF "is_sentence" 29,eF "place_of" 30,eF "is_term" 31,eF "are_things" 32,eF "is_thing" 33,eF "is_telling" 41,eF "unrolled" 42,eF "steps_of" 43,eF "are_parts" 44,eF "is_part" 45,eF "both_gone" 46,eF "placed" 47,eF "telling" 48,eF "deed_rows" 49,eF "is_deed" 50,eF "is_paired" 51,eF "answer_words" 52,eF "rest_words" 53,eF "named_telling" 54,eF "words_of" 55,eF "sign_of" 56,eF "lowest_words" 57,eF "comes" 58,eF "refuse_deed" 59,eF "reckoned" 60,eF "signed_worth" 61,eF "unfit" 62,eF "compared" 63,eF "summed_worths" 64,eF "taken_away_worths" 65,eF "turned" 66,eF "in_both_worths" 67,eF "in_any_worths" 68,eF "in_one_worths" 69,eF "bared_worths" 70,eF "moved_left" 71,eF "moved_right" 72,eF "moved_down" 73,eF "rolled" 74,eF "multiplied" 75,eF "signed_multiplied" 76,eF "divided" 77,eF "signed_divided" 78,eF "made" 79,eF "highest" 80,eF "moved" 81,eF "bared" 82,eF "summed" 83,eF "taken_away" 84,eF "in_both" 85,eF "in_any" 86,eF "in_one" 87,eF "doubled" 88,eF "halved" 89,eF "known_cell" 97,eF "refuse_row" 98,eF "ran" 99,eF "machine_with" 100,eF "number_in" 101,eF "_law_fresh" 102,eF "_law_mixed" 103,eF "_law_fill" 104,eF "_law_take" 105,eF "_law_sizes" 106,eF "_law_worth" 107,eF "_law_two_to" 108,eF "_law_words" 109,eF "_law_signed" 110,eF "_law_whole" 111,eF "_law_wholes" 112,eF "_law_number" 113,eF "_law_fits" 114,eF "_law_ends" 115,eF "_law_by_places" 116,eF "_law_simple" 117,eF "_law_due" 118,eF "_law_answer" 119,eF "law" 120,eF "bared_made" 82,eF "divided_worths" 77,eF "doubled_made" 88,eF "halved_made" 89,eF "in_any_made" 86,eF "in_both_made" 85,eF "in_one_made" 87,eF "moved_made" 81,eF "multiplied_worths" 75,eF "summed_made" 83,eF "taken_away_made" 84,eC "EACH_WORD" zaA,eC "FACTOR_LIMIT" (.int (10000000000000000000000000000000000000000)),eC "LONE" zje,eC "MARKS_parts" zq,eC "MARKS_runs" (.int (4)),eC "MOST_NESTS" (.int (2)),eC "MOST_ROUNDS" (.int (4000)),eC "MOST_ROWS" (.int (4000)),eC "MOST_TERMS" (.int (20)),eC "MOST_THINGS" (.int (2)),eC "MOST_TOLD" (.int (200)),eC "NIL" zf8,eC "PAIRED" zdJ,eC "PAIRWISE" zc5,eC "PRODUCTS" zdd,eC "QUOTIENTS" zaf,eC "SEEN" zcH,eC "SHIFTS" zbg,eC "SPARE" zbc,eG "ROWS" (.dct zeE),eG "Machine" (.cls 21 90),eG "Unrolling" (.cls 20 34)]
 bs:=["abs","all","any","bool","enumerate","int","isinstance","len","max","range","str","tuple","zip"]
 ts:=[.bool,.int,.str,.tuple]
 fl:=[eN 20 "n",eN 20 "rounds",eN 20 "rows",eN 20 "steps",eN 20 "w",eN 21 "marked",eN 21 "w",eN 21 "words"]
 me:=[eM 20 "go_parts" 35,eM 20 "go_rounds" 36,eM 20 "count_of" 37,eM 20 "add_row" 38,eM 20 "add_round" 39,eM 20 "add_asked" 40,eM 21 "put" 91,eM 21 "word" 92,eM 21 "run" 93,eM 21 "held_in" 94,eM 21 "go_row" 95,eM 21 "go_made" 96]
 kb:=[eK 0 1 ["i"] [AA 0,AC,AA 0,AA 0],eK 0 1 ["i","m"] [AA 0,AC,AA 0,AC],eK 0 2 ["m"] [AA 0,AA 0,AC],eK 4 1 ["i"] [AA 0,AC,AA 0,AA 0],eK 5 2 [] [AA 0,AA 0,AA 0,AA 0],eK 5 2 ["p"] [AA 0,AC,AA 0,AA 0]]
 cn:=[eN 21 "Machine",eN 20 "Unrolling"]
 dd:=[eB "ROWS" zeE]
 ml:=[eL "MAKERS" zC,eL "RECKONED" zbQ]
theorem ok_all:tbQ.tbl.all (okT tbQ)=true:=by decide +kernel
theorem T_ok:∀i d,tbQ.tbl[i]?=AA d->T i=AA d.fn:=λi d h=>by
 have e:Tl=tbQ.tbl.map (·.fn):=rfl;rw[T,e,Bo,h];rfl
theorem kb_all:ybz (KbP tbQ) tbQ.kb:=by
 repeat' (first|exact trivial|(refine⟨kbP rfl rfl rfl rfl rfl (by decide) ?_,?_⟩;((repeat intro _);exact⟨_,rfl,rfl⟩)))
theorem cn_20:cnm tbQ 20="Unrolling":=rfl
theorem cn_21:cnm tbQ 21="Machine":=rfl
end WK
namespace IC
open PySem
def ya1(call:Cl)(t:Tg)(b:Css)(xs:List PV)(ρ:Env)(st:SO):Fl:=forL t (λρ2 st2=>exs call ρ2 st2 b) xs ρ st
def yaH(call:Cl)(c:Ce)(b:Css)(n:Nat)(ρ:Env)(st:SO):Fl:=yal (λρ2 st2=>ev call ρ2 st2 c) (λρ2 st2=>exs call ρ2 st2 b) n ρ st
def ybP(call:Cl)(ρ0:Env)(t:Tg)(c e:Ce)(x:PV)(st2:SO):R (Option PV):=match yH t x ρ0 with
 |none=>.bad
 |some ρ1=>(ev call ρ1 st2 c).bind λb st3=>onO (yaF st3 b) λk=>cond k ((ev call ρ1 st3 e).bind λy st4=>.ok (AA y) st4) (.ok AC st3)
def yar(call:Cl)(ρ0:Env)(t:Tg)(c e:Ce)(xs:List PV)(st:SO):R (List PV):=yaL (ybP call ρ0 t c e) xs st
noncomputable def yap(f:Fl)(k:Env->SO->Fl):Fl:=
 match f with
 |.nx ρ st=>k ρ st
 |f=>f
noncomputable def nxO(o:Option Env)(st:SO):Fl:=
 match o with
 |some ρ=>.nx ρ st
 |none=>.bad
noncomputable def stO(ρ:Env)(o:Option SO):Fl:=
 match o with
 |some st=>.nx ρ st
 |none=>.bad
section
variable {call:Cl}{ρ:Env}{st:SO}
theorem x_for{t:Tg}{it:Cit}{b:Css}:ex call ρ st (.for t it b)=(evi call ρ st it).fl ρ λxs st1=>ya1 call t b xs ρ st1:=rfl
theorem zj0{c:Ce}{b:Css}:ex call ρ st (.while c b)=yaH call c b 100000 ρ st:=rfl
theorem v_comp{sl:List (Option Nat)}{t:Tg}{it:Cit}{c e:Ce}:ev call ρ st (.comp sl t it c e)=(evi call ρ st it).bind λxs st1=>ybV (yar call (sl.map λo=>o.bind λj=>(ρ[j]?).join) t c e xs st1):=rfl
theorem zD{t:Tg}{b:Css}:ya1 call t b [] ρ st=.nx ρ st:=rfl
theorem zn{t:Tg}{b:Css}{x:PV}{xs:List PV}{ρ1:Env}(h:yH t x ρ=AA ρ1):ya1 call t b (x::xs) ρ st=yai (exs call ρ1 st b) λρ2 st2=>ya1 call t b xs ρ2 st2:=by
 rw[ya1,forL,h];rfl
theorem zdx{t:Tg}{b:Css}(P:Nat->Env->SO->Prop):∀(xs:List PV) (i:Nat) (ρ:Env) (st:SO),P i ρ st ->
  (∀(j:Nat) (x:PV) (ρ:Env) (st:SO),xs[j]?=AA x->P (i+j) ρ st->∃ρ1 ρ2 st2,yH t x ρ=AA ρ1/\exs call ρ1 st b=.nx ρ2 st2/\P (i+j+1) ρ2 st2) ->
  ∃ρ' st',ya1 call t b xs ρ st=.nx ρ' st'/\P (i+xs.length) ρ' st'
 |[],i,ρ,st,h,_=>⟨ρ,st,zD,h⟩
 |x::xs,i,ρ,st,h,k=>by
  let⟨ρ1,ρ2,st2,e1,e2,h2⟩:=k 0 x ρ st rfl h;let⟨ρ',st',e3,h3⟩:=zdx P xs (i+1) ρ2 st2 h2 λj y ρ st hy hp=>by
   have:=k (j+1) y ρ st (by simpa using hy) (by rw[show i+(j+1)=i+1+j by lia];exact hp);rw[show i+(j+1)+1=i+1+j+1 by lia]at this;exact this
  refine⟨ρ',st',?_,by rw[AT,show i+(xs.length+1)=i+1+xs.length by lia];exact h3⟩;rw[zn e1,e2];exact e3
theorem zhV{c:Ce}{b:Css}{n:Nat}{x:PV}{st1 st2:SO}{ρ2:Env}(h:ev call ρ st c=.ok x st1)(ht:yaF st1 x=AA AB)(hb:exs call ρ st1 b=.nx ρ2 st2):yaH call c b (n+1) ρ st=yaH call c b n ρ2 st2:=by
 rw[yaH,yal,h];erw[R.fl,ht,onF,cond_true,hb,yai];rfl
theorem ze7{c:Ce}{b:Css}{n:Nat}{x:PV}{st1:SO}(h:ev call ρ st c=.ok x st1)(ht:yaF st1 x=AA AD):yaH call c b (n+1) ρ st=.nx ρ st1:=by
 rw[yaH,yal,h];erw[R.fl,ht,onF,cond_false]
theorem zcY{ρ0:Env}{t:Tg}{c e:Ce}:yar call ρ0 t c e [] st=.ok [] st:=rfl
theorem zbP{ρ0:Env}{t:Tg}{c e:Ce}{x:PV}{xs:List PV}:yar call ρ0 t c e (x::xs) st=(ybP call ρ0 t c e x st).bind λo st1=>(yar call ρ0 t c e xs st1).bind λys st2=>.ok (ybG o ys) st2:=rfl
theorem zeo{ρ0:Env}{t:Tg}{c e:Ce}{f:PV->PV}:∀(xs:List PV),(∀x∈xs,ybP call ρ0 t c e x st=.ok (AA (f x)) st)->yar call ρ0 t c e xs st=.ok (xs.map f) st
 |[],_=>zcY
 |x::xs,h=>by
  rw[zbP,h x BA];erw[R.bind];rw[zeo xs λy hy=>h y (AX _ hy)];rfl
theorem xs_nil:exs call ρ st .nil=.nx ρ st:=rfl
theorem xs_cons{s:Cs}{ss:Css}:exs call ρ st (.cons s ss)=yap (ex call ρ st s) λρ1 st1=>exs call ρ1 st1 ss:=rfl
theorem x_asg{t:Tg}{e:Ce}:ex call ρ st (.asg t e)=(ev call ρ st e).fl ρ λv st1=>nxO (yH t v ρ) st1:=rfl
theorem x_expr{e:Ce}:ex call ρ st (.expr e)=(ev call ρ st e).fl ρ λ_ st1=>.nx ρ st1:=rfl
theorem x_ret{e:Ce}:ex call ρ st (.ret e)=(ev call ρ st e).fl ρ λv st1=>.rt v st1:=rfl
theorem x_ite{c:Ce}{a b:Css}:ex call ρ st (.ite c a b)=(ev call ρ st c).fl ρ λx st1=>onF (yaF st1 x) λk=>cond k (exs call ρ st1 a) (exs call ρ st1 b):=rfl
theorem x_six{o i e:Ce}:ex call ρ st (.six o i e)=(ev call ρ st e).fl ρ λv st1=>(ev call ρ st1 o).fl ρ λx st2=>(ev call ρ st2 i).fl ρ λy st3=>stO ρ (ybk st3 x y v):=rfl
noncomputable def ydI(o:Option Nat)(k:Nat->Fl):Fl:=match o with
 |some j=>k j
 |none=>.bad
theorem zlq{i:Nat}{D:List (AQ×Nat)}{n:Ce}{es:Ces}:ex call ρ st (.mkr i D n es)=(ev call ρ st n).fl ρ λx st1=>ydI (mkV D (decide (i<ρ.length)) x) λj=>((evs call (ρ.set i AC) st1 es).bind λvs st2=>call j vs st2).fl (ρ.set i AC) λv st3=>.rt v st3:=rfl
theorem zhw{c:Nat}{o e:Ce}{f:AQ}:ex call ρ st (.sfl c o f e)=(ev call ρ st e).fl ρ λv st1=>(ev call ρ st1 o).fl ρ λx st2=>stO ρ (ya9 c st2 x f v):=rfl
theorem zgz{o i e:Ce}:ex call ρ st (.dput o i e)=(ev call ρ st e).fl ρ λv st1=>(ev call ρ st1 o).fl ρ λx st2=>(ev call ρ st2 i).fl ρ λy st3=>stO ρ (ya0 st3 x y v):=rfl
theorem zog{i:Nat}{o:BOp}{e:Ce}{x:PV}(h:ρ[i]?=AA (AA x)):ex call ρ st (.aug i o e)=(ev call ρ st e).fl ρ λy st1=>nxO ((ybv o x y).map λz=>ρ.set i (AA z)) st1:=by
 rw[ex,h];show (ev call ρ st e).fl ρ _=_;refine congrArg _ (funext λy=>funext λst1=>?_)
 cases ybv o x y<;>rfl
end
theorem ve1(call:Nat->List PV->SO->R PV)(ρ:Env)(st:SO)(v:PV):
  ev call ρ st (Ce.cst v)=R.ok v st:=rfl
theorem ve2(call:Nat->List PV->SO->R PV)(ρ:Env)(st:SO)(i:Nat):
  ev call ρ st (Ce.var i) =
  match ρ[i]? with
  |some (AA v)=>R.ok v st
  |x=>R.bad:=rfl
theorem ve3(call:Nat->List PV->SO->R PV)(ρ:Env)(st:SO)(o:BOp)(a b:Ce):
  ev call ρ st (Ce.bin o a b)=R.bind (ev call ρ st a) λx st1=>R.bind (ev call ρ st1 b) λy st2=>toR (yr o x y) st2:=rfl
theorem ve4(call:Nat->List PV->SO->R PV)(ρ:Env)(st:SO)(a:Ce):
  ev call ρ st (Ce.neg a) =
  R.bind (ev call ρ st a) λx st1=>
   match x with
   |PV.int i=>R.ok (PV.int (-i)) st1
   |x=>R.bad:=rfl
theorem ve5(call:Nat->List PV->SO->R PV)(ρ:Env)(st:SO)(a:Ce):
  ev call ρ st (Ce.not a)=R.bind (ev call ρ st a) λx st1=>onBl x λk=>R.ok (PV.bl !k) st1:=rfl
theorem ve6(call:Nat->List PV->SO->R PV)(ρ:Env)(st:SO)(a b:Ce):
  ev call ρ st (Ce.and a b)=R.bind (ev call ρ st a) λx st1=>onBl x λk=>bif k then ev call ρ st1 b else R.ok (PV.bl AD) st1:=rfl
theorem ve7(call:Nat->List PV->SO->R PV)(ρ:Env)(st:SO)(a b:Ce):
  ev call ρ st (Ce.or a b)=R.bind (ev call ρ st a) λx st1=>onBl x λk=>bif k then R.ok (PV.bl AB) st1 else ev call ρ st1 b:=rfl
theorem ve8(call:Nat->List PV->SO->R PV)(ρ:Env)(st:SO)(o:COp)(a b:Ce):
  ev call ρ st (Ce.cmp o a b)=R.bind (ev call ρ st a) λx st1=>R.bind (ev call ρ st1 b) λy st2=>toR (yx o x y) st2:=rfl
theorem ve9(call:Nat->List PV->SO->R PV)(ρ:Env)(st:SO)(o p:COp)(a b c:Ce):
  ev call ρ st (Ce.chain o p a b c)=R.bind (ev call ρ st a) λx st1=>R.bind (ev call ρ st1 b) λy st2=>onO (blO (yx o x y)) λk=>bif k then R.bind (ev call ρ st2 c) λz st3=>toR (yx p y z) st3 else R.ok (PV.bl AD) st2:=rfl
theorem ve10(call:Nat->List PV->SO->R PV)(ρ:Env)(st:SO)(c a b:Ce):
  ev call ρ st (Ce.ite c a b)=R.bind (ev call ρ st c) λx st1=>onO (yaF st1 x) λk=>bif k then ev call ρ st1 a else ev call ρ st1 b:=rfl
theorem ve11(call:Nat->List PV->SO->R PV)(ρ:Env)(st:SO)(es:Ces):
  ev call ρ st (Ce.tup es)=R.bind (evs call ρ st es) λvs st1=>if CY vs<=sizeMax then R.ok (PV.tup vs) st1 else R.bad:=rfl
theorem ve12(call:Nat->List PV->SO->R PV)(ρ:Env)(st:SO)(es:Ces):
  ev call ρ st (Ce.lst es)=R.bind (evs call ρ st es) λvs st1=>if CY vs<=sizeMax then R.ok (PV.lst vs) st1 else R.bad:=rfl
theorem ve13(call:Nat->List PV->SO->R PV)(ρ:Env)(st:SO)(es:Ces):
  ev call ρ st (Ce.newl es)=R.bind (evs call ρ st es) λvs st1=>if CY vs<=sizeMax then R.ok (PV.loc (CY st1)) (st1++[Ob.lst vs])else R.bad:=rfl
theorem ve15(call:Nat->List PV->SO->R PV)(ρ:Env)(st:SO)(t:Bool):
  ev call ρ st (Ce.dict0 t)=R.ok (PV.loc (CY st)) (st++[Ob.dct t []]):=rfl
theorem ve16(call:Nat->List PV->SO->R PV)(ρ:Env)(st:SO)(a i:Ce):
  ev call ρ st (Ce.idx a i)=R.bind (ev call ρ st a) λx st1=>R.bind (ev call ρ st1 i) λy st2=>toR (idxV st2 x y) st2:=rfl
theorem ve17(call:Nat->List PV->SO->R PV)(ρ:Env)(st:SO)(a l h:Ce):
  ev call ρ st (Ce.slc a l h)=R.bind (ev call ρ st a) λx st1=>R.bind (ev call ρ st1 l) λy st2=>onP (ybW y) λo=>R.bind (ev call ρ st2 h) λz st3=>toR (ycx x o z) st3:=rfl
theorem ve18(call:Nat->List PV->SO->R PV)(ρ:Env)(st:SO)(f:Nat)(es:Ces):
  ev call ρ st (Ce.call f es)=R.bind (evs call ρ st es) λvs st1=>call f vs st1:=rfl
theorem ve19(call:Nat->List PV->SO->R PV)(ρ:Env)(st:SO)(b:Blt)(es:Ces):
  ev call ρ st (Ce.blt b es)=R.bind (evs call ρ st es) λvs st1=>toR (yay b st1 vs) st1:=rfl
theorem ve20(call:Nat->List PV->SO->R PV)(ρ:Env)(st:SO)(m:Mth)(o:Ce)(es:Ces):
  ev call ρ st (Ce.mth m o es)=R.bind (ev call ρ st o) λx st1=>onO (yaO m st1 x) λx_1=>R.bind (evs call ρ st1 es) λvs st2=>ycl m st2 x vs:=rfl
theorem ve21(call:Nat->List PV->SO->R PV)(ρ:Env)(st:SO)(a:Ce)(ts:List Ty):
  ev call ρ st (Ce.isi a ts)=R.bind (ev call ρ st a) λx st1=>toR (ya5 x ts) st1:=rfl
theorem ve24(call:Nat->List PV->SO->R PV)(ρ:Env)(st:SO):
  ev call ρ st Ce.nope=R.bad:=rfl
theorem ve25(call:Nat->List PV->SO->R PV)(ρ:Env)(st:SO)(a:Ce):
  ev call ρ st (Ce.frz a)=R.bind (ev call ρ st a) λx st1=>yel x st1:=rfl
theorem ve28(call:Nat->List PV->SO->R PV)(ρ:Env)(st:SO)(D:List (AQ×PV))(a:Ce):
  ev call ρ st (Ce.dix D a)=R.bind (ev call ρ st a) λx st1=>toR (yeq D x) st1:=rfl
theorem ve32(call:Nat->List PV->SO->R PV)(ρ:Env)(st:SO)(c:Nat)(a:Ce)(f:AQ):
  ev call ρ st (Ce.fld c a f)=R.bind (ev call ρ st a) λx st1=>toR (ybD c st1 x f) st1:=rfl
theorem ve33(call:Nat->List PV->SO->R PV)(ρ:Env)(st:SO)(c i:Nat)(es:Ces):
  ev call ρ st (Ce.new c i es)=R.bind (evs call ρ st es) λvs st1=>R.bind (ybu (call i (PV.loc (CY st1)::vs) (st1++[Ob.ins c []]))) λv st2=>newV (CY st1) v st2:=rfl
theorem ve37(call:Nat->List PV->SO->R PV)(ρ:Env)(st:SO)(c i:Nat)(m:AQ)(o:Ce)
 (es:Ces):
  ev call ρ st (Ce.mcl c i m o es)=R.bind (ev call ρ st o) λx st1=>onO (yb5 c m st1 x) λx_1=>R.bind (evs call ρ st1 es) λvs st2=>call i (x::vs) st2:=rfl
end IC
namespace WK
open IC PySem
mutual
noncomputable def pvq:PV->PV->Bool
 |.non,.non=>AB
 |.bl a,.bl b=>a==b
 |.int i,.int j=>decide (i=j)
 |.str x,.str y=>decide (x=y)
 |.tp k xs,.tp l ys=>(k==l)&&ycj xs ys
 |.lst xs,.lst ys=>ycj xs ys
 |_,_=>AD
noncomputable def ycj:List PV->List PV->Bool
 |[],[]=>AB
 |x::xs,y::ys=>pvq x y&&ycj xs ys
 |_,_=>AD
end
mutual
theorem zjr:∀(a b:PV),pvq a b=AB->a=b
 |.non,b,h=>by cases b<;>simp[pvq]at h ⊢
 |.bl a,b,h=>by cases b<;>simp[pvq]at h ⊢;exact h
 |.int a,b,h=>by cases b<;>simp[pvq]at h ⊢;exact h
 |.str a,b,h=>by cases b<;>simp[pvq]at h ⊢;exact h
 |.tp k xs,b,h=>by
  cases b<;>simp[pvq]at h ⊢
  exact⟨h.1,zfd _ _ h.2⟩
 |.lst xs,b,h=>by
  cases b<;>simp[pvq]at h ⊢
  exact zfd _ _ h
 |.loc _,b,h=>by cases b<;>simp[pvq]at h
 |.exn _,b,h=>by cases b<;>simp[pvq]at h
 |.scr _,b,h=>by cases b<;>simp[pvq]at h
theorem zfd:∀(a b:List PV),ycj a b=AB->a=b
 |[],b,h=>by cases b<;>simp[ycj]at h ⊢
 |x::xs,b,h=>by
  cases b with
  |nil=>simp[ycj]at h
  |cons y ys=>
   simp[ycj]at h;rw[zjr x y h.1,zfd xs ys h.2]
end
def isOk(r:R PV)(v:PV):Bool:=match r with
 |.ok w []=>pvq w v
 |_=>AD
theorem zba{r:R PV}{v:PV}(h:isOk r v=AB):r=.ok v []:=by
 match r with
 |.ok w []=>rw[zjr w v h]
 |.ok w (_::_)=>simp[isOk]at h
 |.exc _ _=>simp[isOk]at h
 |.bad=>simp[isOk]at h
noncomputable def chS(c:Nat):Str:=⟨#[c]⟩
def yO(c:Nat)(i:Int):PV:=.tup [.str (chS c),.int i]
theorem zk0{c d:Nat}(h:chS c=chS d):c=d:=by
 have:=congrArg (λx=>x.cps) h;simpa [chS] using this
theorem zaW(c d:Nat)(i j:Int):peq (yO c i) (yO d j)=decide (c=d/\i=j):=by
 have h:(chS c==chS d)=decide (c=d):=by
  rw[Cu];simp;exact⟨zk0,λe=>by rw[e]⟩
 simp[yO,peq,ya6,h,Bool.decide_and]
 try rfl
noncomputable abbrev Mem:=Nat->Int->Int
noncomputable def upd(M:Mem)(c:Nat)(i v:Int):Mem:=λd j=>if d=c/\j=i then v else M d j
def ycn(kvs:List (PV×PV)):Prop:=∀p∈kvs,∃c i,p.1=yO c i
def Rel(kvs:List (PV×PV))(M:Mem):Prop:=∀c i,(look (yO c i) kvs).getD (.int 0)=.int (M c i)
theorem zfA(c:Nat)(i:Int)(v:PV)(d:Nat)(j:Int):∀kvs,ycn kvs->look (yO d j) (kvs.map λp=>if peq p.1 (yO c i)=AB then(p.1,v)else p)=if d=c/\j=i then(if (kvs.any λp=>peq p.1 (yO c i))=AB then AA v else AC)else look (yO d j) kvs
 |[],_=>by simp[look]
 |p::kvs,h=>by
  let⟨e,g,hp⟩:=h p BA;let⟨p1,p2⟩:=p;simp only at hp;subst hp;have ih:=zfA c i v d j kvs λq hq=>h q (AX _ hq);rw[AO,BH];erw[zaW]
  by_cases h1:e=c/\g=i
  .let⟨rfl,rfl⟩:=h1;erw[and_self,decide_true,if_true,look,zaW,Ea]
   by_cases h2:e=d/\g=j
   .let⟨rfl,rfl⟩:=h2;simp
   .have h3:¬(d=e/\j=g):=λz=>h2 ⟨z.1.symm,z.2.symm⟩;erw[h2,h3,decide_false,if_false,BU];rw[ih,if_neg h3]
  .simp only[h1,decide_false,FR,BU,if_false];rw[look,look];erw[zaW]
   by_cases h2:e=d/\g=j
   .let⟨rfl,rfl⟩:=h2;simp[h1]
   .simp only[h2,decide_false,BU,if_false];exact ih
theorem zfN(c:Nat)(i:Int)(v:PV)(d:Nat)(j:Int):∀kvs,ycn kvs->(kvs.any λp=>peq p.1 (yO c i))=AD->look (yO d j) (kvs++[(yO c i,v)])=if d=c/\j=i then AA v else look (yO d j) kvs
 |[],_,_=>by
  erw[Aw,look,zaW]
  by_cases h2:c=d/\i=j
  .let⟨rfl,rfl⟩:=h2;simp
  .have h3:¬(d=c/\j=i):=λz=>h2 ⟨z.1.symm,z.2.symm⟩;simp[h2,h3]
 |p::kvs,h,hn=>by
  let⟨e,g,hp⟩:=h p BA;let⟨p1,p2⟩:=p;simp only at hp;subst hp;rw[BH,Bool.or_eq_false_iff]at hn;have ih:=zfN c i v d j kvs (λq hq=>h q (AX _ hq)) hn.2;have h1:¬(e=c/\g=i):=by simpa [zaW] using hn.1
  rw[Ao,look,look];erw[zaW]
  by_cases h2:e=d/\g=j
  .let⟨rfl,rfl⟩:=h2;simp[h1]
  .simp only[h2,decide_false,BU,if_false];exact ih
theorem zif(c:Nat)(i:Int)(v:PV)(d:Nat)(j:Int)(kvs:List (PV×PV))(h:ycn kvs):look (yO d j) (put (yO c i) v kvs)=if d=c/\j=i then AA v else look (yO d j) kvs:=by
 unfold put;split
 .rename_i z;rw[zfA _ _ _ _ _ _ h,z,if_pos rfl]
 .rename_i z;exact zfN _ _ _ _ _ _ h (by simpa using z)
theorem ziA{c:Nat}{i:Int}{v:PV}{kvs:List (PV×PV)}(h:ycn kvs):ycn (put (yO c i) v kvs):=by
 unfold put;split
 .intro p hp;let⟨q,hq,rfl⟩:=List.mem_map.1 hp;let⟨e,g,he⟩:=h q hq;refine⟨e,g,?_⟩;split
  .exact he
  .exact he
 .intro p hp;rcases Cr.1 hp with hp|hp
  .exact h p hp
  .simp at hp;exact⟨c,i,by rw[hp]⟩
theorem zjJ{c:Nat}{i v:Int}{kvs:List (PV×PV)}{M:Mem}(h:ycn kvs)(r:Rel kvs M):Rel (put (yO c i) (.int v) kvs) (upd M c i v):=by
 intro d j;rw[zif _ _ _ _ _ _ h];unfold upd;split
 .rfl
 .exact r d j
theorem zj4{k v:PV}{kvs:List (PV×PV)}:(put k v kvs).length<=kvs.length+1:=by
 unfold put;split
 .simp
 .simp
theorem zfw(c:Nat)(i:Int):isKey AB (yO c i)=true:=rfl
structure Dc(st:SO)(n:Nat)(M:Mem)(L:Nat):Prop where
 ex:∃kvs,st[n]?=AA (.dct AB kvs)/\ycn kvs/\Rel kvs M/\kvs.length<=L
theorem ziy{st:SO}{n L:Nat}{M:Mem}(h:Dc st n M L)(c:Nat)(i:Int):ydm st (.loc n) (yO c i) (.int 0)=.ok (.int (M c i)) st:=by
 let⟨kvs,h1,h2,h3,h4⟩:=h;erw[ydm,yaZ,h1,zfw,if_true,h3 c i]
theorem zis{st:SO}{n L:Nat}{M:Mem}(h:Dc st n M L)(hL:L<999999)(c:Nat)(i v:Int):∃kvs,ya0 st (.loc n) (yO c i) (.int v)=AA (st.set n (.dct AB kvs))/\Dc (st.set n (.dct AB kvs)) n (upd M c i v) (L+1):=by
 let⟨kvs,h1,h2,h3,h4⟩:=h;have hn:n<st.length:=by
  rcases DI n st.length with z|z
  .exact z
  .rw[BO z]at h1;cases h1
 refine⟨put (yO c i) (.int v) kvs,?_,⟨_,A8 hn,ziA h2,zjJ h2 h3,BQ zj4 (by lia)⟩⟩;have h5:kvs.length<1000000:=by lia
 erw[ya0,h1,zfw,h5,and_self,if_true]
noncomputable abbrev Cel:=Nat×Int
def yah(x:Cel):PV:=yO x.1 x.2
inductive Rw where
 |mark (d:Int)|ask (x:Cel)|set (t:Cel) (d:Int)|move (t x:Cel)|bare (t x:Cel)|twice (t x:Cel)|half (t x:Cel)
 |sum (t x y:Cel)|less (t x y:Cel)|both (t x y:Cel)|any (t x y:Cel)|odd (t x y:Cel)
def yaA:Rw->PV
 |.mark d=>.tup [.str "mark",.int d]
 |.ask x=>.tup [.str "ask",yah x]
 |.set t d=>.tup [.str "set",yah t,.int d]
 |.move t x=>.tup [.str "move",yah t,yah x]
 |.bare t x=>.tup [.str "bare",yah t,yah x]
 |.twice t x=>.tup [.str "twice",yah t,yah x]
 |.half t x=>.tup [.str "half",yah t,yah x]
 |.sum t x y=>.tup [.str "sum",yah t,yah x,yah y]
 |.less t x y=>.tup [.str "less",yah t,yah x,yah y]
 |.both t x y=>.tup [.str "both",yah t,yah x,yah y]
 |.any t x y=>.tup [.str "any",yah t,yah x,yah y]
 |.odd t x y=>.tup [.str "odd",yah t,yah x,yah y]
noncomputable def rd(M:Mem)(x:Cel):Int:=M x.1 x.2
def wr(M:Mem)(x:Cel)(v:Int):Mem:=upd M x.1 x.2 v
def stepM(W:Int)(M:Mem)(k:Int):Rw->Mem×Int
 |.mark d=>(M,d)
 |.ask x=>(M,bi (!(rd M x==0)))
 |.set t d=>(wr M t d,k)
 |.move t x=>(wr M t (rd M x),k)
 |.bare t x=>(wr M t (W-1-rd M x),k)
 |.twice t x=>(wr M t ((2*rd M x+k)%W),(2*rd M x+k)/W)
 |.half t x=>(wr M t (rd M x/2+k*(W/2)),rd M x%2)
 |.sum t x y=>(wr M t ((rd M x+rd M y+k)%W),(rd M x+rd M y+k)/W)
 |.less t x y=>(wr M t ((rd M x-rd M y-k)%W),bi (decide (rd M x-rd M y-k<0)))
 |.both t x y=>(wr M t (Ab (rd M x) (rd M y)),k)
 |.any t x y=>(wr M t (BD (rd M x) (rd M y)),k)
 |.odd t x y=>(wr M t (Ax (rd M x) (rd M y)),k)
def yq(W:Int):List Rw->Mem->Int->Mem×Int
 |[],M,k=>(M,k)
 |r::rs,M,k=>yq W rs (stepM W M k r).1 (stepM W M k r).2
theorem zG(W:Int):∀(a b:List Rw) (M:Mem) (k:Int),yq W (a++b) M k=yq W b (yq W a M k).1 (yq W a M k).2
 |[],b,M,k=>rfl
 |r::a,b,M,k=>by rw[Ao,yq,zG W a b,yq]
theorem zim{st:SO}{n:Nat}{o:Ob}(h:st[n]?=AA o):st=st.set n o:=by
 refine EG λi=>?_;rw[C7];split
 .rename_i e;subst e;split
  .exact h
  .rename_i z;rw[BO (by lia)]at h
   cases h
 .rfl
theorem zcP(i:Int):shp (.int i)=true:=rfl
section
variable {st:SO}{k:Bool}{a b c d e:PV}{r:List PV}{i j:Int}
theorem ix0:idxV st (.tp k (a::r)) (.int 0)=AA a:=by simp[idxV,yaS,at?,ixI]
theorem ix1:idxV st (.tp k (a::b::r)) (.int 1)=AA b:=by
 have:(1:Int)<(r.length:Int)+1+1:=by lia
 simp[idxV,yaS,at?,ixI,this]
theorem ix2:idxV st (.tp k (a::b::c::r)) (.int 2)=AA c:=by
 have:(2:Int)<(r.length:Int)+1+1+1:=by lia
 simp[idxV,yaS,at?,ixI,this]
theorem b_add:yr .add (.int i) (.int j)=AA (.int (i+j)):=rfl
theorem b_sub:yr .sub (.int i) (.int j)=AA (.int (i-j)):=rfl
theorem zkh(h:i.natAbs<18446744073709551616 \/ j.natAbs<18446744073709551616):yr .mul (.int i) (.int j)=AA (.int (i*j)):=by
 have:yaw i j=true:=by simpa [yaw] using h
 simp[yr,binI,this]
theorem zej(h:i.natAbs<18446744073709551616):yr .mul (.int i) (.int j)=AA (.int (i*j)):=zkh (.inl h)
theorem zeh(h:j.natAbs<18446744073709551616):yr .mul (.int i) (.int j)=AA (.int (i*j)):=zkh (.inr h)
theorem b_mul2:yr .mul (.int 2) (.int j)=AA (.int (2*j)):=zkh (.inl (by decide))
theorem zgV(h:0<j)(h2:j<18446744073709551616*18446744073709551616):yr .fdiv (.int i) (.int j)=AA (.int (i/j)):=by
 have h3:j<10000000000000000000000000000000000000000000000000000000000000000000000:=by lia
 simp[yr,binI,h,h3]
theorem b_div2:yr .fdiv (.int i) (.int 2)=AA (.int (i/2)):=rfl
theorem zhL(h:0<j):yr .mod (.int i) (.int j)=AA (.int (i%j)):=by simp[yr,binI,h]
theorem zly:yr .mod (.int i) (.int 2)=AA (.int (i%2)):=rfl
theorem zmF:yr .band (.int i) (.int j)=AA (.int (Ab i j)):=rfl
theorem yec:yr .bor (.int i) (.int j)=AA (.int (BD i j)):=rfl
theorem zmm:yr .bxor (.int i) (.int j)=AA (.int (Ax i j)):=rfl
theorem toR_some{v:PV}:toR (AA v) st=.ok v st:=rfl
theorem c_ne:yx .ne (.int i) (.int j)=AA (.bl (!(i==j))):=by simp[yx,zcP,peq]
theorem c_eq:yx .eq (.int i) (.int j)=AA (.bl (i==j)):=by simp[yx,zcP,peq]
theorem c_lt:yx .lt (.int i) (.int j)=AA (.bl (decide (i<j))):=rfl
theorem c_le:yx .le (.int i) (.int j)=AA (.bl (decide (i<=j))):=rfl
theorem c_gt:yx .gt (.int i) (.int j)=AA (.bl (decide (j<i))):=rfl
theorem c_ge:yx .ge (.int i) (.int j)=AA (.bl (decide (j<=i))):=rfl
theorem t_bl{b:Bool}:yaF st (.bl b)=AA b:=rfl
theorem on_t{f:Bool->Fl}{b:Bool}:onF (AA b) f=f b:=rfl
theorem ono{α:Type}{f:Bool->R α}{b:Bool}:onO (AA b) f=f b:=rfl
theorem zax{ρ:IC.Env}:stO ρ (AA st)=.nx ρ st:=rfl
theorem nxO_some{ρ:IC.Env}:nxO (AA ρ) st=.nx ρ st:=rfl
theorem fl_ok{α:Type}{a:α}{ρ:IC.Env}{k:α->SO->Fl}:(R.ok a st).fl ρ k=k a st:=rfl
theorem bd_ok{α β:Type}{a:α}{k:α->SO->R β}:(R.ok a st).bind k=k a st:=rfl
theorem th_nx{ρ:IC.Env}{k:IC.Env->SO->Fl}:yap (.nx ρ st) k=k ρ st:=rfl
theorem th_rt{v:PV}{k:IC.Env->SO->Fl}:yap (.rt v st) k=.rt v st:=rfl
theorem fl_exc{α:Type}{c:Nat}{ρ:IC.Env}{k:α->SO->Fl}:(R.exc c st:R α).fl ρ k=.exc c ρ st:=rfl
theorem bd_exc{α β:Type}{c:Nat}{k:α->SO->R β}:(R.exc c st:R α).bind k=.exc c st:=rfl
theorem th_exc{c:Nat}{ρ:IC.Env}{k:IC.Env->SO->Fl}:yap (.exc c ρ st) k=.exc c ρ st:=rfl
theorem noLocs_ints:∀(l:List Int),nLs (l.map PV.int)=AB
 |[]=>rfl
 |_::l=>by simp[nLs,nL,noLocs_ints l]
theorem zkT{x:PV}:yay .int st [x]=yeg x:=rfl
theorem zng{b:Bool}:yeg (.bl b)=AA (.int (bi b)):=rfl
theorem bT_n{i:Nat}{v:PV}{ρ:IC.Env}:yH (.n i) v ρ=AA (ρ.set i (AA v)):=rfl
end
theorem zm5:∀(n x y:Nat),x<=n->(x ^^^ y)+(x &&& y)=x ||| y
 |n,x,y,h=>by
  by_cases hx:x=0
  .subst hx;simp
  .have ih:=zm5 (n-1) (x/2) (y/2) (by lia);rw[<-Nat.xor_div_two,<-Nat.and_div_two,<-Nat.or_div_two]at ih;have m1:(x ^^^ y)%2=((x%2) ^^^ (y%2)):=by
    have:=FH (a:=x) (b:=y) (n:=1);simpa using this
   have m2:(x &&& y)%2=((x%2) &&& (y%2)):=by
    have:=FI (a:=x) (b:=y) (n:=1);simpa using this
   have m3:(x ||| y)%2=((x%2) ||| (y%2)):=by
    have:=F3 (a:=x) (b:=y) (n:=1);simpa using this
   rcases Dr x with a|a<;>rcases Dr y with b|b<;>rw[a,b]at m1 m2 m3<;>erw[Nat.reduceXor,Nat.reduceAnd,Nat.reduceOr]at m1 m2 m3<;>lia
theorem zdc(x y:Nat):Ab (x:Int) (y:Int)=((x &&& y:Nat):Int):=by
 simp[Ab]
theorem zbZ(x y:Nat):BD (x:Int) (y:Int)=((x ||| y:Nat):Int):=by
 have h1:¬(0:Int)<=-(x:Int)-1:=by lia
 have h2:¬(0:Int)<=-(y:Int)-1:=by lia
 have h3:(-(-(x:Int)-1)-1).toNat=x:=by lia
 have h4:(-(-(y:Int)-1)-1).toNat=y:=by lia
 erw[BD,Ab,Ew,h1,h2,decide_false,h3,h4];lia
theorem zev(x y:Nat):Ax (x:Int) (y:Int)=((x ^^^ y:Nat):Int):=by
 have:=zm5 x x y (AU x);rw[Ax,zbZ,zdc];lia
theorem pw(w:Nat):((2^w:Nat):Int)=2^w:=by simp
theorem zjk{w:Nat}{a b:Int}(a0:0<=a)(b0:0<=b)(b1:b<2^w):0<=Ab a b/\Ab a b<2^w:=by
 obtain⟨x,rfl⟩:∃n:Nat,a=n:=⟨a.toNat,by lia⟩;obtain⟨y,rfl⟩:∃n:Nat,b=n:=⟨b.toNat,by lia⟩;rw[zdc];rw[<-pw]at b1 ⊢;exact⟨by lia,by exact_mod_cast Ds x (by lia:y<2^w)⟩
theorem zfs{w:Nat}{a b:Int}(a0:0<=a)(a1:a<2^w)(b0:0<=b)(b1:b<2^w):0<=Ax a b/\Ax a b<2^w:=by
 obtain⟨x,rfl⟩:∃n:Nat,a=n:=⟨a.toNat,by lia⟩;obtain⟨y,rfl⟩:∃n:Nat,b=n:=⟨b.toNat,by lia⟩;rw[zev];rw[<-pw]at a1 b1 ⊢;exact⟨by lia,by exact_mod_cast Dt (by lia:x<2^w) (by lia:y<2^w)⟩
theorem zjp{w:Nat}{a b:Int}(a0:0<=a)(a1:a<2^w)(b0:0<=b)(b1:b<2^w):0<=BD a b/\BD a b<2^w:=by
 obtain⟨x,rfl⟩:∃n:Nat,a=n:=⟨a.toNat,by lia⟩;obtain⟨y,rfl⟩:∃n:Nat,b=n:=⟨b.toNat,by lia⟩;rw[zbZ];rw[<-pw]at a1 b1 ⊢;exact⟨by lia,by exact_mod_cast Fk (by lia:x<2^w) (by lia:y<2^w)⟩
theorem zjR{a b:Int}(a0:0<=a)(b0:0<=b):BD a b=0 ↔ a=0/\b=0:=by
 obtain⟨x,rfl⟩:∃n:Nat,a=n:=⟨a.toNat,by lia⟩;obtain⟨y,rfl⟩:∃n:Nat,b=n:=⟨b.toNat,by lia⟩;rw[zbZ];have:=Nat.or_eq_zero_iff (n:=x) (m:=y);lia
theorem zbJ{w x:Nat}(h:x<2^(w+1)):(2*(x:Int))/2^(w+1)=((x/2^w:Nat):Int)/\(x/2^w=0 \/ x/2^w=1):=by
 have hp:0<2^w:=GP (by lia);constructor
 .rw[<-pw];have:(2*x)/2^(w+1)=x/2^w:=by
   rw[Fm,Gw 2 x,Nat.mul_div_mul_right _ _ (by lia)]
  rw[<-this];rfl
 .have:x/2^w<2:=Nat.div_lt_of_lt_mul (by rw[Fm]at h;lia);generalize x/2^w=q at this;lia
noncomputable def tb(w:Nat)(a:Int):Int:=(2*a)/2^w
theorem zlY{w:Nat}(hw:0<w){a b:Int}(a0:0<=a)(a1:a<2^w)(b0:0<=b)(b1:b<2^w):tb w (Ab a b)=tb w a*tb w b:=by
 obtain⟨x,rfl⟩:∃n:Nat,a=n:=⟨a.toNat,by lia⟩;obtain⟨y,rfl⟩:∃n:Nat,b=n:=⟨b.toNat,by lia⟩;obtain⟨w,rfl⟩:∃v,w=v+1:=⟨w-1,by lia⟩;rw[<-pw]at a1 b1;have hx:=zbJ (show x<2^(w+1)by lia);have hy:=zbJ (show y<2^(w+1)by lia);have hz:=zbJ (Ds x (show y<2^(w+1)by lia));rw[zdc,tb,tb,tb,hx.1,hy.1,hz.1,FJ];rcases hx.2 with e|e<;>rcases hy.2 with f|f<;>rw[e,f]<;>rfl
theorem zji{w:Nat}(hw:0<w){a b:Int}(a0:0<=a)(a1:a<2^w)(b0:0<=b)(b1:b<2^w):tb w (Ax a b)=(tb w a+tb w b)%2:=by
 obtain⟨x,rfl⟩:∃n:Nat,a=n:=⟨a.toNat,by lia⟩;obtain⟨y,rfl⟩:∃n:Nat,b=n:=⟨b.toNat,by lia⟩;obtain⟨w,rfl⟩:∃v,w=v+1:=⟨w-1,by lia⟩;rw[<-pw]at a1 b1;have hx:=zbJ (show x<2^(w+1)by lia);have hy:=zbJ (show y<2^(w+1)by lia);have hz:=zbJ (Dt (show x<2^(w+1)by lia) (show y<2^(w+1)by lia));rw[zev,tb,tb,tb,hx.1,hy.1,hz.1,FK];rcases hx.2 with e|e<;>rcases hy.2 with f|f<;>rw[e,f]<;>rfl
theorem zm1{w:Nat}(hw:0<w){a:Int}(a0:0<=a)(a1:a<2^w):tb w a=if 2^w<=2*a then 1 else 0:=by
 have h1:(0:Int)<2^w:=A9 (by lia);unfold tb;split
 .rename_i h;exact Int.le_antisymm (Int.le_of_lt_add_one (BP h1 (by lia))) (C6 h1 (by lia))
 .exact BG (by lia) (by lia)
theorem zd2(ys:List PV)(h:ys.length<=1000000)(st:SO):ybV (.ok ys st)=.ok (.lst ys) st:=by simp[ybV,h]
theorem zaw(n:Nat)(h:n<1000):ybM (.int (n:Int))=AA (yh n 0 1):=by
 simp[ybM];lia
theorem zav{z:Int}(h:0<=z):∃n:Nat,z=n:=⟨z.toNat,by lia⟩
def ybc(st:SO)(f:Fl):R PV:=
 match f with
 |.rt v _=>if nL v then .ok v st else .bad
 |.nx _ _=>.ok .non st
 |.exc c _ _=>.exc c st
 |_=>.bad
theorem zc{T:Nat->Option IC.Fn}{k f:Nat}{fn:IC.Fn}{args:List PV}{st:SO}(hT:T f=AA fn)(hp:fn.pure=AB)(hl:args.length=fn.np)(hn:nLs args=AB):
  yc T (k+1) f args st=ybc st (exs (yc T k) (args.map AA++Ac (fn.ns-fn.np) AC) [] fn.body):=by
 rw[yc,hT];dsimp only;rw[if_pos hl,if_pos hp,if_pos hn];rfl
def outI(f:Fl):R PV:=
 match f with
 |.rt v st1=>.ok v st1
 |.nx _ st1=>.ok .non st1
 |.exc c _ st1=>.exc c st1
 |_=>.bad
theorem zz{T:Nat->Option IC.Fn}{k f:Nat}{fn:IC.Fn}{args:List PV}{st:SO}(hT:T f=AA fn)(hp:fn.pure=AD)(hl:args.length=fn.np):
  yc T (k+1) f args st=outI (exs (yc T k) (args.map AA++Ac (fn.ns-fn.np) AC) st fn.body):=by
 rw[yc,hT];dsimp only;rw[if_pos hl,hp,if_neg (by simp)];rfl
theorem zfL{st:SO}{v:PV}:outI (.rt v st)=.ok v st:=rfl
theorem zl8{st s:SO}{b:Bool}:ybc st (.rt (.bl b) s)=.ok (.bl b) st:=rfl
theorem zkZ{st s:SO}{b:Int}:ybc st (.rt (.int b) s)=.ok (.int b) st:=rfl
noncomputable def yas:PV:=.tup [.int 2147483647,.int 2147483629,.int 2147483587,.int 2147483579,.int 2147483563]
noncomputable def ycS:Css:=match yav.body with
 |.cons _ (.cons _ (.cons (.for _ _ b) _))=>b
 |_=>.nil
theorem zcp{c:Cl}{s num g p:Int}{i:Nat}{u5 u6 u7:Option PV}(hg:∀st,idxV st (.tup [.int 11,.int 101,.int 1009,.int 10007,.int 100003]) (.int i)=AA (.int g))(hi:i<5)(hp:0<p)(hp2:p<18446744073709551616):
  ∃num' v5 v6 v7,exs c [AA (.int s),AA yas,AA (.int num),AA (.int i),AA (.int p),u5,u6,u7] [] ycS=.nx [AA (.int s),AA yas,AA (.int num'),AA (.int i),AA (.int p),v5,v6,v7] []:=by
 have h1:∀z:Int,yr .mul (.int z) (.int (48271+2*(i:Int)))=AA (.int (z*(48271+2*(i:Int)))):=λz=>zeh (by lia);have h2:∀z y:Int,yr .mul (.int z) (.int (y%p))=AA (.int (z*(y%p))):=λz y=>zeh (by
  have a:=Ak y (show p≠0 by lia);have b:=Aa y hp;lia)
 have h3:∀z:Int,yr .mul (.int z) (.int p)=AA (.int (z*p)):=λz=>zeh (by lia);erw[ycS,yav,AT,Ap,BJ,Bd,if_true,xs_cons,xs_nil,x_asg,IC.ve1,IC.ve2,IC.ve3,IC.ve11,IC.ve16,evs,AM,AL,bd_ok,fl_ok,toR_some,bT_n,nxO_some,th_nx,A1,A2,sizeMax,Cj,b_add,b_mul2,hg,h1,h2,h3,zhL hp];exact⟨_,_,_,_,rfl⟩
theorem zie{c:Cl}{s num:Int}{u5 u6 u7:Option PV}(i:Nat)(p:Int)(h:(i,p)∈[(0,(2147483647:Int)),(1,2147483629),(2,2147483587),(3,2147483579),(4,2147483563)]):
  ∃num' v5 v6 v7,exs c [AA (.int s),AA yas,AA (.int num),AA (.int i),AA (.int p),u5,u6,u7] [] ycS=.nx [AA (.int s),AA yas,AA (.int num'),AA (.int i),AA (.int p),v5,v6,v7] []:=by
 erw[Ad,Prod.mk.injEq,CV,or_false]at h;rcases h with⟨rfl,rfl⟩|⟨rfl,rfl⟩|⟨rfl,rfl⟩|⟨rfl,rfl⟩|⟨rfl,rfl⟩
 .exact zcp (λ_=>rfl) (by decide) (by decide) (by decide)
 .exact zcp (λ_=>rfl) (by decide) (by decide) (by decide)
 .exact zcp (λ_=>rfl) (by decide) (by decide) (by decide)
 .exact zcp (λ_=>rfl) (by decide) (by decide) (by decide)
 .exact zcp (λ_=>rfl) (by decide) (by decide) (by decide)
noncomputable def ydk:List PV:=[.tup [.int 0,.int 2147483647],.tup [.int 1,.int 2147483629],.tup [.int 2,.int 2147483587],.tup [.int 3,.int 2147483579],.tup [.int 4,.int 2147483563]]
theorem mixed(k:Nat)(s:Int)(st:SO):∃num,yc T (k+1) zdE [.int s] st=.ok (.int num) st:=by
 let⟨ρ',st',h,num,a,b,c,d,e,e1,e2⟩:=zdx (call:=yc T k) (t:=.t [3,4]) (b:=ycS) (λ_ ρ st=>∃num a b c d e,ρ=[AA (.int s),AA yas,AA (.int num),a,b,c,d,e]/\st=[]) ydk 0 [AA (.int s),AA yas,AA (.int 0),AC,AC,AC,AC,AC] [] ⟨_,_,_,_,_,_,rfl,rfl⟩ (by
  rintro j x ρ st hx ⟨num,a,b,c,d,e,rfl,rfl⟩
  have hx:=A4 hx;have hx:∃i p,x=.tup [.int ((i:Nat):Int),.int p]/\(i,p)∈[(0,(2147483647:Int)),(1,2147483629),(2,2147483587),(3,2147483579),(4,2147483563)]:=by
   erw[ydk,Ad,CV,or_false]at hx;rcases hx with rfl|rfl|rfl|rfl|rfl
   .exact⟨0,_,rfl,by simp⟩
   .exact⟨1,_,rfl,by simp⟩
   .exact⟨2,_,rfl,by simp⟩
   .exact⟨3,_,rfl,by simp⟩
   .exact⟨4,_,rfl,by simp⟩
  let⟨i,p,rfl,hm⟩:=hx;let⟨num',v5,v6,v7,hh⟩:=zie (c:=yc T k) (s:=s) (num:=num) (u5:=c) (u6:=d) (u7:=e) i p hm;exact⟨_,_,_,rfl,hh,_,_,_,_,_,_,rfl,rfl⟩)
 subst e1 e2;refine⟨num,?_⟩;rw[yc];have hb:yav.body=.cons (.asg (.n 1) (.tup (.cons (.cst (.int 2147483647)) (.cons (.cst (.int 2147483629)) (.cons (.cst (.int 2147483587)) (.cons (.cst (.int 2147483579)) (.cons (.cst (.int 2147483563)) .nil))))))) (.cons (.asg (.n 2) (.cst (.int 0))) (.cons (.for (.t [3,4]) (.enum (.var 1)) ycS) (.cons (.ret (.var 2)) .nil))):=rfl;have hT:T zdE=AA ⟨1,8,AB,yav.body⟩:=rfl;have hp:PV.tup [.int 2147483647,.int 2147483629,.int 2147483587,.int 2147483579,.int 2147483563]=yas:=rfl;rw[hT,hb];have h5:ev (yc T k) [AA (.int s),AC,AC,AC,AC,AC,AC,AC] [] (.tup (.cons (.cst (.int 2147483647)) (.cons (.cst (.int 2147483629)) (.cons (.cst (.int 2147483587)) (.cons (.cst (.int 2147483579)) (.cons (.cst (.int 2147483563)) .nil))))))=.ok yas []:=by
  simp[IC.ve1,IC.ve11,evs,R.bind,sizeMax,yas]
 have he:evi (yc T k) [AA (.int s),AA yas,AA (.int 0),AC,AC,AC,AC,AC] [] (.enum (.var 1))=.ok ydk []:=by
  simp[evi,IC.ve2,R.bind,yas,yQ,ydk]
 erw[AT,Ap,if_true,nLs,nL,CN,AO,Ar,B7,Ac,Ao,Aw,xs_cons,xs_nil,x_asg,x_for,x_ret,h5,R.fl,yH,nxO,yap,A1,A2,IC.ve1,he,h,IC.ve2,AM,AL]
set_option backward.eqns.nonrecursive true
local macro_rules | `(tactic| simp! [$xs,*])=>do
 let l<-("IC.xs_cons IC.xs_nil IC.x_asg IC.x_ite IC.x_ret IC.x_expr IC.x_for IC.x_six IC.evs IC.evi IC.ve1 IC.ve2 IC.ve3 IC.ve4 IC.ve5 IC.ve6 IC.ve7 IC.ve8 IC.ve9 IC.ve10 IC.ve11 IC.ve12 IC.ve13 IC.ve15 IC.ve16 IC.ve17 IC.ve18 IC.ve19 IC.ve20 IC.ve21 IC.ve24 IC.ve25 IC.ve28 IC.v_comp List.getElem?_cons_zero List.getElem?_cons_succ WK.bd_ok WK.fl_ok WK.bd_exc WK.fl_exc WK.toR_some IC.toL WK.bT_n WK.nxO_some WK.th_nx WK.th_rt WK.th_exc List.set_cons_zero List.set_cons_succ WK.on_t WK.t_bl WK.ono IC.onBl cond_true cond_false List.length_cons List.length_nil Nat.zero_add Nat.reduceAdd Nat.reduceSub Nat.reduceLeDiff if_true IC.nL IC.nLs WK.noLocs_ints Bool.and_self Bool.not_true Bool.not_false List.map_cons List.map_nil List.replicate List.cons_append List.nil_append List.append_nil Option.bind_none Option.bind_some Option.join_some WK.b_add WK.b_sub WK.b_mul2 WK.b_div2 WK.c_lt WK.c_le WK.c_gt WK.c_ge WK.c_eq WK.c_ne IC.PV.tup IC.sizeMax".splitOn " ").toArray.mapM λs=>`(Lean.Parser.Tactic.simpLemma| $(Lean.mkIdent s.toName):term)
 `(tactic| simp only[$l,*,$xs,*])
theorem rdS{st:SO}{n:Nat}{o x:Ob}(h:st[n]?=AA o):(st.set n x)[n]?=AA x:=by
 have:n<st.length:=by
  rcases DI n st.length with h1|h1
  .exact h1
  .rw[BO h1]at h;cases h
 rw[A8 this]
theorem znt(ns:List Int)(a:Int)(h:ns≠[]):∃v,yaS (ns.map PV.int) (.int (a%(ns.length:Int)))=AA (.int v):=by
 have h0:0<ns.length:=FL.2 h;have h1:=Ak a (show (ns.length:Int)≠0 by lia);have h2:=Aa a (show (0:Int)<ns.length by lia);have h3:(a%(ns.length:Int)).toNat<ns.length:=by lia
 refine⟨ns[(a%(ns.length:Int)).toNat],?_⟩;simp[yaS,at?,ixI,h1,h2,h3]
noncomputable def flT:Css:=match yad.body with
 |.cons _ (.cons _ (.cons _ t))=>t
 |x=>x
noncomputable abbrev flS(l:PV)(a p:Int)(f:Bool):Ob:=.lst [l,.int a,.int p,.bl f]
theorem znX{st:SO}{n:Nat}{l:PV}{a p v:Int}{f:Bool}(h:st[n]?=AA (flS l a p f)):ybk st (.loc n) (.int 1) (.int v)=AA (st.set n (flS l v p f)):=by erw[ybk,h];rfl
theorem znR{st:SO}{n:Nat}{l:PV}{a p v:Int}{f:Bool}(h:st[n]?=AA (flS l a p f)):ybk st (.loc n) (.int 2) (.int v)=AA (st.set n (flS l a v f)):=by erw[ybk,h];rfl
theorem znz{st:SO}{n:Nat}{l:PV}{a p:Int}{f g:Bool}(h:st[n]?=AA (flS l a p f)):ybk st (.loc n) (.int 3) (.bl g)=AA (st.set n (flS l a p g)):=by erw[ybk,h];rfl
theorem yf9{st:SO}{n:Nat}{l:PV}{a p:Int}{f:Bool}(h:st[n]?=AA (flS l a p f)):idxV st (.loc n) (.int 0)=AA l:=by erw[idxV,h];rfl
theorem ygw{st:SO}{n:Nat}{l:PV}{a p:Int}{f:Bool}(h:st[n]?=AA (flS l a p f)):idxV st (.loc n) (.int 1)=AA (.int a):=by erw[idxV,h];rfl
theorem yfm{st:SO}{n:Nat}{l:PV}{a p:Int}{f:Bool}(h:st[n]?=AA (flS l a p f)):idxV st (.loc n) (.int 3)=AA (.bl f):=by erw[idxV,h];rfl
theorem p18:yr .pow (.int 10) (.int 18)=AA (.int 1000000000000000000):=by ac_rfl
theorem zfm(k n:Nat){l:PV}{m a v p q:Int}{f g:Bool}{st:SO}(h:st[n]?=AA (flS l a p f))(hl:∀st,yay .len st [l]=AA (.int m))(hg:(decide (a ≥ m) || decide (v<1000000000000000000))=g)
  (h1:g=AB->yc T (k+1) zdE [.int v] (st.set n (flS l (a+1) p AB))=.ok (.int q) (st.set n (flS l (a+1) p AB))) (h2:g=AD->q=v-1000000000000000000):
  exs (yc T (k+1)) [AA (.loc n),AA l,AA (.int a),AA (.int v)] st flT=.nx [AA (.loc n),AA l,AA (.int a),AA (.int v)] (st.set n (flS l (a+1) q g)):=by
 have s1:=znX h (v:=a+1);have r1:=rdS h (x:=flS l (a+1) p f);have s2:=znz r1 (g:=g);have r2:=rdS r1 (x:=flS l (a+1) p g);have s3:=znR r2 (v:=q);have i3:=yfm r2;rw[DJ]at s2 s3 i3 r2;rw[DJ]at s3
 have hb:flT=(match flT with
  |.cons a (.cons (.six x y _) r)=>.cons a (.cons (.six x y (.or (.cmp .ge (.var 2) (.blt .len (.cons (.var 1) .nil))) (.cmp .lt (.var 3) (.bin .pow (.cst (.int 10)) (.cst (.int 18)))))) r)
  |x=>x):=rfl
 have hor:∀st,ev (yc T (k+1)) [AA (.loc n),AA l,AA (.int a),AA (.int v)] st (.or (.cmp .ge (.var 2) (.blt .len (.cons (.var 1) .nil))) (.cmp .lt (.var 3) (.bin .pow (.cst (.int 10)) (.cst (.int 18)))))=.ok (.bl g) st:=λst=>by
  cases c:decide (a ≥ m)
  .rw[c,FR]at hg;simp! [hl,c,p18,hg]
  .rw[c,Ea]at hg;subst hg;simp! [hl,c]
 generalize hE:(Ce.or (.cmp .ge (.var 2) (.blt .len (.cons (.var 1) .nil))) (.cmp .lt (.var 3) (.bin .pow (.cst (.int 10)) (.cst (.int 18)))))=E at *
 cases g with
 |true=>
  have h1:=h1 rfl;rw[hb];simp! [flT,yad,stO,s1,hor,s2,i3,h1,s3]
 |false=>
  have h2:=h2 rfl;subst h2;rw[hb];simp! [flT,yad,stO,s1,hor,s2,i3,p18,s3]
theorem fill(k n:Nat)(ns:List Int)(hns:ns.length<=1000)(a p:Int)(ha:0<=a)(f:Bool)(st:SO)(h:st[n]?=AA (.lst [.lst (ns.map .int),.int a,.int p,.bl f])):
  ∃p' f',yc T (k+2) zhq [.loc n] st=.ok .non (st.set n (.lst [.lst (ns.map .int),.int (a+1),.int p',.bl f'])):=by
 have hT:T zhq=AA ⟨1,4,AD,yad.body⟩:=rfl;have hl:∀st,yay .len st [.lst (ns.map .int)]=AA (.int (ns.length:Int)):=λst=>by
  show AA (PV.int (((ns.map PV.int).length:Nat):Int))=_;simp
 have i0:=yf9 h;have i1:=ygw h;have bt:∀(a b:PV) (ρ:IC.Env),yH (.t [1,2]) (.tp AD [a,b]) ρ=AA ((ρ.set 1 (AA a)).set 2 (AA b)):=λ_ _ _=>rfl
 have hb:yad.body=(match yad.body with
  |.cons a (.cons b (.cons c _))=>.cons a (.cons b (.cons c flT))
  |x=>x):=rfl
 have m31:yr .mul (.int 31) (.int a)=AA (.int (31*a)):=zej (by decide);obtain⟨v,hv⟩:∃v,exs (yc T (k+1)) [AA (.loc n),AC,AC,AC] st yad.body=exs (yc T (k+1)) [AA (.loc n),AA (.lst (ns.map .int)),AA (.int a),AA (.int v)] st flT:=by
  by_cases hn:ns=[]
  .have c0:decide ((ns.length:Int) > 0)=false:=by subst hn;rfl
   refine⟨31*a+7,?_⟩;rw[hb];generalize flT=F at *;generalize ns.map PV.int=L at *;simp! [yad,i0,i1,bt,m31,hl,c0]
  .have h0:0<ns.length:=FL.2 hn;let⟨v,hv⟩:=znt ns a hn;have c0:decide ((ns.length:Int) > 0)=true:=decide_eq_true (by lia);have d1:=zgV (i:=a) (j:=(ns.length:Int)) (by lia) (by lia);have d2:=zhL (i:=a) (j:=(ns.length:Int)) (by lia);have m1:yr .mul (.int 104729) (.int (a/(ns.length:Int)))=AA (.int (104729*(a/(ns.length:Int)))):=zej (by decide);have ix:∀st,idxV st (.lst (ns.map .int)) (.int (a%(ns.length:Int)))=AA (.int v):=λ_=>hv;refine⟨104729*(a/(ns.length:Int))+v,?_⟩;rw[hb];generalize flT=F at *;generalize ns.map PV.int=L at *;simp! [yad,i0,i1,bt,m31,hl,c0,d1,d2,m1,ix]
 cases c:(decide (a ≥ (ns.length:Int)) || decide (v<1000000000000000000))with
 |true=>
  let⟨q,hq⟩:=mixed k v (st.set n (flS (.lst (ns.map .int)) (a+1) p AB));refine⟨q,AB,?_⟩;rw[zz hT rfl rfl];have e:=zfm k n h hl c (λ_=>hq) (λh=>nomatch h);rw[<-hv]at e;exact(congrArg _ e).trans rfl
 |false=>
  refine⟨v-1000000000000000000,AD,?_⟩;rw[zz hT rfl rfl];have e:=zfm k n h hl c (λh=>nomatch h) (λ_=>rfl);rw[<-hv]at e;exact(congrArg _ e).trans rfl
noncomputable abbrev cM:Nat:=21
noncomputable abbrev sw:Str:=AG "w"
noncomputable abbrev sws:Str:=AG "words"
noncomputable abbrev smk:Str:=AG "marked"
def mob(w:Int)(L:Nat)(mk:Int):Ob:=.ins cM [(sw,.int w),(sws,.loc L),(smk,.int mk)]
structure MM(st:SO)(m l:Nat)(w:Int)(M:Mem)(mk:Int)(L:Nat):Prop where
 o:st[m]?=AA (mob w l mk)
 d:Dc st l M L
 ne:m≠l
theorem yf6{w mk:Int}{L:Nat}:([(sw,PV.int w),(sws,.loc L),(smk,.int mk)]:List (AQ×PV)).lookup sw=AA (.int w):=by ac_rfl
theorem yff{w mk:Int}{L:Nat}:([(sw,PV.int w),(sws,.loc L),(smk,.int mk)]:List (AQ×PV)).lookup sws=AA (.loc L):=by ac_rfl
theorem yfe{w mk:Int}{L:Nat}:([(sw,PV.int w),(sws,.loc L),(smk,.int mk)]:List (AQ×PV)).lookup smk=AA (.int mk):=by ac_rfl
section
variable {st:SO}{m l L:Nat}{w mk:Int}{M:Mem}
theorem MM.fw(h:MM st m l w M mk L):ybD cM st (.loc m) sw=AA (.int w):=by erw[ybD,h.o,mob,if_true];exact yf6
theorem MM.fd(h:MM st m l w M mk L):ybD cM st (.loc m) sws=AA (.loc l):=by erw[ybD,h.o,mob,if_true];exact yff
theorem MM.fm(h:MM st m l w M mk L):ybD cM st (.loc m) smk=AA (.int mk):=by erw[ybD,h.o,mob,if_true];exact yfe
theorem MM.ins(h:MM st m l w M mk L)(n:AQ)(hm:(([(sw,PV.non),(sws,.non),(smk,.non)]:List (AQ×PV)).lookup n).isNone=true:=by decide +kernel):yb5 cM n st (.loc m)=AA true:=by
 have e:([(sw,PV.int w),(sws,.loc l),(smk,.int mk)]:List (AQ×PV)).lookup n=none:=by
  erw[Bw]at hm ⊢
  cases h1:n==sw with
  |true=>rw[h1]at hm;cases hm
  |false=>
   rw[h1]at hm
   cases h2:n==sws with
   |true=>rw[h2]at hm;cases hm
   |false=>
    rw[h2]at hm
    cases h3:n==smk with
    |true=>rw[h3]at hm;cases hm
    |false=>rfl
 erw[yb5,h.o,mob];rw[if_pos ⟨trivial,e⟩]
theorem zli{v:Int}:ybJ smk (.int v) [(sw,PV.int w),(sws,.loc L),(smk,.int mk)]=[(sw,.int w),(sws,.loc L),(smk,.int v)]:=by ac_rfl
theorem Dc.set_ne{n:Nat}(h:Dc st l M L)(hn:n≠l)(o:Ob):Dc (st.set n o) l M L:=by
 let⟨kvs,h1,h2⟩:=h.ex;exact⟨kvs,by rw[AR hn];exact h1,h2⟩
theorem Dc.le{L':Nat}(h:Dc st l M L)(hL:L<=L'):Dc st l M L':=by
 let⟨kvs,h1,h2,h3,h4⟩:=h.ex;exact⟨kvs,h1,h2,h3,BQ h4 hL⟩
theorem MM.sm(h:MM st m l w M mk L)(v:Int):ya9 cM st (.loc m) smk (.int v)=AA (st.set m (mob w l v))/\MM (st.set m (mob w l v)) m l w M v L:=by
 refine⟨?_,⟨rdS h.o,h.d.set_ne h.ne _,h.ne⟩⟩;erw[ya9,h.o,mob];rw[if_pos ⟨trivial,by simp⟩,zli]
theorem MM.sd(h:MM st m l w M mk L)(hL:L<999999)(c:Cel)(v:Int):∃st',ya0 st (.loc l) (yah c) (.int v)=AA st'/\(∃o,st'=st.set l o)/\MM st' m l w (wr M c v) mk (L+1):=by
 let⟨kvs,e,d⟩:=zis h.d hL c.1 c.2 v;exact⟨_,e,⟨_,rfl⟩,by rw[AR (BI h.ne)];exact h.o,d,h.ne⟩
theorem zdv(k:Nat)(h:MM st m l w M mk L)(c:Cel):yc T (k+1) zr [.loc m,yah c] st=.ok (.int (rd M c)) st:=by
 have hT:T zr=AA zA:=rfl;have g:ycl .get st (.loc l) [yah c,.int 0]=.ok (.int (rd M c)) st:=ziy h.d c.1 c.2;have o:yaO .get st (.loc l)=AA true:=by
  let⟨kvs,h1,_⟩:=h.d.ex;simp[yaO,yaZ,h1]
 rw[zz hT rfl rfl];generalize yah c=q at *;simp! [zA,h.fd,o,g,zfL,IC.ve32]
end
theorem highest(k n:Nat)(hn:n<=100)(s:SO):yc T (k+1) zcD [.int n] s=.ok (.int (2^n-1)) s:=by
 have hT:T zcD=AA zbz:=rfl;have hs:yr .shl (.int 1) (.int (n:Int))=AA (.int (2^n)):=by
  erw[yr,binI];rw[if_pos ⟨by lia,by lia,by decide⟩];simp
 rw[zc hT rfl rfl rfl];simp! [zbz,zkZ,hs]
theorem zaj{st s:SO}{a b:Int}:ybc st (.rt (.tp AD [.int a,.int b]) s)=.ok (.tp AD [.int a,.int b]) st:=rfl
section
variable {x y m:Int}{n:Nat}(hn:n<=100)(hn1:1<=n)(k:Nat)(st:SO)
theorem zmd:yr .shr (.int x) (.int (n:Int))=AA (.int (x/2^n)):=by
 erw[yr,binI];rw[if_pos (by lia)];simp
theorem band(a b:Int):yr .band (.int a) (.int b)=AA (.int (Ab a b)):=rfl
theorem znr{x y:Int}(hx:0<=x)(hy:0<=y):Ab x y=((x.toNat &&& y.toNat:Nat):Int):=by simp[Ab,hx,hy]
theorem zm4{x y:Int}(hx:¬0<=x)(hy:0<=y):Ab x y=y-((y.toNat &&& (Ew x).toNat:Nat):Int):=by simp[Ab,hx,hy]
theorem zeI(a:Int):Ab a (2^n-1)=a%2^n:=by
 have hp:(0:Int)<2^n:=A9 (by decide);have hc:((2^n:Nat):Int)=2^n:=by simp
 have ht:((2:Int)^n-1).toNat=2^n-1:=by lia
 by_cases h:0<=a
 .rw[znr h (by lia),ht,DQ,GM,hc,FM h]
 .have hb:Ew a=-a-1:=rfl;rw[zm4 h (by lia),ht,Nat.and_comm,DQ,GM,hc,hb,FM (by lia)];have e:=B4 (-a-1) (2^n);have r0:=Ak (-a-1) (show (2:Int)^n≠0 by lia);have r1:=Aa (-a-1) hp;generalize (-a-1)%2^n=r at *;generalize (-a-1)/2^n=q at *;generalize (2:Int)^n=P at *;have m:P*(-q-1)=-(P*q)-P:=by rw[HF,Int.mul_neg,C9]
  rw[show a=(P-1-r)+P*(-q-1)by lia,Cf,A5 (by lia) (by lia)]
include hn
theorem zkX:yc T (k+1) zeY [.int n,.int x,.int y,.int m] st=.ok (.tp AD [.int x,.int m]) st:=by
 have hT:T zeY=AA zdL:=rfl;rw[zc hT rfl rfl rfl];simp! [zdL,zaj]
theorem zke:yc T (k+2) ze9 [.int n,.int x,.int y,.int m] st=.ok (.tp AD [.int (2^n-1-x),.int m]) st:=by
 have hT:T ze9=AA zd1:=rfl;have e:=highest k n hn;rw[zc hT rfl rfl rfl];simp! [zd1,zaj,e]
theorem zfk:yc T (k+2) zd0 [.int n,.int x,.int y,.int m] st=.ok (.tp AD [.int ((x+y+m)%2^n),.int ((x+y+m)/2^n)]) st:=by
 have hT:T zd0=AA zb5:=rfl;have e:=highest k n hn;rw[zc hT rfl rfl rfl];simp! [zb5,zaj,e,band,zmd,zeI]
theorem zj2:yc T (k+2) zaM [.int n,.int x,.int y,.int m] st=.ok (.tp AD [.int ((x-y-m)%2^n),.int (if x-y-m<0 then 1 else 0)]) st:=by
 have hT:T zaM=AA zZ:=rfl;have e:=highest k n hn;rw[zc hT rfl rfl rfl]
 by_cases c:x-y-m<0
 .have hc:yx .lt (.int (x-y-m)) (.int 0)=AA (.bl AB):=by simp[yx,ybm,c]
  rw[if_pos c];have hd:decide (x-y-m<0)=true:=decide_eq_true c;simp! [zZ,zaj,e,band,zeI,hd]
 .rw[if_neg c];have hd:decide (x-y-m<0)=false:=decide_eq_false c;simp! [zZ,zaj,e,band,zeI,hd]
theorem zlL:yc T (k+1) zcB [.int n,.int x,.int y,.int m] st=.ok (.tp AD [.int (Ab x y),.int m]) st:=by
 have hT:T zcB=AA zbk:=rfl;rw[zc hT rfl rfl rfl];simp! [zbk,zaj,zmF]
theorem znJ:yc T (k+1) zdN [.int n,.int x,.int y,.int m] st=.ok (.tp AD [.int (BD x y),.int m]) st:=by
 have hT:T zdN=AA zb6:=rfl;rw[zc hT rfl rfl rfl];simp! [zb6,zaj,yec]
theorem znA:yc T (k+1) zdR [.int n,.int x,.int y,.int m] st=.ok (.tp AD [.int (Ax x y),.int m]) st:=by
 have hT:T zdR=AA zb9:=rfl;rw[zc hT rfl rfl rfl];simp! [zb9,zaj,zmm]
theorem zhx:yc T (k+3) zct [.int n,.int x,.int y,.int m] st=.ok (.tp AD [.int ((x+x+m)%2^n),.int ((x+x+m)/2^n)]) st:=by
 have hT:T zct=AA zbs:=rfl;have e:=zfk (x:=x) (y:=x) (m:=m) hn k;rw[zc hT rfl rfl rfl];simp! [zbs,zaj,e]
include hn1
theorem zjH(x0:0<=x)(x1:x<2^n)(m0:0<=m)(m1:m<2):BD (x/2) (m*2^(n-1))=x/2+m*(2^n/2):=by
 obtain⟨n',rfl⟩:∃n',n=n'+1:=⟨n-1,by lia⟩;let⟨a,rfl⟩:=zav x0;let⟨b,rfl⟩:=zav m0;have e1:((a:Int)/2)=((a/2:Nat):Int):=by lia
 have e2:((b:Int)*2^(n'+1-1))=((2^n' * b:Nat):Int):=by
  rw[show n'+1-1=n' from rfl,Ai];simp
 have hp:(2:Int)^(n'+1)=2*2^n':=by rw[Aj,Ai]
 have ha:a/2<2^n':=by
  have:(a:Int)<2*2^n':=by rw[<-hp];exact x1
  have h3:((2^n':Nat):Int)=2^n':=by simp
  lia
 rw[e1,e2,zbZ,Nat.or_comm,<-Nat.two_pow_add_eq_or_of_lt ha,hp,Int.mul_ediv_cancel_left _ (by decide)];have h3:((2^n' * b:Nat):Int)=b*2^n':=by rw[Ai];simp
 rw[GV,h3,Ec]
theorem zil(x0:0<=x)(x1:x<2^n)(m0:0<=m)(m1:m<2):yc T (k+1) zdM [.int n,.int x,.int y,.int m] st=.ok (.tp AD [.int (x/2+m*(2^n/2)),.int (x%2)]) st:=by
 have hT:T zdM=AA zb7:=rfl;have h1:yr .shr (.int x) (.int 1)=AA (.int (x/2)):=by
  have:=zmd (x:=x) (n:=1);simpa using this
 have h2:yr .shl (.int m) (.int ((n:Int)-1))=AA (.int (m*2^(n-1))):=by
  erw[yr,binI];rw[if_pos ⟨by lia,by lia,by lia⟩]
  congr 3
  congr 1
  lia
 have h3:Ab x 1=x%2:=zeI (n:=1) x;rw[zc hT rfl rfl rfl];simp! [zb7,zaj,h1,h2,yec,zjH hn hn1 x0 x1 m0 m1,band,h3]
end
theorem ziT{j:Nat}{k:Nat->Fl}:ydI (AA j) k=k j:=rfl
theorem made{s:AQ}{j:Nat}(hj:mkV zC AB (.str s)=AA j)(k:Nat)(st:SO){n x y m a b:Int}(e:yc T k j [.int n,.int x,.int y,.int m] []=.ok (.tp AD [.int a,.int b]) []):
  yc T (k+1) zgN [.str s,.int n,.int x,.int y,.int m] st=.ok (.tp AD [.int a,.int b]) st:=by
 have hT:T zgN=AA zfC:=rfl;have hd:decide (5<6)=true:=rfl;rw[zc hT rfl rfl rfl];erw[zfC,AO,Ar,B7,Ac,Ao,Aw,xs_cons,zlq,IC.ve2,AM,fl_ok];simp! [hd,hj,ziT,e,zaj]
theorem zic:mkV zC AB (.str "move")=AA zeY/\mkV zC AB (.str "bare")=AA ze9/\mkV zC AB (.str "sum")=AA zd0/\mkV zC AB (.str "less")=AA zaM/\mkV zC AB (.str "both")=AA zcB /\
  mkV zC AB (.str "any")=AA zdN/\mkV zC AB (.str "odd")=AA zdR/\mkV zC AB (.str "twice")=AA zct/\mkV zC AB (.str "half")=AA zdM:=by
 refine⟨?_,?_,?_,?_,?_,?_,?_,?_,?_⟩<;>decide +kernel
theorem yfN{i j:Nat}{k:Bool}{a b:PV}{ρ:IC.Env}:yH (.t [i,j]) (.tp k [a,b]) ρ=AA ((ρ.set i (AA a)).set j (AA b)):=rfl
theorem ydC{call:Cl}{ρ:IC.Env}{st:SO}:ev call ρ st (.neg (.cst (.int 1)))=.ok (.int (-1)) st:=by erw[ev,R.bind]
def okM(r:R PV)(st:SO)(m l:Nat)(w:Int)(M':Mem)(mk':Int)(L':Nat):Prop:=∃st',MM st' m l w M' mk' L'/\(∀n,n≠m->n≠l->st'[n]?=st[n]?)/\st'.length=st.length/\r=.ok .non st'
section
variable {st:SO}{m l L n:Nat}{mk:Int}{M:Mem}
theorem zau(k:Nat)(h:MM st m l n M mk L)(hL:L<999999){s:AQ}{j:Nat}(hj:mkV zC AB (.str s)=AA j){t x z:Cel}{r:List PV}
  (hlast:∀st,idxV st (.tp AD (.str s::yah t::yah x::r)) (.int (-1))=AA (yah z)) {v m':Int} (e:yc T (k+3) j [.int n,.int (rd M x),.int (rd M z),.int mk] []=.ok (.tp AD [.int v,.int m']) []):
  okM (yc T (k+5) zP [.loc m,.tp AD (.str s::yah t::yah x::r)] st) st m l n (wr M t v) m' (L+1):=by
 have hT:T zP=AA zB:=rfl;have e1:yc T (k+4) zr [.loc m,yah x] st=.ok (.int (rd M x)) st:=zdv (k+3) h x;have e2:yc T (k+4) zr [.loc m,yah z] st=.ok (.int (rd M z)) st:=zdv (k+3) h z;have e3:yc T (k+4) zgN [.str s,.int n,.int (rd M x),.int (rd M z),.int mk] st=_:=made hj (k+3) st e;have ih:=h.ins (AG "held_in");let⟨s1,d1,⟨o,ho⟩,h1⟩:=h.sd hL t v;let⟨d2,h2⟩:=h1.sm m';refine⟨_,h2,λq a b=>?_,by simp[ho],?_⟩
 .rw[AR (BI a),ho,AR (BI b)]
 rw[zz hT rfl rfl];generalize yah t=ct at *;generalize yah x=cx at *;generalize yah z=cz at *;simp! [zB,ih,ix0,ix1,ix2,e1,ydC,hlast,e2,yfN,h.fw,h.fm,e3,h.fd,zgz,d1,zax,zhw,d2,Cy,IC.ve32,IC.ve37];rfl
end
section
variable {st:SO}{m l L n:Nat}{mk:Int}{M:Mem}
theorem zbG(k:Nat){s:AQ}{r:List PV}{M':Mem}{mk':Int}{L':Nat}(h:MM st m l n M mk L)(q1:yx .eq (.str s) (.str "mark")=AA (.bl AD))(q2:yx .eq (.str s) (.str "ask")=AA (.bl AD))(q3:yx .eq (.str s) (.str "set")=AA (.bl AD))(q4:yx .eq (.str s) (.str "times")=AA (.bl AD))
  (g:okM (yc T (k+5) zP [.loc m,.tp AD (.str s::r)] st) st m l n M' mk' L'):okM (yc T (k+6) zk [.loc m,.tp AD (.str s::r)] st) st m l n M' mk' L':=by
 have hT:T zk=AA zj:=rfl;let⟨st',g1,g2,g3,e⟩:=g;refine⟨st',g1,g2,g3,?_⟩;have ih:=h.ins (AG "go_made");rw[zz hT rfl rfl];simp! [zj,ix0,q1,q2,q3,q4,ih,e,IC.ve37];rfl
theorem MM.le{L':Nat}{w:Int}(h:MM st m l w M mk L)(hL:L<=L'):MM st m l w M mk L':=⟨h.o,h.d.le hL,h.ne⟩
theorem zjM(k:Nat)(h:MM st m l n M mk L)(d:Int):okM (yc T (k+6) zk [.loc m,yaA (.mark d)] st) st m l n M d (L+1):=by
 have hT:T zk=AA zj:=rfl;let⟨d2,h2⟩:=h.sm d;refine⟨_,h2.le (by lia),λq a b=>by rw[AR (BI a)],by simp,?_⟩;have q:yx .eq (.str "mark") (.str "mark")=AA (.bl AB):=by ac_rfl
 rw[zz hT rfl rfl];simp! [zj,yaA,ix0,ix1,q,zhw,d2,zax];rfl
theorem znv(k:Nat)(h:MM st m l n M mk L)(x:Cel):okM (yc T (k+6) zk [.loc m,yaA (.ask x)] st) st m l n M (bi (!(rd M x==0))) (L+1):=by
 have hT:T zk=AA zj:=rfl;let⟨d2,h2⟩:=h.sm (bi (!(rd M x==0)));refine⟨_,h2.le (by lia),λq a b=>by rw[AR (BI a)],by simp,?_⟩;have q:yx .eq (.str "ask") (.str "mark")=AA (.bl AD):=by ac_rfl
 have q2:yx .eq (.str "ask") (.str "ask")=AA (.bl AB):=by ac_rfl
 have e1:yc T (k+5) zr [.loc m,yah x] st=.ok (.int (rd M x)) st:=zdv (k+4) h x;have ih:=h.ins (AG "held_in");rw[zz hT rfl rfl];erw[yaA];generalize yah x=cx at *
 cases e:(rd M x==0)with
 |true=>
  rw[e]at d2;have d2:ya9 cM st (.loc m) smk (.int 0)=_:=d2;simp! [zj,ix0,ix1,q,q2,ih,e1,e,zhw,d2,zax,IC.ve37];rfl
 |false=>
  rw[e]at d2;have d2:ya9 cM st (.loc m) smk (.int 1)=_:=d2;simp! [zj,ix0,ix1,q,q2,ih,e1,e,zhw,d2,zax,IC.ve37];rfl
theorem zlA(k:Nat)(h:MM st m l n M mk L)(hL:L<999999)(t:Cel)(d:Int):okM (yc T (k+6) zk [.loc m,yaA (.set t d)] st) st m l n (wr M t d) mk (L+1):=by
 have hT:T zk=AA zj:=rfl;let⟨s1,d1,⟨o,ho⟩,h1⟩:=h.sd hL t d;refine⟨_,h1,λq a b=>by rw[ho,AR (BI b)],by simp[ho],?_⟩;have q:yx .eq (.str "set") (.str "mark")=AA (.bl AD):=by ac_rfl
 have q2:yx .eq (.str "set") (.str "ask")=AA (.bl AD):=by ac_rfl
 have q3:yx .eq (.str "set") (.str "set")=AA (.bl AB):=by ac_rfl
 rw[zz hT rfl rfl];erw[yaA];generalize yah t=ct at *;simp! [zj,ix0,ix1,ix2,q,q2,q3,h.fd,zgz,d1,zax,IC.ve32];rfl
theorem ybQ{s a b:PV}:∀st,idxV st (.tp AD [s,a,b]) (.int (-1))=AA b:=λst=>rfl
theorem ybN{s a b c:PV}:∀st,idxV st (.tp AD [s,a,b,c]) (.int (-1))=AA c:=λst=>rfl
theorem zjS(a:Int):(if a<0 then(1:Int)else 0)=bi (decide (a<0)):=by
 by_cases h:a<0<;>simp[h,bi]
theorem zl2(k:Nat)(h:MM st m l n M mk L)(hL:L<999999)(hn:n<=100)(hn1:1<=n)(r:Rw)(hh:∀t x,r=.half t x->0<=rd M x/\rd M x<2^n/\0<=mk/\mk<2):
  okM (yc T (k+6) zk [.loc m,yaA r] st) st m l n (stepM (2^n) M mk r).1 (stepM (2^n) M mk r).2 (L+1):=by
 let⟨j1,j2,j3,j4,j5,j6,j7,j8,j9⟩:=zic
 cases r with
 |mark d=>exact zjM k h d
 |ask x=>exact znv k h x
 |set t d=>exact zlA k h hL t d
 |move t x=>exact zbG k h (by ac_rfl) (by ac_rfl) (by ac_rfl) (by ac_rfl) (zau k h hL j1 ybQ (zkX hn (k+2) []))
 |bare t x=>exact zbG k h (by ac_rfl) (by ac_rfl) (by ac_rfl) (by ac_rfl) (zau k h hL j2 ybQ (zke hn (k+1) []))
 |twice t x=>
  have e:=zhx (x:=rd M x) (y:=rd M x) (m:=mk) hn k [];rw[show rd M x+rd M x+mk=2*rd M x+mk by lia]at e;exact zbG k h (by ac_rfl) (by ac_rfl) (by ac_rfl) (by ac_rfl) (zau k h hL j8 ybQ e)
 |half t x=>
  let⟨a,b,c,d⟩:=hh t x rfl;exact zbG k h (by ac_rfl) (by ac_rfl) (by ac_rfl) (by ac_rfl) (zau k h hL j9 ybQ (zil hn hn1 (k+2) [] a b c d))
 |sum t x y=>exact zbG k h (by ac_rfl) (by ac_rfl) (by ac_rfl) (by ac_rfl) (zau k h hL j3 ybN (zfk hn (k+1) []))
 |less t x y=>
  have e:=zj2 (x:=rd M x) (y:=rd M y) (m:=mk) hn (k+1) [];rw[zjS]at e;exact zbG k h (by ac_rfl) (by ac_rfl) (by ac_rfl) (by ac_rfl) (zau k h hL j4 ybN e)
 |both t x y=>exact zbG k h (by ac_rfl) (by ac_rfl) (by ac_rfl) (by ac_rfl) (zau k h hL j5 ybN (zlL hn (k+2) []))
 |any t x y=>exact zbG k h (by ac_rfl) (by ac_rfl) (by ac_rfl) (by ac_rfl) (zau k h hL j6 ybN (znJ hn (k+2) []))
 |odd t x y=>exact zbG k h (by ac_rfl) (by ac_rfl) (by ac_rfl) (by ac_rfl) (zau k h hL j7 ybN (znA hn (k+2) []))
end
noncomputable abbrev cZ:Cel:=(122,0)
noncomputable abbrev cS:Cel:=(115,0)
noncomputable abbrev cT:Cel:=(116,0)
noncomputable def yo(f:Int->Rw):Nat->List Rw
 |0=>[]
 |n+1=>yo f n++[f n]
def yE(n:Nat)(f:Cel->Cel->Cel->Rw):List Rw:=yo (λi=>f (99,i) (97,i) (98,i)) n
def yC(n:Nat):List Rw:=[.set cS 0]++yo (λi=>Rw.any cS cS (99,i)) n++[.ask cS,.set (109,2) 1,.less (109,2) (109,2) cZ,.twice cT (99,(n:Int)-1),.sum (109,3) cZ cZ]
def yK(a b c:Cel):List Rw:=[.odd cT a b,.odd cS a c,.both cT cT cS,.twice cT cT,.sum (109,1) cZ cZ]
def yaq(n:Nat):List Rw:=[.mark 0]++yE n .sum++[.sum (109,0) cZ cZ]++yK (99,(n:Int)-1) (97,(n:Int)-1) (98,(n:Int)-1)++yC n
def yV(n:Nat):List Rw:=[.mark 0]++yE n .less++[.sum (109,0) cZ cZ]++yK (97,(n:Int)-1) (98,(n:Int)-1) (99,(n:Int)-1)++yC n
def yaf(n:Nat):List Rw:=[.mark 0]++yo (λi=>.less (99,i) cZ (97,i)) n++[.sum (109,0) cZ cZ]++yK cZ (97,(n:Int)-1) (99,(n:Int)-1)++yC n
def yau(n:Nat):List Rw:=yo (λi=>.bare (99,i) (97,i)) n++yC n
def yU(n:Nat):List Rw:=yV n++[.odd (109,1) (109,1) (109,3),.set (109,3) 0]
def yag(f:Cel->Cel->Cel->Rw)(n:Nat):List Rw:=yE n f++yC n
noncomputable def yg(W:Int):Nat->Int->List Int
 |0,_=>[]
 |n+1,x=>x%W::yg W n (x/W)
theorem zI(W:Int):∀n x,(yg W n x).length=n
 |0,_=>rfl
 |n+1,x=>by rw[yg,AT,zI]
def yaz(c:Nat):Nat->List Int->Mem->Mem
 |_,[],M=>M
 |i,v::vs,M=>yaz c (i+1) vs (upd M c i v)
noncomputable def M0:Mem:=λ_ _=>0
def yG(W:Int)(n:Nat)(x y:Int):Mem:=yaz 98 0 (yg W n y) (yaz 97 0 (yg W n x) M0)
noncomputable def yJ(W:Int)(M:Mem)(c:Nat):Nat->Int
 |0=>0
 |n+1=>yJ W M c n+M c n*W^n
def Dg(W:Int)(M:Mem)(c n:Nat):Prop:=∀i:Nat,i<n->0<=M c i/\M c i<W
theorem Dg.mono{W:Int}{M:Mem}{c n:Nat}(h:Dg W M c (n+1)):Dg W M c n:=λi hi=>h i (by lia)
theorem zt{W:Int}{M M':Mem}{c c':Nat}:∀n,(∀i:Nat,i<n->M c i=M' c' i)->yJ W M c n=yJ W M' c' n
 |0,_=>rfl
 |n+1,h=>by rw[yJ,yJ,zt n λi hi=>h i (by lia),h n (by lia)]
theorem zbh{W:Int}(hW:0<W){M:Mem}{c:Nat}:∀n,Dg W M c n->0<=yJ W M c n/\yJ W M c n<W^n
 |0,_=>by simp[yJ]
 |n+1,h=>by
  let⟨a,b⟩:=zbh hW n h.mono;let⟨c0,c1⟩:=h n (by lia);have hp:0<W^n:=A9 hW;have h1:0<=M c n*W^n:=Cg c0 (by lia);have h2:M c n*W^n<=(W-1)*W^n:=BY (by lia) (by lia);rw[CZ,CK]at h2;rw[yJ,Aj,Ai (W^n) W];lia
theorem zek{W:Int}(hW:0<W){M:Mem}{c:Nat}:∀n,Dg W M c n->(yJ W M c n=0 ↔ ∀i:Nat,i<n->M c i=0)
 |0,_=>by simp[yJ]
 |n+1,h=>by
  have ih:=zek hW n h.mono;let⟨a,b⟩:=zbh hW n h.mono;let⟨c0,c1⟩:=h n (by lia);have hp:0<W^n:=A9 hW;have h1:0<=M c n*W^n:=Cg c0 (by lia);rw[yJ];constructor
  .intro h2 i hi;have h3:M c n*W^n=0:=by omega
   rcases DI i n with z|z
   .exact ih.1 (by lia) i z
   .rw[show i=n by lia];rcases Int.mul_eq_zero.1 h3 with e|e
    .exact e
    .lia
  .intro h2;rw[h2 n (by lia),ih.2 λi hi=>h2 i (by lia)];simp
theorem zaJ{w:Nat}(hw:0<w){M:Mem}{c n:Nat}(h:Dg (2^w) M c (n+1)):tb w (M c n)=if (2^w:Int)^(n+1)<=2*yJ (2^w) M c (n+1)then 1 else 0:=by
 let⟨c0,c1⟩:=h n (by lia);let⟨a,b⟩:=zbh (A9 (by lia)) n h.mono;rw[zm1 hw c0 c1,yJ];obtain⟨v,rfl⟩:∃v,w=v+1:=⟨w-1,by lia⟩;have hp:0<((2:Int)^(v+1))^n:=A9 (A9 (by lia));rw[Aj ((2:Int)^(v+1)) n];generalize ((2:Int)^(v+1))^n=P at *;generalize hV:yJ (2^(v+1)) M c n=V at *;rw[Aj]at *;generalize (2:Int)^v=H at *;generalize M c (n:Int)=d at *
 by_cases hd:H<=d
 .have h1:=BY hd (show 0<=P by lia);have h2:P*(H*2)=2*(H*P):=by rw[Ai P,Be,Ai 2 P,<-Be,Ai 2]
  rw[if_pos (by lia),if_pos (by rw[h2];lia)]
 .have h1:=BY (show d<=H-1 by lia) (show 0<=P by lia);rw[CZ,CK]at h1;have h2:P*(H*2)=2*(H*P):=by rw[Ai P,Be,Ai 2 P,<-Be,Ai 2]
  rw[if_neg (by lia),if_neg (by rw[h2];lia)]
theorem zff{W:Int}(hW:0<W)(hW2:2<=W)(M:Mem)(k:Int)(k0:0<=k)(k1:k<=1):∀n,Dg W M 97 n->Dg W M 98 n ->
  (∀d j,(d≠99 \/ (n:Int)<=j)->(yq W (yE n .sum) M k).1 d j=M d j)/\Dg W (yq W (yE n .sum) M k).1 99 n/\0<=(yq W (yE n .sum) M k).2/\(yq W (yE n .sum) M k).2<=1/\yJ W (yq W (yE n .sum) M k).1 99 n+(yq W (yE n .sum) M k).2*W^n=yJ W M 97 n+yJ W M 98 n+k
 |0,_,_=>⟨λ_ _ _=>rfl,λi hi=>by lia,k0,k1,by simp[yJ,yE,yo,yq]⟩
 |n+1,ha,hb=>by
  let⟨h1,h2,h3,h4,h5⟩:=zff hW hW2 M k k0 k1 n ha.mono hb.mono;have e:yE (n+1) .sum=yE n .sum++[.sum (99,n) (97,n) (98,n)]:=rfl;rw[e,zG];generalize yq W (yE n .sum) M k=R at *;let⟨M1,k'⟩:=R;simp only at *;let⟨a0,a1⟩:=ha n (by lia);let⟨b0,b1⟩:=hb n (by lia);erw[yq,stepM,rd,wr,h1 97 n (.inl (by decide)),h1 98 n (.inl (by decide))];generalize hA:M 97 (n:Int)=A at *;generalize hB:M 98 (n:Int)=B at *;have d1:=Ak (A+B+k') (show W≠0 by lia);have d2:=Aa (A+B+k') hW;have d3:=B4 (A+B+k') W;have d4:0<=(A+B+k')/W:=Cv (by lia) (by lia);have d5:(A+B+k')/W<2:=BP hW (by lia);refine⟨λd j hd=>?_,λi hi=>?_,d4,by lia,?_⟩
  .unfold upd;rw[if_neg (by lia),h1 d j (by lia)]
  .unfold upd
   by_cases hin:i=n
   .subst hin;rw[if_pos ⟨rfl,rfl⟩];exact⟨d1,d2⟩
   .rw[if_neg (by lia)];exact h2 i (by lia)
  .have hv:yJ W (upd M1 99 (n:Int) ((A+B+k')%W)) 99 (n+1)=yJ W M1 99 n+(A+B+k')%W*W^n:=by
    rw[yJ,zt (M':=M1) (c':=99) n λi hi=>by unfold upd;rw[if_neg (by lia)]];unfold upd;rw[if_pos ⟨rfl,rfl⟩]
   rw[hv,yJ,yJ,hA,hB,Aj];generalize W^n=P at *;generalize (A+B+k')%W=r at *;generalize (A+B+k')/W=q at *;have e2:r=A+B+k'-W*q:=by lia
   subst e2;have e3:(A+B+k'-W*q)*P+q*(P*W)=A*P+B*P+k' * P:=by
    rw[CZ,ED,ED,Ai W q,Be q W P,Ai W P];lia
   generalize (A+B+k'-W*q)*P=X1 at *;generalize q*(P*W)=X2 at *;lia
theorem zft{W:Int}(M:Mem)(k:Int)(hS:0<=M 115 0):∀n,(∀i:Nat,i<n->0<=M 99 i) ->
  (yq W (yo (λi=>Rw.any cS cS (99,i)) n) M k).2=k/\(∀d j,d≠115->(yq W (yo (λi=>Rw.any cS cS (99,i)) n) M k).1 d j=M d j)/\0<=(yq W (yo (λi=>Rw.any cS cS (99,i)) n) M k).1 115 0/\((yq W (yo (λi=>Rw.any cS cS (99,i)) n) M k).1 115 0=0 ↔ M 115 0=0/\∀i:Nat,i<n->M 99 i=0)
 |0,_=>⟨rfl,λ_ _ _=>rfl,hS,by simp[yo,yq]⟩
 |n+1,h=>by
  let⟨h1,h2,h3,h4⟩:=zft (W:=W) M k hS n λi hi=>h i (by lia);rw[yo,zG];generalize yq W (yo (λi=>Rw.any cS cS (99,i)) n) M k=R at *;let⟨M1,k'⟩:=R;simp only at *;have hb:=h n (by lia);erw[yq,stepM,rd,wr,cS,h2 99 n (by decide)];have hz:=zjR h3 hb;refine⟨h1,λd j hd=>?_,?_,?_⟩
  .unfold upd;rw[if_neg (by lia),h2 d j hd]
  .unfold upd;rw[if_pos ⟨rfl,rfl⟩];obtain⟨x,hx⟩:∃x:Nat,M1 115 0=x:=⟨(M1 115 0).toNat,by lia⟩;obtain⟨y,hy⟩:∃y:Nat,M 99 n=y:=⟨(M 99 n).toNat,by lia⟩;rw[hx,hy,zbZ];lia
  .unfold upd;rw[if_pos ⟨rfl,rfl⟩,hz,h4];constructor
   .rintro⟨⟨a,b⟩,c⟩
    refine⟨a,λi hi=>?_⟩;rcases DI i n with z|z
    .exact b i z
    .rw[show i=n by lia];exact c
   .rintro⟨a,b⟩
    exact⟨⟨a,λi hi=>b i (by lia)⟩,b n (by lia)⟩
theorem zaU{W:Int}{r:Rw}{rs:List Rw}{M:Mem}{k:Int}:yq W (r::rs) M k=yq W rs (stepM W M k r).1 (stepM W M k r).2:=rfl
theorem zfv(b:Bool):0<=bi b/\bi b<=1:=by cases b<;>decide
theorem zdU{w:Nat}(hw:1<w){n:Nat}(M:Mem)(k:Int)(hc:Dg (2^w) M 99 (n+1))(hz:M 122 0=0):
  (∀j,(yq (2^w) (yC (n+1)) M k).1 99 j=M 99 j)/\(yq (2^w) (yC (n+1)) M k).1 109 0=M 109 0/\(yq (2^w) (yC (n+1)) M k).1 109 1=M 109 1 /\
  (yq (2^w) (yC (n+1)) M k).1 109 2=bi (yJ (2^w) M 99 (n+1)==0)/\(yq (2^w) (yC (n+1)) M k).1 109 3=bi (decide ((2^w:Int)^(n+1)<=2*yJ (2^w) M 99 (n+1))):=by
 have hW:(0:Int)<2^w:=A9 (by lia);have hW4:(4:Int)<=2^w:=by
  have h:(2:Nat)^2<=2^w:=Au (by lia) (by lia);have h2:=pw w;lia
 let⟨h1,h2,h3,h4⟩:=zft (W:=2^w) (wr M cS 0) k (by simp[wr,upd]) (n+1) (λi hi=>by simp[wr,upd];exact(hc i hi).1);have e:yC (n+1)=.set cS 0::(yo (λi=>Rw.any cS cS (99,i)) (n+1)++[.ask cS,.set (109,2) 1,.less (109,2) (109,2) cZ,.twice cT (99,((n+1:Nat):Int)-1),.sum (109,3) cZ cZ]):=rfl;have hst:stepM (2^w) M k (.set cS 0)=(wr M cS 0,k):=rfl;rw[e,zaU,hst,zG];generalize yq (2^w) (yo (λi=>Rw.any cS cS (99,i)) (n+1)) (wr M cS 0) k=R at *;let⟨M1,k'⟩:=R;simp only at *;subst h1;have g:∀d j,d≠115->M1 d j=M d j:=λd j hd=>by
  rw[h2 d j hd];erw[wr,upd,cS];rw[if_neg (by lia)]
 have hn:((n+1:Nat):Int)-1=n:=by lia
 have h5:M1 115 0=0 ↔ yJ (2^w) M 99 (n+1)=0:=by
  rw[h4,zek hW (n+1) hc];constructor
  .rintro⟨_,b⟩ i hi
   have:=b i hi;simpa [wr,upd] using this
  .intro b;exact⟨by simp[wr,upd],λi hi=>by simpa [wr,upd] using b i hi⟩
 have ht:=zaJ (by lia) hc;have hb:bi (!(M1 115 0==0))=1-bi (yJ (2^w) M 99 (n+1)==0):=by
  by_cases hv:yJ (2^w) M 99 (n+1)=0
  .rw[h5.2 hv,hv];rfl
  .have:¬M1 115 0=0:=λz=>hv (h5.1 z);rw[beq_eq_false_iff_ne.2 this,beq_eq_false_iff_ne.2 hv];rfl
 have hbr:=zfv (yJ (2^w) M 99 (n+1)==0);rw[hn];erw[yq,stepM,rd,wr,upd,cS,cT,cZ];rw[hb];generalize bi (yJ (2^w) M 99 (n+1)==0)=v at *;have hm:bi (decide ((1:Int)-0-(1-v)<0))=0:=by
  rw[decide_eq_false (by lia)];rfl
 have hm2:(1-0-(1-v))%(2:Int)^w=v:=by
  rw[show 1-0-(1-v)=v by lia];exact A5 (by lia) (by lia)
 have hT:(2*M 99 n+0)/2^w=bi (decide ((2^w:Int)^(n+1)<=2*yJ (2^w) M 99 (n+1))):=by
  rw[Fp];show tb w (M 99 n)=_;rw[ht]
  by_cases q:(2^w:Int)^(n+1)<=2*yJ (2^w) M 99 (n+1)
  .rw[if_pos q,decide_eq_true q];rfl
  .rw[if_neg q,decide_eq_false q];rfl
 have hTr:=zfv (decide ((2^w:Int)^(n+1)<=2*yJ (2^w) M 99 (n+1)));erw[ET,false_and,if_false,Gx,and_false,and_self,if_true,g _ _ (show (99:Nat)≠115 by decide),g _ _ (show (109:Nat)≠115 by decide),g _ _ (show (122:Nat)≠115 by decide),hz,hm,hm2,hT];refine⟨λj=>trivial,trivial,trivial,trivial,?_⟩;rw[show (0:Int)+0+bi (decide ((2^w:Int)^(n+1)<=2*yJ (2^w) M 99 (n+1)))=bi (decide ((2^w:Int)^(n+1)<=2*yJ (2^w) M 99 (n+1)))by lia];exact A5 (by lia) (by lia)
theorem zbD{c d:Nat}(h:d≠c)(j:Int):∀(vs:List Int) (i:Nat) (M:Mem),yaz c i vs M d j=M d j
 |[],_,_=>rfl
 |v::vs,i,M=>by
  rw[yaz,zbD h j vs,upd,if_neg (by lia)]
theorem zcN{c:Nat}(j:Int):∀(vs:List Int) (i:Nat) (M:Mem),j<i->yaz c i vs M c j=M c j
 |[],_,_,_=>rfl
 |v::vs,i,M,h=>by
  rw[yaz,zcN j vs (i+1) _ (by lia),upd,if_neg (by lia)]
theorem zdX{c:Nat}:∀(vs:List Int) (i:Nat) (M:Mem) (k:Nat),k<vs.length->yaz c i vs M c ((i+k:Nat):Int)=vs.getD k 0
 |[],_,_,_,h=>by simp at h
 |v::vs,i,M,0,h=>by
  rw[yaz,zcN _ vs (i+1) _ (by lia),upd,if_pos ⟨rfl,by simp⟩];rfl
 |v::vs,i,M,k+1,h=>by
  rw[yaz,show i+(k+1)=i+1+k by lia,zdX vs (i+1) _ k (by simpa using h)];rfl
theorem zcj{W:Int}(hW:0<W):∀(n:Nat) (x:Int) (k:Nat),k<n->(yg W n x).getD k 0=x/W^k%W
 |0,_,_,h=>by lia
 |n+1,x,0,h=>by simp[yg]
 |n+1,x,k+1,h=>by
  rw[yg];show (yg W n (x/W)).getD k 0=_;rw[zcj hW n (x/W) k (by lia),Aj,Ai (W^k),CW (by lia)]
theorem zbw{W x:Int}(hW:0<W)(n:Nat):x%W^(n+1)=x%W^n+x/W^n%W*W^n:=by
 have hp:0<W^n:=A9 hW;rw[Aj];generalize W^n=P at *;have e1:=B4 x P;have e2:=B4 (x/P) W;have a0:=Ak x (show P≠0 by lia);have a1:=Aa x hp;have b0:=Ak (x/P) (show W≠0 by lia);have b1:=Aa (x/P) hW;generalize x%P=r at *;generalize x/P=q at *;generalize q%W=s at *;generalize q/W=t at *;subst e2;have e3:x=r+s*P+P*W*t:=by
  rw[<-e1,HG,Ai P s,Be P W t];lia
 have c1:s*P<=(W-1)*P:=BY (by lia) (by lia);have c0:0<=s*P:=Cg b0 (by lia);rw[CZ,CK]at c1;rw[e3,Cf,A5 (by lia) (by rw[Ai P W];lia)]
theorem zdS{W:Int}(hW:0<W){M:Mem}{c:Nat}{x:Int}:∀n,(∀i:Nat,i<n->M c i=x/W^i%W)->yJ W M c n=x%W^n
 |0,_=>by simp[yJ,Gy]
 |n+1,h=>by rw[yJ,zdS hW n λi hi=>h i (by lia),h n (by lia),zbw hW]
section
variable {W:Int}(n:Nat)(x y:Int)
theorem zdz{d:Nat}(h1:d≠97)(h2:d≠98)(j:Int):yG W n x y d j=0:=by
 rw[yG,zbD h2,zbD h1];rfl
variable (hW:0<W)
include hW
theorem zjZ{i:Nat}(h:i<n):yG W n x y 97 i=x/W^i%W:=by
 rw[yG,zbD (by decide)];have:=zdX (c:=97) (yg W n x) 0 M0 i (by rw[zI];exact h);rw[BJ]at this;rw[this,zcj hW n x i h]
theorem zkj{i:Nat}(h:i<n):yG W n x y 98 i=y/W^i%W:=by
 rw[yG];have:=zdX (c:=98) (yg W n y) 0 (yaz 97 0 (yg W n x) M0) i (by rw[zI];exact h);rw[BJ]at this;rw[this,zcj hW n y i h]
theorem zfO:Dg W (yG W n x y) 97 n:=λi hi=>by
 rw[zjZ n x y hW hi];exact⟨Ak _ (by lia),Aa _ hW⟩
theorem zjA:Dg W (yG W n x y) 98 n:=λi hi=>by
 rw[zkj n x y hW hi];exact⟨Ak _ (by lia),Aa _ hW⟩
theorem zdi(h0:0<=x)(h1:x<W^n):yJ W (yG W n x y) 97 n=x:=by
 rw[zdS hW n λi hi=>zjZ n x y hW hi,A5 h0 h1]
theorem zhg(h0:0<=y)(h1:y<W^n):yJ W (yG W n x y) 98 n=y:=by
 rw[zdS hW n λi hi=>zkj n x y hW hi,A5 h0 h1]
end
theorem zeN{w:Nat}(hw:1<w)(M:Mem)(a b c:Cel)(ha:a.1≠115/\a.1≠116)(hb:b.1≠115/\b.1≠116)(hc:c.1≠115/\c.1≠116)(hz:M 122 0=0)
  (a0:0<=rd M a/\rd M a<2^w) (b0:0<=rd M b/\rd M b<2^w) (c0:0<=rd M c/\rd M c<2^w):
  (∀d j,d≠115->d≠116->(d≠109 \/ j≠1)->(yq (2^w) (yK a b c) M 0).1 d j=M d j)/\(yq (2^w) (yK a b c) M 0).2=0/\(yq (2^w) (yK a b c) M 0).1 109 1=(tb w (rd M a)+tb w (rd M b))%2*((tb w (rd M a)+tb w (rd M c))%2):=by
 have hW:(0:Int)<2^w:=A9 (by lia);have hW4:(4:Int)<=2^w:=by
  have h:(2:Nat)^2<=2^w:=Au (by lia) (by lia);have h2:=pw w;lia
 have x1:=zfs a0.1 a0.2 b0.1 b0.2;have x2:=zfs a0.1 a0.2 c0.1 c0.2;have t1:=zlY (by lia:0<w) x1.1 x1.2 x2.1 x2.2;rw[zji (by lia) a0.1 a0.2 b0.1 b0.2,zji (by lia) a0.1 a0.2 c0.1 c0.2]at t1;let⟨a1,a2⟩:=a;let⟨b1,b2⟩:=b;let⟨c1,c2⟩:=c;erw[rd]at *;have m1:=Ak (tb w (M a1 a2)+tb w (M b1 b2)) (show (2:Int)≠0 by decide);have m2:=Aa (tb w (M a1 a2)+tb w (M b1 b2)) (show (0:Int)<2 by decide);have m3:=Ak (tb w (M a1 a2)+tb w (M c1 c2)) (show (2:Int)≠0 by decide);have m4:=Aa (tb w (M a1 a2)+tb w (M c1 c2)) (show (0:Int)<2 by decide);have hr:0<=(tb w (M a1 a2)+tb w (M b1 b2))%2*((tb w (M a1 a2)+tb w (M c1 c2))%2)/\(tb w (M a1 a2)+tb w (M b1 b2))%2*((tb w (M a1 a2)+tb w (M c1 c2))%2)<=1:=by
  rcases (by lia:(tb w (M a1 a2)+tb w (M b1 b2))%2=0 \/ (tb w (M a1 a2)+tb w (M b1 b2))%2=1)with e|e<;>rw[e]<;>lia
 generalize (tb w (M a1 a2)+tb w (M b1 b2))%2*((tb w (M a1 a2)+tb w (M c1 c2))%2)=v at *;have n1:¬(c1=116):=hc.2;have n2:¬(a1=116):=ha.2;erw[yK,yq,stepM,rd,wr,upd,cS,cT,cZ,n1,n2,ET,false_and,if_false,and_self,if_true,hz,Fp];unfold tb at t1;rw[t1];refine⟨λd j h1 h2 h3=>?_,?_,?_⟩
 .simp only[h1,h2,false_and,if_false];rw[if_neg (by lia)]
 .exact BG (by lia) (by lia)
 .rw[Fq];exact A5 (by lia) (by lia)
theorem zka{X:Fl}{v:PV}{st:SO}(h:ybc [] X=.ok v []):ybc st X=.ok v st:=by
 cases X with
 |rt u s=>
  erw[ybc]at h ⊢
  by_cases c:nL u=AB
  .rw[if_pos c]at h ⊢;cases h;rfl
  .rw[if_neg c]at h;cases h
 |nx ρ s=>erw[ybc]at h ⊢;cases h;rfl
 |_=>cases h
theorem zds{k f:Nat}{fn:IC.Fn}{args:List PV}{v:PV}(hT:T f=AA fn)(hp:fn.pure=AB)(hl:args.length=fn.np)(hn:nLs args=AB)(h:yc T (k+1) f args []=.ok v [])(st:SO):yc T (k+1) f args st=.ok v st:=by
 rw[zc hT hp hl hn]at h ⊢;exact zka h
def ya8(W:Int):List Rw->Mem->Int->Prop
 |[],_,_=>True
 |r::rs,M,k=>(∀t x,r=.half t x->0<=rd M x/\rd M x<W/\0<=k/\k<2)/\ya8 W rs (stepM W M k r).1 (stepM W M k r).2
noncomputable def rnA:Css:=match yu.body with
 |.cons (.for _ _ b) _=>b
 |x=>x
noncomputable def rnB:Css:=match yu.body with
 |.cons _ (.cons (.for _ _ b) _)=>b
 |x=>x
theorem rnS:yu.body=.cons (.for (.n 2) (.seq (.var 1)) rnA) (.cons (.for (.n 2) (.seq (.var 1)) rnB) .nil):=rfl
theorem zik(r:Rw):nLs [yaA r]=true:=by cases r<;>rfl
section
variable {m l n:Nat}
theorem zcK(k:Nat){v:Option PV}(st:SO):∀(rs:List Rw),(∀r∈rs,yc T (k+1) zW [yaA r] []=.ok .non [])->∀p2,∃q2,ya1 (yc T (k+1)) (.n 2) rnA (rs.map yaA) [AA (.loc m),v,p2] st=.nx [AA (.loc m),v,q2] st
 |[],h,p2=>⟨p2,by rw[Ar,zD]⟩
 |r::rs,h,p2=>by
  let⟨q2,e⟩:=zcK k (v:=v) st rs (λq hq=>h q (AX _ hq)) (AA (yaA r));have e1:=zds (f:=zW) (fn:=zaF) rfl rfl rfl (zik r) (h r (by simp)) st;refine⟨q2,?_⟩;rw[AO,zn (ρ1:=[AA (.loc m),v,AA (yaA r)]) rfl];generalize yaA r=row at *;have hb:exs (yc T (k+1)) [AA (.loc m),v,AA row] st rnA=.nx [AA (.loc m),v,AA row] st:=by
   simp! [rnA,yu,e1]
  rw[hb];exact e
theorem zhu(k:Nat)(hn:n<=100)(hn1:1<=n){v:Option PV}:∀(rs:List Rw) (M:Mem) (mk:Int) (st:SO) (L:Nat) (p2:Option PV),MM st m l n M mk L->L+rs.length<999999->ya8 (2^n) rs M mk ->
  ∃st' q2,MM st' m l n (yq (2^n) rs M mk).1 (yq (2^n) rs M mk).2 (L+rs.length)/\(∀q,q≠m->q≠l->st'[q]?=st[q]?)/\st'.length=st.length/\ya1 (yc T (k+6)) (.n 2) rnB (rs.map yaA) [AA (.loc m),v,p2] st=.nx [AA (.loc m),v,q2] st'
 |[],M,mk,st,L,p2,h,hL,hh=>⟨st,p2,h,λ_ _ _=>rfl,rfl,by rw[Ar,zD]⟩
 |r::rs,M,mk,st,L,p2,h,hL,hh=>by
  erw[AT]at hL;let⟨s1,h1,o1,l1,e1⟩:=zl2 k h (by lia) hn hn1 r hh.1;let⟨s2,q2,h2,o2,l2,e2⟩:=zhu k hn hn1 (v:=v) rs _ _ s1 (L+1) (AA (yaA r)) h1 (by lia) hh.2;refine⟨s2,q2,?_,λq a b=>(o2 q a b).trans (o1 q a b),l2.trans l1,?_⟩
  .rw[yq,AT,show L+(rs.length+1)=L+1+rs.length by lia];exact h2
  .have ih:=h.ins (AG "go_row");rw[AO,zn (ρ1:=[AA (.loc m),v,AA (yaA r)]) rfl];generalize yaA r=row at *;have hb:exs (yc T (k+6)) [AA (.loc m),v,AA row] st rnB=.nx [AA (.loc m),v,AA row] s1:=by
    simp! [rnB,yu,ih,e1,IC.ve37]
   rw[hb];exact e2
theorem zhX(k:Nat)(hn:n<=100)(hn1:1<=n){rs:List Rw}{M:Mem}{mk:Int}{st:SO}{L:Nat}(h:MM st m l n M mk L)(hL:L+rs.length<999999)(hh:ya8 (2^n) rs M mk)(hA:∀r∈rs,yc T (k+6) zW [yaA r] []=.ok .non []):
  okM (yc T (k+7) zay [.loc m,.tp AD (rs.map yaA)] st) st m l n (yq (2^n) rs M mk).1 (yq (2^n) rs M mk).2 (L+rs.length):=by
 have hT:T zay=AA ⟨2,3,AD,yu.body⟩:=rfl;let⟨q2,e1⟩:=zcK (m:=m) (k+5) (v:=AA (.tp AD (rs.map yaA))) st rs hA AC;let⟨s2,q3,h2,o2,l2,e2⟩:=zhu k hn hn1 (v:=AA (.tp AD (rs.map yaA))) rs M mk st L q2 h hL hh;refine⟨s2,h2,o2,l2,?_⟩;rw[zz hT rfl rfl];show outI (exs (yc T (k+6)) [AA (.loc m),AA (.tp AD (rs.map yaA)),AC] st yu.body)=_;rw[rnS,xs_cons,x_for];generalize rs.map yaA=rows at *;simp! [e1,e2];rfl
theorem zgo:([97,98,99,100,109].all λc=>(C0 9).all λi=>isOk (yc T 8 zaK [.str ⟨#[c]⟩,.int (i:Nat)] []) (yO c (i:Nat)))=true:=by decide +kernel
theorem known(k:Nat){c i:Nat}(hc:c∈[97,98,99,100,109])(hi:i<9)(st:SO):yc T (8+k) zaK [.str ⟨#[c]⟩,.int (i:Int)] st=.ok (yO c i) st:=by
 have h:=Bb.1 zgo c hc;have h:=Bb.1 h i (by simpa using hi);have h:=zat (zba h) k;rw[show 8+k=7+k+1 by lia]at h ⊢;exact zds (f:=zaK) (fn:=zaS) rfl rfl rfl rfl h st
theorem yd2(k:Nat){st:SO}{L:Nat}{w mk:Int}{M:Mem}(h:MM st m l w M mk L){c i:Nat}(hc:c∈[97,98,99,100,109])(hi:i<9):yc T (9+k) zE [.loc m,.str ⟨#[c]⟩,.int (i:Int)] st=.ok (.int (M c i)) st:=by
 have hT:T zE=AA zR:=rfl;have e1:=known k hc hi st;have e2:yc T (8+k) zr [.loc m,yO c i] st=.ok (.int (M c i)) st:=by
  rw[show 8+k=7+k+1 by lia];exact zdv (7+k) h (c,(i:Int))
 have ih:=h.ins (AG "held_in");rw[show 9+k=8+k+1 by lia,zz hT rfl rfl];generalize yO c i=q at *;simp! [zR,ih,e1,e2,zfL,IC.ve37]
theorem zeb(k:Nat)(v lo hi:Int)(h1:lo<=v)(h2:v<=hi)(st:SO):yc T (k+1) zbR [.int v,.int lo,.int hi] st=.ok (.bl AB) st:=by
 have hT:T zbR=AA zaV:=rfl;rw[zc hT rfl rfl rfl];have e1:ya5 (.int v) [.int]=AA (.bl AB):=rfl;have e2:ya5 (.int v) [.bool]=AA (.bl AD):=rfl;simp! [zaV,e1,e2,decide_eq_true h1,decide_eq_true h2];rfl
theorem yeZ(k:Nat)(hn:n<=100){st:SO}{L:Nat}{mk:Int}{M:Mem}(h:MM st m l n M mk L)(hL:L<999999){c i:Nat}(hc:c∈[97,98,99,100,109])(hi:i<9){v:Int}(v0:0<=v)(v1:v<2^n):
  okM (yc T (9+k) zbj [.loc m,.str ⟨#[c]⟩,.int (i:Int),.int v] st) st m l n (upd M c i v) mk (L+1):=by
 have hT:T zbj=AA zac:=rfl;have e1:=known k hc hi st;have e2:yc T (8+k) zcD [.int n] st=.ok (.int (2^n-1)) st:=by rw[show 8+k=7+k+1 by lia];exact highest (7+k) n hn st
 have e3:yc T (8+k) zbR [.int v,.int 0,.int (2^n-1)] st=.ok (.bl AB) st:=by rw[show 8+k=7+k+1 by lia];exact zeb (7+k) v 0 (2^n-1) v0 (by lia) st
 let⟨s1,d1,⟨o,ho⟩,h1⟩:=h.sd hL (c,(i:Int)) v;refine⟨s1,h1,λq a b=>by rw[ho,AR (BI b)],by simp[ho],?_⟩;have d1:ya0 st (.loc l) (yO c i) (.int v)=AA s1:=d1;rw[show 9+k=8+k+1 by lia,zz hT rfl rfl];generalize yO c i=q at *;simp! [zac,e1,h.fw,e2,e3,h.fd,zgz,d1,zax,IC.ve32];rfl
end
theorem yd8{v:PV}:ybJ sw v []=[(sw,v)]:=rfl
theorem yed{a v:PV}:ybJ sws v [(sw,a)]=[(sw,a),(sws,v)]:=by ac_rfl
theorem yej{a b v:PV}:ybJ smk v [(sw,a),(sws,b)]=[(sw,a),(sws,b),(smk,v)]:=by ac_rfl
theorem ydH(k:Nat)(w:Int)(st:SO):yc T (k+1) zM [.loc st.length,.int w] (st++[.ins cM []])=.ok .non (st++[mob w (st.length+1) 0]++[.dct AB []]):=by
 have hT:T zM=AA zy:=rfl;have g0:(st++[Ob.ins cM []])[st.length]?=AA (.ins cM []):=by simp
 have s1:ya9 cM (st++[Ob.ins cM []]) (.loc st.length) sw (.int w)=AA (st++[.ins cM [(sw,.int w)]]):=by
  erw[ya9,g0];rw[if_pos ⟨trivial,by simp⟩,yd8];simp
 have g1:(st++[Ob.ins cM [(sw,.int w)]]++[Ob.dct AB []])[st.length]?=AA (.ins cM [(sw,.int w)]):=by simp
 have s2:ya9 cM (st++[Ob.ins cM [(sw,.int w)]]++[Ob.dct AB []]) (.loc st.length) sws (.loc (st.length+1))=AA (st++[.ins cM [(sw,.int w),(sws,.loc (st.length+1))]]++[.dct AB []]):=by
  erw[ya9,g1];rw[if_pos ⟨trivial,by simp⟩,yed];simp
 have g2:(st++[Ob.ins cM [(sw,.int w),(sws,.loc (st.length+1))]]++[Ob.dct AB []])[st.length]?=AA (.ins cM [(sw,.int w),(sws,.loc (st.length+1))]):=by simp
 have s3:ya9 cM (st++[Ob.ins cM [(sw,.int w),(sws,.loc (st.length+1))]]++[Ob.dct AB []]) (.loc st.length) smk (.int 0)=AA (st++[mob w (st.length+1) 0]++[.dct AB []]):=by
  erw[ya9,g2];rw[if_pos ⟨trivial,by simp⟩,yej];simp[mob]
 have hd:∀(ρ:IC.Env),ev (yc T k) ρ (st++[Ob.ins cM [(sw,.int w)]]) (.dict0 AB)=.ok (.loc (st.length+1)) (st++[Ob.ins cM [(sw,.int w)]]++[.dct AB []]):=λρ=>by
  erw[ev,Bi,Em]
 rw[zz hT rfl rfl];erw[zy,xs_cons,zhw,hd];have hlen:(st++[Ob.ins cM [(sw,.int w)]]).length=st.length+1:=by simp
 simp! [s1,zax,hlen,s2,s3];rfl
theorem zeK(W:Int)(hW:0<W)(x:Int):∀(n a:Nat),(yh n (a:Int) 1).map (λp=>match p with | .int j=>PV.int (x/W^j.toNat%W)|q=>q)=(yg W n (x/W^a)).map .int
 |0,a=>rfl
 |n+1,a=>by
  have h:=zeK W hW x n (a+1);rw[yh,AO,yg,AO]
  congr 1
  .rw[show ((a:Int)+1)=((a+1:Nat):Int)by lia,h,Aj,CW (Fr (A9 hW))]
theorem zkO(n:Nat)(hn:n<=1000):yr .shl (.int 1) (.int (n:Int))=AA (.int (2^n)):=by
 erw[yr,binI];rw[if_pos ⟨by lia,by lia,by decide⟩];simp
theorem zd9(a b:Nat)(ha:a<=1000):yr .mul (.int (a:Int)) (.int (b:Int))=AA (.int ((a*b:Nat):Int)):=by
 have h:yaw (a:Int) (b:Int)=true:=by
  erw[yaw,Ct,decide_eq_true_eq];exact .inl (by simp;lia)
 erw[yr,binI,h,if_true];simp
theorem lowest(k:Nat)(x:Int)(w n:Nat)(hw:w<=16)(hn:n<=8)(st:SO):yc T (k+1) zm [.int x,.int w,.int n] st=.ok (.tp AD ((yg (2^w) n x).map .int)) st:=by
 have hT:T zm=AA zT:=rfl;have e1:=zkO w (by lia);have hr:=zaw n (by lia);have hc:yar (yc T k) [AC,AA (.int (2^w-1)),AA (.int x),AA (.int w)] (.n 0) (.cst (.bl AB)) (.bin .band (.bin .shr (.var 2) (.bin .mul (.var 3) (.var 0))) (.var 1)) (yh n 0 1) []=.ok ((yg (2^w) n x).map .int) []:=by
  have h:=zeK (2^w) (A9 (by decide)) x n 0;rw[Ee,Gm]at h;rw[<-h];refine zeo _ λp hp=>?_;obtain⟨j,hj,rfl⟩:∃j:Nat,j<n/\p=.int (j:Int):=by
   have:∀(n a:Nat) (p:PV),p∈yh n (a:Int) 1->∃j:Nat,a<=j/\j<a+n/\p=.int (j:Int):=by
    intro n
    induction n with
    |zero=>intro a p h;cases h
    |succ n ih=>
     intro a p h;rw[yh]at h;rcases Ad.1 h with rfl|h
     .exact⟨a,AU _,by lia,rfl⟩
     .let⟨j,h1,h2,h3⟩:=ih (a+1) p (by rw[show ((a+1:Nat):Int)=(a:Int)+1 by lia];exact h);exact⟨j,by lia,by lia,h3⟩
   let⟨j,_,h2,h3⟩:=this n 0 p hp;exact⟨j,by lia,h3⟩
  have m1:=zd9 w j (by lia);have s1:yr .shr (.int x) (.int ((w*j:Nat):Int))=AA (.int (x/2^(w*j))):=by
   erw[yr,binI];rw[if_pos (by lia),CJ]
  have b1:=band (x/2^(w*j)) (2^w-1);rw[zeI (n:=w) (x/2^(w*j))]at b1;simp! [ybP,m1,s1,b1];rw[CJ,<-BN]
 rw[zc hT rfl rfl rfl];simp! [zT,e1,hr,hc];rw[zd2 _ (by simp[zI];lia)];have ht:yay .tuple [] [.lst ((yg (2^w) n x).map .int)]=AA (.tp AD ((yg (2^w) n x).map .int)):=rfl;simp! [ht];simp[ybc,nL,noLocs_ints]
theorem zae{W:Int}(hW:0<W):∀(n:Nat) (x:Int),∀v∈yg W n x,0<=v/\v<W
 |0,x,v,h=>by cases h
 |n+1,x,v,h=>by
  rw[yg]at h;rcases Ad.1 h with rfl|h
  .exact⟨Ak _ (by lia),Aa _ hW⟩
  .exact zae hW n _ v h
noncomputable def mwB:Css:=match yj.body with
 |.cons _ (.cons (.for _ _ b) _)=>b
 |x=>x
noncomputable def mwC:Css:=match mwB with
 |.cons (.for _ _ b) _=>b
 |x=>x
section
variable {m l n:Nat}
theorem ze6(k:Nat)(hn:n<=100){c:Nat}(hc:c∈[97,98,99,100,109]){p0 p1 p2 p3 p6:Option PV}:∀(ws:List Int) (i:Nat) (M:Mem) (st:SO) (L:Nat) (p7 p8:Option PV),(∀v∈ws,0<=v/\v<2^n)->i+ws.length<=9->MM st m l n M 0 L->L+ws.length<999999 ->
  ∃st' q7 q8,MM st' m l n (yaz c i ws M) 0 (L+ws.length)/\(∀q,q≠m->q≠l->st'[q]?=st[q]?)/\st'.length=st.length /\
   ya1 (yc T (9+k)) (.t [7,8]) mwC (yQ i (ws.map .int)) [p0,p1,p2,p3,AA (.loc m),AA (.str ⟨#[c]⟩),p6,p7,p8] st=.nx [p0,p1,p2,p3,AA (.loc m),AA (.str ⟨#[c]⟩),p6,q7,q8] st'
 |[],i,M,st,L,p7,p8,hv,hi,h,hL=>⟨st,p7,p8,h,λ_ _ _=>rfl,rfl,by rw[Ar,yQ,zD]⟩
 |v::ws,i,M,st,L,p7,p8,hv,hi,h,hL=>by
  erw[AT]at hi hL;let⟨v0,v1⟩:=hv v (by simp);let⟨s1,h1,o1,l1,e1⟩:=yeZ k hn h (by lia) hc (i:=i) (by lia) v0 v1;let⟨s2,q7,q8,h2,o2,l2,e2⟩:=ze6 k hn hc (p0:=p0) (p1:=p1) (p2:=p2) (p3:=p3) (p6:=p6) ws (i+1) (upd M c i v) s1 (L+1) (AA (.int i)) (AA (.int v)) (λu hu=>hv u (AX _ hu)) (by lia) h1 (by lia);refine⟨s2,q7,q8,?_,λq a b=>(o2 q a b).trans (o1 q a b),l2.trans l1,?_⟩
  .rw[yaz,AT,show L+(ws.length+1)=L+1+ws.length by lia];exact h2
  .have ih:=h.ins (AG "put");have bt:yH (.t [7,8]) (.tup [.int (i:Int),.int v]) [p0,p1,p2,p3,AA (.loc m),AA (.str ⟨#[c]⟩),p6,p7,p8]=AA [p0,p1,p2,p3,AA (.loc m),AA (.str ⟨#[c]⟩),p6,AA (.int i),AA (.int v)]:=rfl;rw[AO,yQ,zn bt];have hb:exs (yc T (9+k)) [p0,p1,p2,p3,AA (.loc m),AA (.str ⟨#[c]⟩),p6,AA (.int i),AA (.int v)] st mwC=.nx [p0,p1,p2,p3,AA (.loc m),AA (.str ⟨#[c]⟩),p6,AA (.int i),AA (.int v)] s1:=by
    simp! [mwC,mwB,yj,ih,e1,IC.ve37]
   rw[hb];exact e2
end
theorem zen(k:Nat)(w n:Nat)(hw:w<=16)(hn:n<=8)(x y:Int)(st:SO):
  ∃st' m l,st.length<=m/\st.length<=l/\MM st' m l w (yG (2^w) n x y) 0 (2*n)/\(∀q,q<st.length->st'[q]?=st[q]?)/\yc T (10+k) zap [.int w,.int n,.int x,.int y] st=.ok (.loc m) st':=by
 have hT:T zap=AA ⟨4,9,AD,yj.body⟩:=rfl;have e1:yc T (9+k) zM [.loc st.length,.int w] (st++[.ins cM []])=.ok .non (st++[mob w (st.length+1) 0]++[.dct AB []]):=by rw[show 9+k=8+k+1 by lia];exact ydH (8+k) w st
 obtain⟨s1,hs1⟩:∃s1,s1=st++[mob w (st.length+1) 0]++[.dct AB []]:=⟨_,rfl⟩;rw[<-hs1]at e1;have h1:MM s1 st.length (st.length+1) w M0 0 0:=by
  rw[hs1];exact⟨by simp,⟨[],by simp,λp hp=>(by cases hp),λc i=>rfl,by simp⟩,by lia⟩
 have eA:∀s,yc T (9+k) zm [.int x,.int w,.int n] s=.ok (.tp AD ((yg (2^w) n x).map .int)) s:=λs=>by rw[show 9+k=8+k+1 by lia];exact lowest (8+k) x w n hw hn s
 have eB:∀s,yc T (9+k) zm [.int y,.int w,.int n] s=.ok (.tp AD ((yg (2^w) n y).map .int)) s:=λs=>by rw[show 9+k=8+k+1 by lia];exact lowest (8+k) y w n hw hn s
 have lA:=zI (2^w) n x;have lB:=zI (2^w) n y;let⟨s2,q7,q8,h2,o2,l2,f2⟩:=ze6 k (by lia) (c:=97) (by simp) (p0:=AA (.int w)) (p1:=AA (.int n)) (p2:=AA (.int x)) (p3:=AA (.int y)) (p6:=AA (.int x)) (yg (2^w) n x) 0 M0 s1 0 AC AC (zae (A9 (by decide)) n x) (by lia) h1 (by lia);let⟨s3,r7,r8,h3,o3,l3,f3⟩:=ze6 k (by lia) (c:=98) (by simp) (p0:=AA (.int w)) (p1:=AA (.int n)) (p2:=AA (.int x)) (p3:=AA (.int y)) (p6:=AA (.int y)) (yg (2^w) n y) 0 _ s2 _ q7 q8 (zae (A9 (by decide)) n y) (by lia) h2 (by lia);refine⟨s3,st.length,st.length+1,AU _,by lia,?_,λq hq=>?_,?_⟩
 .rw[show 2*n=0+(yg (2^w) n x).length+(yg (2^w) n y).length by lia];exact h3
 .rw[o3 q (by lia) (by lia),o2 q (by lia) (by lia),hs1,DL,Ae hq]
 .have hb:yj.body=(match yj.body with
   |.cons a (.cons (.for t i _) r)=>.cons a (.cons (.for t i mwB) r)
   |x=>x):=rfl
  have hc:mwB=(match mwB with
   |.cons (.for t i _) r=>.cons (.for t i mwC) r
   |x=>x):=rfl
  have bt:∀(a b:PV) (p4 p5 p6 p7 p8:Option PV),yH (.t [5,6]) (.tp AD [a,b]) [AA (.int w),AA (.int n),AA (.int x),AA (.int y),p4,p5,p6,p7,p8]=AA [AA (.int w),AA (.int n),AA (.int x),AA (.int y),p4,AA a,AA b,p7,p8]:=λ_ _ _ _ _ _ _=>rfl;have cA:(AG "a")=⟨#[97]⟩:=by ac_rfl
  have cB:(AG "b")=⟨#[98]⟩:=by ac_rfl
  have g1:exs (yc T (9+k)) [AA (.int w),AA (.int n),AA (.int x),AA (.int y),AA (.loc st.length),AA (.str ⟨#[97]⟩),AA (.int x),AC,AC] s1 mwB=.nx [AA (.int w),AA (.int n),AA (.int x),AA (.int y),AA (.loc st.length),AA (.str ⟨#[97]⟩),AA (.int x),q7,q8] s2:=by
   rw[hc];simp! [mwB,yj,eA,f2]
  have g2:exs (yc T (9+k)) [AA (.int w),AA (.int n),AA (.int x),AA (.int y),AA (.loc st.length),AA (.str ⟨#[98]⟩),AA (.int y),q7,q8] s2 mwB=.nx [AA (.int w),AA (.int n),AA (.int x),AA (.int y),AA (.loc st.length),AA (.str ⟨#[98]⟩),AA (.int y),r7,r8] s3:=by
   rw[hc];simp! [mwB,yj,eB,f3]
  have ag:∀(ρ:IC.Env) (s:SO) (k:IC.Env->SO->Fl),yai (.nx ρ s) k=k ρ s:=λ_ _ _=>rfl;rw[show 10+k=9+k+1 by lia,zz hT rfl rfl];dsimp only;rw[hb];simp! [yj,e1,ybu,newV,hs1.symm,cA,cB,zn (bt _ _ _ _ _ _ _),zD,g1,g2,ag,zfL,IC.ve33]
noncomputable def getM(M:Mem)(c:Nat):Nat->Nat->List Int
 |_,0=>[]
 |a,n+1=>M c a::getM M c (a+1) n
theorem zcF(k:Nat){m l L:Nat}{w mk:Int}{M:Mem}{st:SO}(h:MM st m l w M mk L){c:Nat}(hc:c∈[97,98,99,100,109])(n:Nat)(hn:n<=8):
  yc T (10+k) zai [.loc m,.str ⟨#[c]⟩,.int n] st=.ok (.tp AD ((getM M c 0 n).map .int)) st:=by
 have hT:T zai=AA ⟨3,3,AD,yak.body⟩:=rfl;have hr:=zaw n (by lia);have ih:=h.ins (AG "word");have hl:∀(n a:Nat),(getM M c a n).length=n:=by
  intro n
  induction n with
  |zero=>intro a;rfl
  |succ n ihn=>intro a;simp[getM,ihn]
 have hcm:∀(n a:Nat),a+n<=9->yar (yc T (9+k)) [AC,AA (.str ⟨#[c]⟩),AA (.loc m)] (.n 0) (.cst (.bl AB)) (.mcl cM zE (AG "word") (.var 2) (.cons (.var 1) (.cons (.var 0) .nil))) (yh n (a:Int) 1) st=.ok ((getM M c a n).map .int) st:=by
  intro n
  induction n with
  |zero=>intro a _;rw[yh,zcY];rfl
  |succ n ihn=>
   intro a ha;have e:=yd2 k h hc (i:=a) (by lia);have one:ybP (yc T (9+k)) [AC,AA (.str ⟨#[c]⟩),AA (.loc m)] (.n 0) (.cst (.bl AB)) (.mcl cM zE (AG "word") (.var 2) (.cons (.var 1) (.cons (.var 0) .nil))) (.int (a:Int)) st=.ok (AA (.int (M c a))) st:=by
    simp! [ybP,ih,e,IC.ve37]
   have q:=ihn (a+1) (by lia);rw[yh,zbP,one,bd_ok,show ((a:Int)+1)=((a+1:Nat):Int)by lia,q,bd_ok];rfl
 have hcm:=hcm n 0 (by lia);have ht:yay .tuple st [.lst ((getM M c 0 n).map .int)]=AA (.tp AD ((getM M c 0 n).map .int)):=rfl;rw[show 10+k=9+k+1 by lia,zz hT rfl rfl];have hcm:yar (yc T (9+k)) [AC,AA (.str ⟨#[c]⟩),AA (.loc m)] (.n 0) (.cst (.bl AB)) (.mcl cM zE (AG "word") (.var 2) (.cons (.var 1) (.cons (.var 0) .nil))) (yh n 0 1) st=_:=hcm;simp! [yak,hr,hcm];rw[zd2 _ (by simp[hl];lia)];simp! [ht,zfL]
theorem zfn(k:Nat)(x:Int)(w n:Nat)(hw:w<=16)(hn:n<=8)(x0:0<=x)(x1:x<2^(w*n))(st:SO):yc T (k+2) za1 [.int x,.int w,.int n] st=.ok (.tp AD ((yg (2^w) n x).map .int)) st:=by
 have hT:T za1=AA za3:=rfl;have hwn:w*n<=1000:=by
  have:w*n<=16*8:=Bm hw hn;lia
 have m1:=zd9 w n (by lia);have s1:=zkO (w*n) hwn;have e1:∀s,yc T (k+1) zm [.int x,.int w,.int n] s=_:=λs=>lowest k x w n hw hn s;have c1:decide (x<0)=false:=decide_eq_false (by lia);have c2:decide ((2:Int)^(w*n)<=x)=false:=decide_eq_false (by lia);rw[zc hT rfl rfl rfl];generalize hL:yg (2^w) n x=ws at *;simp! [za3,c1,m1,s1,c2,e1];simp[ybc,nL,noLocs_ints]
structure yd6(pr:Prop)(deed:PV)(w n na:Nat)(rs:List Rw):Prop where
 nl:nL deed=AB
 isd:yc T 20 zeC [deed] []=.ok (.bl AB) []
 isp:pr->yc T 20 zcQ [deed] []=.ok (.bl AB) []
 quo:∀st,(idxV st deed (.int 0)).bind (λv=>yx .isin v zaf)=AA (.bl AD)
 rows:yc T 20 za9 [deed,.int w,.int n] []=.ok (.tp AD (rs.map yaA)) []
 ref:∀r∈rs,yc T 20 zW [yaA r] []=.ok .non []
 ans:yc T 20 zF [deed,.int n] []=.ok (.int na) []
 rest:yc T 20 zY [deed,.int n] []=.ok (.int 0) []
theorem zcl(k:Nat){pr:Prop}{deed:PV}{w n na:Nat}{rs:List Rw}(D:yd6 pr deed w n na rs)(hw:w<=16)(hn:n<=8){x y:Int}(x0:0<=x)(x1:x<2^(w*n))(y0:0<=y)(y1:y<2^(w*n))(hp:y≠0->pr)(st:SO):
  yc T (21+k) zad [deed,.int w,.int n,.int x,.int y] st=.ok .non st:=by
 have hT:T zad=AA zN:=rfl;have hnl:nLs [deed,.int w,.int n,.int x,.int y]=true:=by simp[nLs,D.nl,nL]
 have e1:=zat D.isd k;have e3:∀s,yc T (20+k) za1 [.int x,.int w,.int n] s=.ok (.tp AD ((yg (2^w) n x).map .int)) s:=λs=>by rw[show 20+k=18+k+2 by lia];exact zfn (18+k) x w n hw hn x0 x1 s
 have e4:∀s,yc T (20+k) za1 [.int y,.int w,.int n] s=.ok (.tp AD ((yg (2^w) n y).map .int)) s:=λs=>by rw[show 20+k=18+k+2 by lia];exact zfn (18+k) y w n hw hn y0 y1 s
 rw[show 21+k=20+k+1 by lia,zc hT rfl rfl hnl];have q:=D.quo []
 cases hi:idxV [] deed (.int 0)with
 |none=>rw[hi]at q;cases q
 |some v=>
  rw[hi,Bk]at q;generalize yg (2^w) n x=xs at *;generalize yg (2^w) n y=ys at *
  cases hy:(y==0)with
  |true=>simp! [zN,e1,e3,e4,hy,hi,q];rfl
  |false=>
   have e2:=zat (D.isp (hp (by intro h;rw[h]at hy;exact absurd hy (by decide)))) k;simp! [zN,e1,e2,e3,e4,hy];rfl
theorem ran(k:Nat){pr:Prop}{deed:PV}{w n na:Nat}{rs:List Rw}(D:yd6 pr deed w n na rs)(hw:w<=16)(hw1:1<=w)(hn:n<=4)(hna:na<=8)(hrs:rs.length<5000){x y:Int}(x0:0<=x)(x1:x<2^(w*n))(y0:0<=y)(y1:y<2^(w*n))(hp:y≠0->pr)(hh:ya8 (2^w) rs (yG (2^w) n x y) 0)(st:SO):
  yc T (22+k) ziU [deed,.int w,.int n,.int x,.int y] st=.ok (.tp AD [.tp AD ((getM (yq (2^w) rs (yG (2^w) n x y) 0).1 99 0 na).map .int),.tp AD [],.tp AD ((getM (yq (2^w) rs (yG (2^w) n x y) 0).1 109 0 4).map .int)]) st:=by
 have hT:T ziU=AA ⟨5,7,AB,ybT.body⟩:=rfl;have hnl:nLs [deed,.int w,.int n,.int x,.int y]=true:=by simp[nLs,D.nl,nL]
 have e1:=zcl k D hw (by lia) x0 x1 y0 y1 hp [];let⟨s2,m,l,_,_,h2,_,e2⟩:=zen (11+k) w n hw (by lia) x y [];have e2:yc T (21+k) zap [.int w,.int n,.int x,.int y] []=.ok (.loc m) s2:=by rw[show 21+k=10+(11+k)by lia];exact e2
 have nl3:nLs [deed,.int w,.int n]=true:=by simp[nLs,D.nl,nL]
 have nl2:nLs [deed,.int n]=true:=by simp[nLs,D.nl,nL]
 have up:∀{f:Nat} {fn:IC.Fn} {args:List PV} {v:PV},T f=AA fn->fn.pure=AB->args.length=fn.np->nLs args=AB->yc T 20 f args []=.ok v []->∀s,yc T (21+k) f args s=.ok v s:=λ{f fn args v} a b c d e s=>by
  have:=zat e (1+k);rw[show 20+(1+k)=20+k+1 by lia]at this;rw[show 21+k=20+k+1 by lia];exact zds a b c d this s
 have e3:=up (f:=za9) (fn:=zbe) rfl rfl rfl nl3 D.rows s2;let⟨s4,h4,_,_,e4⟩:=zhX (14+k) (n:=w) (by lia) hw1 h2 (rs:=rs) (by lia) hh (λr hr=>by
  have:=zat (D.ref r hr) k;rw[show 20+k=14+k+6 by lia]at this;exact this)
 have e4:yc T (21+k) zay [.loc m,.tp AD (rs.map yaA)] s2=.ok .non s4:=by rw[show 21+k=14+k+7 by lia];exact e4
 have e5:=up (f:=zF) (fn:=zS) rfl rfl rfl nl2 D.ans s4;have e6:=up (f:=zY) (fn:=zan) rfl rfl rfl nl2 D.rest s4;have n1:yc T (21+k) zai [.loc m,.str ⟨#[99]⟩,.int na] s4=.ok (.tp AD ((getM (yq (2^w) rs (yG (2^w) n x y) 0).1 99 0 na).map .int)) s4:=by
  have:=zcF (11+k) h4 (c:=99) (by simp) na hna;rw[show 10+(11+k)=21+k by lia]at this;exact this
 have n2:yc T (21+k) zai [.loc m,.str ⟨#[100]⟩,.int 0] s4=.ok (.tp AD []) s4:=by
  have:=zcF (11+k) h4 (c:=100) (by simp) 0 (by lia);rw[show 10+(11+k)=21+k by lia]at this;exact this
 have n3:yc T (21+k) zai [.loc m,.str ⟨#[109]⟩,.int 4] s4=.ok (.tp AD ((getM (yq (2^w) rs (yG (2^w) n x y) 0).1 109 0 4).map .int)) s4:=by
  have:=zcF (11+k) h4 (c:=109) (by simp) 4 (by lia);rw[show 10+(11+k)=21+k by lia]at this;exact this
 have ih:=h2.ins (AG "run");have cC:(AG "c")=⟨#[99]⟩:=by ac_rfl
 have cD:(AG "d")=⟨#[100]⟩:=by ac_rfl
 have cE:(AG "m")=⟨#[109]⟩:=by ac_rfl
 have vM:zbY=.int 4:=rfl;rw[show 22+k=21+k+1 by lia,zc hT rfl rfl hnl];dsimp only;generalize rs.map yaA=rows at *;generalize getM (yq (2^w) rs (yG (2^w) n x y) 0).1 99 0 na=A at *;generalize getM (yq (2^w) rs (yG (2^w) n x y) 0).1 109 0 4=B at *;simp! [ybT,e1,e2,ih,e3,e4,e5,e6,cC,cD,cE,vM,n1,n2,n3,IC.ve37];simp[ybc,nL,nLs,noLocs_ints]
def ybE(W:Int)(M:Mem):Prop:=∀c i,0<=M c i/\M c i<W
noncomputable def rwD:Rw->Prop
 |.mark d | .set _ d=>0<=d/\d<=1
 |_=>True
theorem zaI{W:Int}{M:Mem}(h:ybE W M){t:Cel}{v:Int}(h0:0<=v)(h1:v<W):ybE W (wr M t v):=λc i=>by
 erw[wr,upd];split
 .exact⟨h0,h1⟩
 .exact h c i
theorem zgP{W s:Int}(hW:0<W)(h0:0<=s)(h1:s<2*W):(0<=s%W/\s%W<W)/\0<=s/W/\s/W<=1:=
 ⟨⟨Ak _ (by lia),Aa _ hW⟩,Cv h0 (by lia),by have:=BP hW (show s<2*W from h1);lia⟩
theorem ziR{w:Nat}(hw:1<=w){M:Mem}{k:Int}(h:ybE (2^w) M)(k0:0<=k)(k1:k<=1):∀r,rwD r->ybE (2^w) (stepM (2^w) M k r).1/\0<=(stepM (2^w) M k r).2/\(stepM (2^w) M k r).2<=1:=by
 obtain⟨H,hH⟩:∃H:Int,(2:Int)^w=2*H:=⟨2^(w-1),by obtain⟨v,rfl⟩:∃v,w=v+1:=⟨w-1,by lia⟩;rw[Aj,Ai];rfl⟩;have hW:(0:Int)<2^w:=A9 (by lia);have R:∀x:Cel,0<=rd M x/\rd M x<2^w:=λx=>h x.1 x.2;intro r hr
 cases r with
 |mark d=>exact⟨h,hr⟩
 |ask x=>exact⟨h,zfv _⟩
 |set t d=>exact⟨zaI h hr.1 (by have:=hr.2;lia),k0,k1⟩
 |move t x=>exact⟨zaI h (R x).1 (R x).2,k0,k1⟩
 |bare t x=>exact⟨zaI h (by have:=(R x).2;lia) (by have:=(R x).1;lia),k0,k1⟩
 |twice t x=>
  let⟨a,b⟩:=zgP hW (s:=2*rd M x+k) (by have:=(R x).1;lia) (by have:=(R x).2;lia);exact⟨zaI h a.1 a.2,b⟩
 |half t x=>
  let⟨a,b⟩:=R x;have e:(2:Int)^w/2=H:=by lia
  refine⟨zaI h ?_ ?_,by show 0<=rd M x%2;lia,by show rd M x%2<=1;lia⟩
  .rw[e];rcases (by lia:k=0 \/ k=1)with rfl|rfl<;>lia
  .rw[e];rcases (by lia:k=0 \/ k=1)with rfl|rfl<;>lia
 |sum t x y=>
  let⟨a,b⟩:=zgP hW (s:=rd M x+rd M y+k) (by have:=(R x).1;have:=(R y).1;lia) (by have:=(R x).2;have:=(R y).2;lia);exact⟨zaI h a.1 a.2,b⟩
 |less t x y=>exact⟨zaI h (Ak _ (by lia)) (Aa _ hW),zfv _⟩
 |both t x y=>
  let⟨a,b⟩:=zjk (w:=w) (R x).1 (R y).1 (R y).2;exact⟨zaI h a b,k0,k1⟩
 |any t x y=>
  let⟨a,b⟩:=zjp (w:=w) (R x).1 (R x).2 (R y).1 (R y).2;exact⟨zaI h a b,k0,k1⟩
 |odd t x y=>
  let⟨a,b⟩:=zfs (w:=w) (R x).1 (R x).2 (R y).1 (R y).2;exact⟨zaI h a b,k0,k1⟩
theorem zgE{w:Nat}(hw:1<=w):∀(rs:List Rw) (M:Mem) (k:Int),(∀r∈rs,rwD r)->ybE (2^w) M->0<=k->k<=1->ybE (2^w) (yq (2^w) rs M k).1
 |[],M,k,_,h,_,_=>h
 |r::rs,M,k,hr,h,k0,k1=>by
  let⟨a,b,c⟩:=ziR hw h k0 k1 r (hr r (by simp));exact zgE hw rs _ _ (λx hx=>hr x (by simp[hx])) a b c
noncomputable def ybA(W:Int)(M:Mem)(c:Nat):Nat->Nat->Int
 |_,0=>0
 |a,n+1=>ybA W M c (a+1) n*W+M c a
theorem zfg(W:Int)(M:Mem)(c:Nat):∀(n a:Nat),ybA W M c a (n+1)=ybA W M c a n+M c ((a+n:Nat):Int)*W^n
 |0,a=>by simp[ybA]
 |n+1,a=>by
  have h:=zfg W M c n (a+1);rw[ybA,h,ybA,show a+1+n=a+(n+1)by lia,Aj,ED,Be];lia
theorem zjn(W:Int)(M:Mem)(c:Nat):∀n,ybA W M c 0 n=yJ W M c n
 |0=>rfl
 |n+1=>by rw[zfg,zjn W M c n,yJ,BJ]
theorem zg5{W:Int}(hW:0<W){M:Mem}(h:ybE W M)(c:Nat):∀n a,yg W n (ybA W M c a n)=getM M c a n
 |0,a=>rfl
 |n+1,a=>by
  let⟨h0,h1⟩:=h c a;have e1:(ybA W M c (a+1) n*W+M c a)%W=M c a:=by
   rw[Ec,Bv];exact A5 h0 h1
  have e2:(ybA W M c (a+1) n*W+M c a)/W=ybA W M c (a+1) n:=by
   rw[Ec,Int.add_mul_ediv_right _ _ (by lia),BG h0 h1,Fq]
  rw[ybA,yg,e1,e2,zg5 hW h c n (a+1),getM]
theorem zjQ{W:Int}(hW:0<W){M:Mem}(h:ybE W M)(c n:Nat){v:Int}(hv:yJ W M c n=v):getM M c 0 n=yg W n v:=by
 rw[<-zg5 hW h c n 0,zjn,hv]
def sgd(T x:Int):Int:=if T<=2*x then x-T else x
def ybg(T s:Int):Bool:=decide (0-T<=2*s)&&decide (2*s<T)
theorem zi1{T x y z k:Int}(x0:0<=x)(x1:x<T)(y0:0<=y)(y1:y<T)(r0:0<=z)(r1:z<T)(hk:k=0 \/ k=1)(s:z+k*T=x+y):k=bi (decide (T<=x+y))/\((if T<=2*z then 1 else 0)+if T<=2*x then(1:Int)else 0)%2*(((if T<=2*z then 1 else 0)+if T<=2*y then 1 else 0)%2)=bi (!ybg T (sgd T x+sgd T y)):=by
 constructor
 .rcases hk with rfl|rfl
  .rw[decide_eq_false (by lia)];rfl
  .rw[decide_eq_true (by lia)];rfl
 .unfold sgd ybg
  by_cases q1:T<=2*x<;>by_cases q2:T<=2*y<;>by_cases q3:T<=2*z<;>erw[q1,q2,q3,if_true,if_false]
  all_goals (rcases hk with rfl|rfl)
  all_goals first
   |(exfalso;lia)
   |(rw[decide_eq_true (by lia),decide_eq_true (by lia)];rfl)
   |(rw[decide_eq_false (by lia)];rfl)
   |(rw[decide_eq_true (by lia),decide_eq_false (by lia)];rfl)
theorem ziY{w:Nat}(hw:1<w){n:Nat}{x y:Int}(x0:0<=x)(x1:x<(2^w:Int)^(n+1))(y0:0<=y)(y1:y<(2^w:Int)^(n+1)):
  yJ (2^w) (yq (2^w) (yaq (n+1)) (yG (2^w) (n+1) x y) 0).1 99 (n+1)=(x+y)%(2^w:Int)^(n+1) /\
  (yq (2^w) (yaq (n+1)) (yG (2^w) (n+1) x y) 0).1 109 0=bi (decide ((2^w:Int)^(n+1)<=x+y)) /\
  (yq (2^w) (yaq (n+1)) (yG (2^w) (n+1) x y) 0).1 109 1=bi (!ybg ((2^w:Int)^(n+1)) (sgd ((2^w:Int)^(n+1)) x+sgd ((2^w:Int)^(n+1)) y)) /\
  (yq (2^w) (yaq (n+1)) (yG (2^w) (n+1) x y) 0).1 109 2=bi ((x+y)%(2^w:Int)^(n+1)==0) /\
  (yq (2^w) (yaq (n+1)) (yG (2^w) (n+1) x y) 0).1 109 3=bi (decide ((2^w:Int)^(n+1)<=2*((x+y)%(2^w:Int)^(n+1)))):=by
 have hW:(0:Int)<2^w:=A9 (by lia);have hW4:(4:Int)<=2^w:=by
  have h:(2:Nat)^2<=2^w:=Au (by lia) (by lia);have h2:=pw w;lia
 have e:yaq (n+1)=.mark 0::(yE (n+1) .sum++(.sum (109,0) cZ cZ::(yK (99,((n+1:Nat):Int)-1) (97,((n+1:Nat):Int)-1) (98,((n+1:Nat):Int)-1)++yC (n+1)))):=by
  simp[yaq,DL]
 have hn:((n+1:Nat):Int)-1=n:=by lia
 have da:=zfO (n+1) x y hW;have db:=zjA (n+1) x y hW;have va:=zdi (n+1) x y hW x0 x1;have vb:=zhg (n+1) x y hW y0 y1;have zo:yG (2^w) (n+1) x y 122 0=0:=zdz _ _ _ (by decide) (by decide) _;generalize yG (2^w) (n+1) x y=M at *;let⟨s1,s2,s3,s4,s5⟩:=zff hW (by lia) M 0 (by lia) (by lia) (n+1) da db;have hs0:stepM (2^w) M 0 (.mark 0)=(M,0):=rfl;rw[e,zaU,hs0,zG,zaU,hn];generalize yq (2^w) (yE (n+1) .sum) M 0=R at *;let⟨M1,k1⟩:=R;simp only at *;have z1:M1 122 0=0:=by rw[s1 122 0 (.inl (by decide)),zo]
 have hs:stepM (2^w) M1 k1 (.sum (109,0) cZ cZ)=(wr M1 (109,0) k1,0):=by
  erw[stepM,rd,cZ,z1];rw[show (0:Int)+0+k1=k1 by lia,A5 s3 (by lia),BG s3 (by lia)]
 rw[hs,zG];simp only;have g2:∀d j,(d≠109 \/ j≠0)->wr M1 (109,0) k1 d j=M1 d j:=λd j h=>by
  erw[wr,upd];rw[if_neg (by lia)]
 have g3:wr M1 (109,0) k1 109 0=k1:=by simp[wr,upd]
 generalize wr M1 (109,0) k1=M2 at *;have ga:∀j,M2 97 j=M 97 j:=λj=>by rw[g2 97 j (.inl (by decide)),s1 97 j (.inl (by decide))]
 have gb:∀j,M2 98 j=M 98 j:=λj=>by rw[g2 98 j (.inl (by decide)),s1 98 j (.inl (by decide))]
 have gc:∀j,M2 99 j=M1 99 j:=λj=>g2 99 j (.inl (by decide));have da2:Dg (2^w) M2 97 (n+1):=λi hi=>by rw[ga];exact da i hi
 have db2:Dg (2^w) M2 98 (n+1):=λi hi=>by rw[gb];exact db i hi
 have dc2:Dg (2^w) M2 99 (n+1):=λi hi=>by rw[gc];exact s2 i hi
 have ta:=zaJ (by lia) da2;have tb':=zaJ (by lia) db2;have tc:=zaJ (by lia) dc2;rw[zt (M':=M) (c':=97) _ λi hi=>ga i,va]at ta;rw[zt (M':=M) (c':=98) _ λi hi=>gb i,vb]at tb';let⟨r0,r1⟩:=zbh hW (n+1) dc2;have vc:yJ (2^w) M2 99 (n+1)=yJ (2^w) M1 99 (n+1):=zt _ λi hi=>gc i;rw[<-vc,va,vb]at s5;let⟨l1,l2,l3⟩:=zeN hw M2 (99,n) (97,n) (98,n) ⟨by simp,by simp⟩ ⟨by simp,by simp⟩ ⟨by simp,by simp⟩ (by rw[g2 122 0 (.inl (by decide)),z1]) (dc2 n (by lia)) (da2 n (by lia)) (db2 n (by lia));generalize yq (2^w) (yK (99,(n:Int)) (97,(n:Int)) (98,(n:Int))) M2 0=R at *;let⟨M3,k3⟩:=R;simp only at *;have gc3:∀j,M3 99 j=M2 99 j:=λj=>l1 99 j (by decide) (by decide) (.inl (by decide));have dc3:Dg (2^w) M3 99 (n+1):=λi hi=>by rw[gc3];exact dc2 i hi
 have vc3:yJ (2^w) M3 99 (n+1)=yJ (2^w) M2 99 (n+1):=zt _ λi hi=>gc3 i;let⟨e1,e2,e3,e4,e5⟩:=zdU hw M3 k3 dc3 (by rw[l1 122 0 (by decide) (by decide) (.inl (by decide)),g2 122 0 (.inl (by decide)),z1]);rw[zt (M':=M3) (c':=99) _ λi hi=>e1 i,e2,e3,e4,e5,vc3,l1 109 0 (by decide) (by decide) (.inr (by decide)),g3,l3];erw[rd];rw[tc,ta,tb'];generalize yJ (2^w) M2 99 (n+1)=z at *;generalize (2^w:Int)^(n+1)=T at *;have hz:(x+y)%T=z:=by
  rw[show x+y=z+k1*T by lia,Bv,A5 r0 r1]
 have hk:k1=0 \/ k1=1:=by lia
 rw[hz];let⟨o1,o2⟩:=zi1 x0 x1 y0 y1 r0 r1 hk (by lia);exact⟨rfl,o1,o2,rfl,rfl⟩
noncomputable def yaG(W:Int)(f:Nat->Int):Nat->Int
 |0=>0
 |n+1=>yaG W f n+f n*W^n
theorem zfq(W:Int)(M:Mem)(c:Nat):∀n,yaG W (λi=>M c i) n=yJ W M c n
 |0=>rfl
 |n+1=>by rw[yaG,yJ,zfq W M c n]
theorem zjl(W:Int):∀n,yaG W (λ_=>0) n=0
 |0=>rfl
 |n+1=>by rw[yaG,zjl W n];simp
theorem zec{W:Int}(hW:0<W)(M:Mem)(k:Int)(k0:0<=k)(k1:k<=1)(X Y:Int->Cel)(hX:∀i,(X i).1≠99)(hY:∀i,(Y i).1≠99):∀n:Nat,(∀i:Nat,i<n->0<=rd M (X i)/\rd M (X i)<W)->(∀i:Nat,i<n->0<=rd M (Y i)/\rd M (Y i)<W) ->
  (∀d j,(d≠99 \/ (n:Int)<=j)->(yq W (yo (λi=>.less (99,i) (X i) (Y i)) n) M k).1 d j=M d j)/\Dg W (yq W (yo (λi=>.less (99,i) (X i) (Y i)) n) M k).1 99 n/\0<=(yq W (yo (λi=>.less (99,i) (X i) (Y i)) n) M k).2/\(yq W (yo (λi=>.less (99,i) (X i) (Y i)) n) M k).2<=1/\yJ W (yq W (yo (λi=>.less (99,i) (X i) (Y i)) n) M k).1 99 n-(yq W (yo (λi=>.less (99,i) (X i) (Y i)) n) M k).2*W^n=yaG W (λi=>rd M (X i)) n-yaG W (λi=>rd M (Y i)) n-k
 |0,_,_=>⟨λ_ _ _=>rfl,λi hi=>by lia,k0,k1,by simp[yJ,yaG,yo,yq]⟩
 |n+1,ha,hb=>by
  let⟨h1,h2,h3,h4,h5⟩:=zec hW M k k0 k1 X Y hX hY n (λi hi=>ha i (by lia)) (λi hi=>hb i (by lia));rw[yo,zG];generalize yq W (yo (λi=>.less (99,i) (X i) (Y i)) n) M k=R at *;let⟨M1,k'⟩:=R;simp only at *;let⟨a0,a1⟩:=ha n (by lia);let⟨b0,b1⟩:=hb n (by lia);have rx:rd M1 (X n)=rd M (X n):=h1 _ _ (.inl (hX _));have ry:rd M1 (Y n)=rd M (Y n):=h1 _ _ (.inl (hY _));erw[yq,stepM,wr,rx,ry];rw[yaG,yaG];generalize rd M (X n)=A at *;generalize rd M (Y n)=B at *;have hq:∃q,0<=q/\q<=1/\bi (decide (A-B-k' < 0))=q/\(A-B-k')%W=A-B-k'+q*W:=by
   by_cases hl:A-B-k' < 0
   .refine⟨1,by lia,by lia,by rw[decide_eq_true hl];rfl,?_⟩;rw[CK,<-Du];exact A5 (by lia) (by lia)
   .refine⟨0,by lia,by lia,by rw[decide_eq_false hl];rfl,?_⟩;rw[Int.zero_mul,Fp];exact A5 (by lia) (by lia)
  let⟨q,q0,q1,e1,e2⟩:=hq;have d1:=Ak (A-B-k') (show W≠0 by lia);have d2:=Aa (A-B-k') hW;rw[e1];refine⟨λd j hd=>?_,λi hi=>?_,q0,q1,?_⟩
  .unfold upd;rw[if_neg (by lia),h1 d j (by lia)]
  .unfold upd
   by_cases hin:i=n
   .subst hin;rw[if_pos ⟨rfl,rfl⟩];exact⟨d1,d2⟩
   .rw[if_neg (by lia)];exact h2 i (by lia)
  .have hv:yJ W (upd M1 99 (n:Int) ((A-B-k')%W)) 99 (n+1)=yJ W M1 99 n+(A-B-k')%W*W^n:=by
    rw[yJ,zt (M':=M1) (c':=99) n λi hi=>by unfold upd;rw[if_neg (by lia)]];unfold upd;rw[if_pos ⟨rfl,rfl⟩]
   rw[hv,e2,Aj];generalize W^n=P at *;have e3:(A-B-k'+q*W)*P-q*(P*W)=A*P-B*P-k' * P:=by
    rw[ED,CZ,CZ,Be q W P,Ai W P];lia
   generalize (A-B-k'+q*W)*P=X1 at *;generalize q*(P*W)=X2 at *;lia
theorem zeQ{w:Nat}(hw:1<w){n:Nat}(M:Mem)(X Y:Int->Cel)(L0 L1:Cel)(hX:∀i,(X i).1≠99)(hY:∀i,(Y i).1≠99)
  (ha:∀i:Nat,i<n+1->0<=rd M (X i)/\rd M (X i)<2^w) (hb:∀i:Nat,i<n+1->0<=rd M (Y i)/\rd M (Y i)<2^w) (zo:M 122 0=0)
  (hL0:L0=X n) (hL1:L1=Y n) (l0:L0.1≠115/\L0.1≠116/\L0.1≠109) (l1:L1.1≠115/\L1.1≠116/\L1.1≠109):
  ∃z k1,0<=z/\z<(2^w:Int)^(n+1)/\(k1=0 \/ k1=1)/\z-k1*(2^w:Int)^(n+1)=yaG (2^w) (λi=>rd M (X i)) (n+1)-yaG (2^w) (λi=>rd M (Y i)) (n+1) /\
   ∃M4 k4,yq (2^w) (.mark 0::(yo (λi=>.less (99,i) (X i) (Y i)) (n+1)++(.sum (109,0) cZ cZ::(yK L0 L1 (99,n)++yC (n+1))))) M 0=(M4,k4) /\
    yJ (2^w) M4 99 (n+1)=z/\M4 109 0=k1/\M4 109 1=(tb w (rd M L0)+tb w (rd M L1))%2*((tb w (rd M L0)+if (2^w:Int)^(n+1)<=2*z then 1 else 0)%2)/\M4 109 2=bi (z==0)/\M4 109 3=bi (decide ((2^w:Int)^(n+1)<=2*z)):=by
 have hW:(0:Int)<2^w:=A9 (by lia);have hW4:(4:Int)<=2^w:=by
  have h:(2:Nat)^2<=2^w:=Au (by lia) (by lia);have h2:=pw w;lia
 let⟨s1,s2,s3,s4,s5⟩:=zec hW M 0 (by lia) (by lia) X Y hX hY (n+1) ha hb;have hs0:stepM (2^w) M 0 (.mark 0)=(M,0):=rfl;rw[zaU,hs0,zG,zaU];generalize yq (2^w) (yo (λi=>.less (99,i) (X i) (Y i)) (n+1)) M 0=R at *;let⟨M1,k1⟩:=R;simp only at *;have z1:M1 122 0=0:=by rw[s1 122 0 (.inl (by decide)),zo]
 have hs:stepM (2^w) M1 k1 (.sum (109,0) cZ cZ)=(wr M1 (109,0) k1,0):=by
  erw[stepM,rd,cZ,z1];rw[show (0:Int)+0+k1=k1 by lia,A5 s3 (by lia),BG s3 (by lia)]
 rw[hs,zG];simp only;have g2:∀d j,(d≠109 \/ j≠0)->wr M1 (109,0) k1 d j=M1 d j:=λd j h=>by
  erw[wr,upd];rw[if_neg (by lia)]
 have g3:wr M1 (109,0) k1 109 0=k1:=by simp[wr,upd]
 generalize wr M1 (109,0) k1=M2 at *;have gc:∀j,M2 99 j=M1 99 j:=λj=>g2 99 j (.inl (by decide));have dc2:Dg (2^w) M2 99 (n+1):=λi hi=>by rw[gc];exact s2 i hi
 have tc:=zaJ (by lia) dc2;let⟨r0,r1⟩:=zbh hW (n+1) dc2;have vc:yJ (2^w) M2 99 (n+1)=yJ (2^w) M1 99 (n+1):=zt _ λi hi=>gc i;rw[<-vc]at s5;have n0:L0.1≠99:=by rw[hL0];exact hX _
 have n1:L1.1≠99:=by rw[hL1];exact hY _
 have q0:rd M2 L0=rd M L0:=by
  show M2 L0.1 L0.2=M L0.1 L0.2;rw[g2 _ _ (.inl l0.2.2),s1 _ _ (.inl n0)]
 have q1:rd M2 L1=rd M L1:=by
  show M2 L1.1 L1.2=M L1.1 L1.2;rw[g2 _ _ (.inl l1.2.2),s1 _ _ (.inl n1)]
 have a0:=ha n (by lia);have b0:=hb n (by lia);rw[<-hL0,<-q0]at a0;rw[<-hL1,<-q1]at b0;let⟨e1,e2,e3⟩:=zeN hw M2 L0 L1 (99,n) ⟨l0.1,l0.2.1⟩ ⟨l1.1,l1.2.1⟩ ⟨by simp,by simp⟩ (by rw[g2 122 0 (.inl (by decide)),z1]) a0 b0 (dc2 n (by lia));rw[q0,q1,show rd M2 (99,(n:Int))=M2 99 n from rfl,tc]at e3;generalize yq (2^w) (yK L0 L1 (99,(n:Int))) M2 0=R at *;let⟨M3,k3⟩:=R;simp only at *;have gc3:∀j,M3 99 j=M2 99 j:=λj=>e1 99 j (by decide) (by decide) (.inl (by decide));have dc3:Dg (2^w) M3 99 (n+1):=λi hi=>by rw[gc3];exact dc2 i hi
 have vc3:yJ (2^w) M3 99 (n+1)=yJ (2^w) M2 99 (n+1):=zt _ λi hi=>gc3 i;let⟨f1,f2,f3,f4,f5⟩:=zdU hw M3 k3 dc3 (by rw[e1 122 0 (by decide) (by decide) (.inl (by decide)),g2 122 0 (.inl (by decide)),z1]);refine⟨yJ (2^w) M2 99 (n+1),k1,r0,r1,by lia,by lia,(yq (2^w) (yC (n+1)) M3 k3).1,(yq (2^w) (yC (n+1)) M3 k3).2,rfl,?_,?_,?_,?_,?_⟩
 .rw[zt (M':=M3) (c':=99) _ λi hi=>f1 i,vc3]
 .rw[f2,e1 109 0 (by decide) (by decide) (.inr (by decide)),g3]
 .rw[f3,e3]
 .rw[f4,vc3]
 .rw[f5,vc3]
theorem zgK{T x y z k:Int}(x0:0<=x)(x1:x<T)(y0:0<=y)(y1:y<T)(r0:0<=z)(r1:z<T)(hk:k=0 \/ k=1)(s:z-k*T=x-y):k=bi (decide (x<y))/\((if T<=2*x then 1 else 0)+if T<=2*y then(1:Int)else 0)%2*(((if T<=2*x then 1 else 0)+if T<=2*z then 1 else 0)%2)=bi (!ybg T (sgd T x-sgd T y)):=by
 constructor
 .rcases hk with rfl|rfl
  .rw[decide_eq_false (by lia)];rfl
  .rw[decide_eq_true (by lia)];rfl
 .unfold sgd ybg
  by_cases q1:T<=2*x<;>by_cases q2:T<=2*y<;>by_cases q3:T<=2*z<;>erw[q1,q2,q3,if_true,if_false]
  all_goals (rcases hk with rfl|rfl)
  all_goals first
   |(exfalso;lia)
   |(rw[decide_eq_true (by lia),decide_eq_true (by lia)];rfl)
   |(rw[decide_eq_false (by lia)];rfl)
   |(rw[decide_eq_true (by lia),decide_eq_false (by lia)];rfl)
theorem zeP{w:Nat}(hw:1<w){n:Nat}{x y:Int}(x0:0<=x)(x1:x<(2^w:Int)^(n+1))(y0:0<=y)(y1:y<(2^w:Int)^(n+1)):
  yJ (2^w) (yq (2^w) (yV (n+1)) (yG (2^w) (n+1) x y) 0).1 99 (n+1)=(x-y)%(2^w:Int)^(n+1) /\
  (yq (2^w) (yV (n+1)) (yG (2^w) (n+1) x y) 0).1 109 0=bi (decide (x<y)) /\
  (yq (2^w) (yV (n+1)) (yG (2^w) (n+1) x y) 0).1 109 1=bi (!ybg ((2^w:Int)^(n+1)) (sgd ((2^w:Int)^(n+1)) x-sgd ((2^w:Int)^(n+1)) y)) /\
  (yq (2^w) (yV (n+1)) (yG (2^w) (n+1) x y) 0).1 109 2=bi ((x-y)%(2^w:Int)^(n+1)==0) /\
  (yq (2^w) (yV (n+1)) (yG (2^w) (n+1) x y) 0).1 109 3=bi (decide ((2^w:Int)^(n+1)<=2*((x-y)%(2^w:Int)^(n+1)))):=by
 have hW:(0:Int)<2^w:=A9 (by lia);have hn:((n+1:Nat):Int)-1=n:=by lia
 have e:yV (n+1)=.mark 0::(yo (λi=>.less (99,i) (97,i) (98,i)) (n+1)++(.sum (109,0) cZ cZ::(yK (97,n) (98,n) (99,n)++yC (n+1)))):=by
  erw[yV,yE,hn,DL,Ao,Aw]
 have da:=zfO (n+1) x y hW;have db:=zjA (n+1) x y hW;let⟨z,k1,r0,r1,hk,s5,M4,k4,e0,v1,v2,v3,v4,v5⟩:=zeQ hw (n:=n) (yG (2^w) (n+1) x y) (λi=>(97,i)) (λi=>(98,i)) (97,n) (98,n) (λ_=>by simp) (λ_=>by simp) (λi hi=>da i hi) (λi hi=>db i hi) (zdz _ _ _ (by decide) (by decide) _) rfl rfl ⟨by simp,by simp,by simp⟩ ⟨by simp,by simp,by simp⟩;rw[e,e0];erw[rd]at v3 s5;rw[zfq (2^w) (yG (2^w) (n+1) x y) 97,zfq (2^w) (yG (2^w) (n+1) x y) 98,zdi (n+1) x y hW x0 x1,zhg (n+1) x y hW y0 y1]at s5;rw[zaJ (by lia) da,zaJ (by lia) db,zdi (n+1) x y hW x0 x1,zhg (n+1) x y hW y0 y1]at v3;generalize (2^w:Int)^(n+1)=T at *;have hz:(x-y)%T=z:=by
  rw[show x-y=z+(-k1)*T by rw[HH];lia,Bv,A5 r0 r1]
 erw[v1,v2,v3,v4,v5,hz];let⟨o1,o2⟩:=zgK x0 x1 y0 y1 r0 r1 hk (by lia);exact⟨trivial,o1,o2,trivial,trivial⟩
theorem zg9{w:Nat}(hw:1<w){n:Nat}{x y:Int}(x0:0<=x)(x1:x<(2^w:Int)^(n+1)):
  yJ (2^w) (yq (2^w) (yaf (n+1)) (yG (2^w) (n+1) x y) 0).1 99 (n+1)=(0-x)%(2^w:Int)^(n+1) /\
  (yq (2^w) (yaf (n+1)) (yG (2^w) (n+1) x y) 0).1 109 0=bi (!(x==0)) /\
  (yq (2^w) (yaf (n+1)) (yG (2^w) (n+1) x y) 0).1 109 1=bi (2*x==(2^w:Int)^(n+1)) /\
  (yq (2^w) (yaf (n+1)) (yG (2^w) (n+1) x y) 0).1 109 2=bi ((0-x)%(2^w:Int)^(n+1)==0) /\
  (yq (2^w) (yaf (n+1)) (yG (2^w) (n+1) x y) 0).1 109 3=bi (decide ((2^w:Int)^(n+1)<=2*((0-x)%(2^w:Int)^(n+1)))):=by
 have hW:(0:Int)<2^w:=A9 (by lia);have hn:((n+1:Nat):Int)-1=n:=by lia
 have e:yaf (n+1)=.mark 0::(yo (λi=>.less (99,i) ((λ_=>cZ) i) ((λi=>(97,i)) i)) (n+1)++(.sum (109,0) cZ cZ::(yK cZ (97,n) (99,n)++yC (n+1)))):=by
  erw[yaf,hn,DL,Ao,Aw]
 have da:=zfO (n+1) x y hW;have zo:yG (2^w) (n+1) x y 122 0=0:=zdz _ _ _ (by decide) (by decide) _;let⟨z,k1,r0,r1,hk,s5,M4,k4,e0,v1,v2,v3,v4,v5⟩:=zeQ hw (n:=n) (yG (2^w) (n+1) x y) (λ_=>cZ) (λi=>(97,i)) cZ (97,n) (λ_=>by simp) (λ_=>by simp) (λi hi=>by erw[rd,cZ,zo];lia) (λi hi=>da i hi) zo rfl rfl ⟨by simp,by simp,by simp⟩ ⟨by simp,by simp,by simp⟩;rw[e,e0];erw[rd,cZ,zo]at v3 s5;rw[zjl,zfq (2^w) (yG (2^w) (n+1) x y) 97,zdi (n+1) x y hW x0 x1]at s5;rw[zaJ (by lia) da,zdi (n+1) x y hW x0 x1,show tb w 0=0 by simp[tb]]at v3;generalize (2^w:Int)^(n+1)=T at *;have hz:(0-x)%T=z:=by
  rw[show 0-x=z+(-k1)*T by rw[HH];lia,Bv,A5 r0 r1]
 erw[v1,v2,v3,v4,v5,hz];refine⟨trivial,?_,?_,trivial,trivial⟩
 .rcases hk with rfl|rfl
  .rw[show x=0 by lia];rfl
  .rw[beq_eq_false_iff_ne.2 (by lia)];rfl
 .rcases hk with rfl|rfl<;>by_cases q1:T<=2*x<;>by_cases q3:T<=2*z<;>erw[q1,q3,if_true,if_false]
  all_goals first
   |(exfalso;lia)
   |(rw[beq_eq_false_iff_ne.2 (by lia)];rfl)
   |(rw[beq_iff_eq.2 (by lia)];rfl)
theorem zfo{W:Int}(M:Mem)(k:Int)(f:Int->Rw)(g:Int->Int)(hf:∀(M1:Mem) (i:Int),(∀d j,d≠99->M1 d j=M d j)->stepM W M1 k (f i)=(wr M1 (99,i) (g i),k)):∀n:Nat,
  (yq W (yo f n) M k).2=k/\(∀d j,d≠99->(yq W (yo f n) M k).1 d j=M d j)/\∀i:Nat,i<n->(yq W (yo f n) M k).1 99 i=g i
 |0=>⟨rfl,λ_ _ _=>rfl,λi hi=>by lia⟩
 |n+1=>by
  let⟨h1,h2,h3⟩:=zfo M k f g hf n;rw[yo,zG];generalize yq W (yo f n) M k=R at *;let⟨M1,k'⟩:=R;simp only at *;subst h1;erw[yq,hf M1 n h2];refine⟨trivial,λd j hd=>?_,λi hi=>?_⟩
  .simp only[wr,upd];rw[if_neg (by lia),h2 d j hd]
  .simp only[wr,upd]
   by_cases hin:i=n
   .subst hin;rw[if_pos ⟨trivial,rfl⟩]
   .rw[if_neg (by lia)];exact h3 i (by lia)
theorem zfu{w:Nat}(hw:1<w){n:Nat}(M:Mem)(f:Int->Rw)(g:Int->Int)(hf:∀(M1:Mem) (i:Int),(∀d j,d≠99->M1 d j=M d j)->stepM (2^w) M1 0 (f i)=(wr M1 (99,i) (g i),0))(hg:∀i:Nat,i<n+1->0<=g i/\g i<2^w)(zo:M 122 0=0)(m0:M 109 0=0)(m1:M 109 1=0):
  yJ (2^w) (yq (2^w) (yo f (n+1)++yC (n+1)) M 0).1 99 (n+1)=yaG (2^w) (λi=>g i) (n+1)/\(yq (2^w) (yo f (n+1)++yC (n+1)) M 0).1 109 0=0/\(yq (2^w) (yo f (n+1)++yC (n+1)) M 0).1 109 1=0 /\
  (yq (2^w) (yo f (n+1)++yC (n+1)) M 0).1 109 2=bi (yaG (2^w) (λi=>g i) (n+1)==0)/\(yq (2^w) (yo f (n+1)++yC (n+1)) M 0).1 109 3=bi (decide ((2^w:Int)^(n+1)<=2*yaG (2^w) (λi=>g i) (n+1))):=by
 let⟨h1,h2,h3⟩:=zfo (W:=2^w) M 0 f g hf (n+1);rw[zG];generalize yq (2^w) (yo f (n+1)) M 0=R at *;let⟨M1,k'⟩:=R;simp only at *;have dc:Dg (2^w) M1 99 (n+1):=λi hi=>by rw[h3 i hi];exact hg i hi
 have hv:∀m,m<=n+1->yJ (2^w) M1 99 m=yaG (2^w) (λi=>g i) m:=by
  intro m
  induction m with
  |zero=>intro _;rfl
  |succ m ih=>intro hm;rw[yJ,yaG,ih (by lia),h3 m (by lia)]
 let⟨e1,e2,e3,e4,e5⟩:=zdU hw M1 k' dc (by rw[h2 122 0 (by decide),zo]);rw[zt (M':=M1) (c':=99) _ λi hi=>e1 i,e2,e3,e4,e5,hv _ (AU _),h2 109 0 (by decide),h2 109 1 (by decide),m0,m1];exact⟨rfl,rfl,rfl,rfl,rfl⟩
theorem zg7{w:Nat}(hw:1<w){n:Nat}{x y:Int}(x0:0<=x)(x1:x<(2^w:Int)^(n+1)):
  yJ (2^w) (yq (2^w) (yau (n+1)) (yG (2^w) (n+1) x y) 0).1 99 (n+1)=(2^w:Int)^(n+1)-1-x /\
  (yq (2^w) (yau (n+1)) (yG (2^w) (n+1) x y) 0).1 109 0=0 /\
  (yq (2^w) (yau (n+1)) (yG (2^w) (n+1) x y) 0).1 109 1=0 /\
  (yq (2^w) (yau (n+1)) (yG (2^w) (n+1) x y) 0).1 109 2=bi ((2^w:Int)^(n+1)-1-x==0) /\
  (yq (2^w) (yau (n+1)) (yG (2^w) (n+1) x y) 0).1 109 3=bi (decide ((2^w:Int)^(n+1)<=2*((2^w:Int)^(n+1)-1-x))):=by
 have hW:(0:Int)<2^w:=A9 (by lia);have da:=zfO (n+1) x y hW;let⟨a1,a2,a3,a4,a5⟩:=zfu hw (n:=n) (yG (2^w) (n+1) x y) (λi=>.bare (99,i) (97,i)) (λi=>2^w-1-yG (2^w) (n+1) x y 97 i) (λM1 i h=>by
  erw[stepM,rd,h 97 i (by decide)]) (λi hi=>by have:=da i hi;lia) (zdz _ _ _ (by decide) (by decide) _) (zdz _ _ _ (by decide) (by decide) _) (zdz _ _ _ (by decide) (by decide) _)
 have hv:∀m,yaG (2^w) (λi=>2^w-1-yG (2^w) (n+1) x y 97 (i:Nat)) m=(2^w:Int)^m-1-yJ (2^w) (yG (2^w) (n+1) x y) 97 m:=by
  intro m
  induction m with
  |zero=>simp[yaG,yJ]
  |succ m ih=>
   rw[yaG,yJ,ih,Aj,CZ,CZ,CK,Ai (2^w) ((2^w)^m)];lia
 rw[hv,zdi (n+1) x y hW x0 x1]at a1 a4 a5;exact⟨a1,a2,a3,a4,a5⟩
theorem zfi{W:Int}(hW:0<W){f:Nat->Int}{x:Int}:∀n,(∀i:Nat,i<n->f i=x/W^i%W)->yaG W f n=x%W^n
 |0,_=>by simp[yaG,Gy]
 |n+1,h=>by rw[yaG,zfi hW n λi hi=>h i (by lia),h n (by lia),zbw hW]
structure Two(op:Nat->Nat->Nat)(oi:Int->Int->Int):Prop where
 cast:∀a b:Nat,oi a b=(op a b:Nat)
 mod:∀a b k:Nat,op a b%2^k=op (a%2^k) (b%2^k)
 div:∀a b k:Nat,op a b/2^k=op (a/2^k) (b/2^k)
 lt:∀a b k:Nat,a<2^k->b<2^k->op a b<2^k
theorem zgw:Two (· &&& ·) Ab:=⟨zdc,λa b k=>FI,λa b k=>FJ,λa b k h1 h2=>Ds a h2⟩
theorem zjx:Two (· ||| ·) BD:=⟨zbZ,λa b k=>F3,λa b k=>Nat.or_div_two_pow,λa b k h1 h2=>Fk h1 h2⟩
theorem zgD:Two (· ^^^ ·) Ax:=⟨zev,λa b k=>FH,λa b k=>FK,λa b k h1 h2=>Dt h1 h2⟩
theorem zeX(w i X:Nat):((X:Int)/(2^w:Int)^i%2^w)=((X/2^(w*i)%2^w:Nat):Int):=by
 rw[Nat.pow_mul];simp
theorem zcX{op:Nat->Nat->Nat}{oi:Int->Int->Int}(O:Two op oi)(f:Cel->Cel->Cel->Rw)(hf:∀W M k t x y,stepM W M k (f t x y)=(wr M t (oi (rd M x) (rd M y)),k)){w:Nat}(hw:1<w){n:Nat}{X Y:Nat}(x1:X<2^(w*(n+1)))(y1:Y<2^(w*(n+1))):
  yJ (2^w) (yq (2^w) (yag f (n+1)) (yG (2^w) (n+1) X Y) 0).1 99 (n+1)=(op X Y:Nat) /\
  (yq (2^w) (yag f (n+1)) (yG (2^w) (n+1) X Y) 0).1 109 0=0 /\
  (yq (2^w) (yag f (n+1)) (yG (2^w) (n+1) X Y) 0).1 109 1=0 /\
  (yq (2^w) (yag f (n+1)) (yG (2^w) (n+1) X Y) 0).1 109 2=bi (((op X Y:Nat):Int)==0) /\
  (yq (2^w) (yag f (n+1)) (yG (2^w) (n+1) X Y) 0).1 109 3=bi (decide ((2^w:Int)^(n+1)<=2*((op X Y:Nat):Int))):=by
 have hW:(0:Int)<2^w:=A9 (by lia);have hg:∀i:Nat,i<n+1->oi (yG (2^w) (n+1) X Y 97 i) (yG (2^w) (n+1) X Y 98 i)=((op X Y/2^(w*i)%2^w:Nat):Int):=λi hi=>by
  rw[zjZ _ _ _ hW hi,zkj _ _ _ hW hi,zeX,zeX,O.cast,O.div,O.mod]
 let⟨a1,a2,a3,a4,a5⟩:=zfu hw (n:=n) (yG (2^w) (n+1) X Y) (λi=>f (99,i) (97,i) (98,i)) (λi=>oi (yG (2^w) (n+1) X Y 97 i) (yG (2^w) (n+1) X Y 98 i)) (λM1 i h=>by
  rw[hf];erw[rd,h 97 i (by decide),h 98 i (by decide)]) (λi hi=>by
   rw[hg i hi,<-pw];have:=G9 (op X Y/2^(w*i)) (GP (n:=w) (show 0<2 by lia));lia) (zdz _ _ _ (by decide) (by decide) _) (zdz _ _ _ (by decide) (by decide) _) (zdz _ _ _ (by decide) (by decide) _)
 have hv:yaG (2^w) (λi=>oi (yG (2^w) (n+1) X Y 97 (i:Nat)) (yG (2^w) (n+1) X Y 98 (i:Nat))) (n+1)=(op X Y:Nat):=by
  rw[zfi (x:=((op X Y:Nat):Int)) hW (n+1) λi hi=>by rw[hg i hi,zeX]];have h1:=O.lt X Y _ x1 y1;rw[<-BN,<-pw];exact A5 (by lia) (by lia)
 rw[hv]at a1 a4 a5;exact⟨a1,a2,a3,a4,a5⟩
theorem zl9(a b:Bool):Ax (bi a) (bi b)=bi (a != b):=by
 cases a<;>cases b<;>decide +kernel
theorem zgu{w:Nat}(hw:1<w){n:Nat}{x y:Int}(x0:0<=x)(x1:x<(2^w:Int)^(n+1))(y0:0<=y)(y1:y<(2^w:Int)^(n+1)):
  (yq (2^w) (yU (n+1)) (yG (2^w) (n+1) x y) 0).1 109 0=bi (decide (x<y)) /\
  (yq (2^w) (yU (n+1)) (yG (2^w) (n+1) x y) 0).1 109 1=bi (decide (sgd ((2^w:Int)^(n+1)) x<sgd ((2^w:Int)^(n+1)) y)) /\
  (yq (2^w) (yU (n+1)) (yG (2^w) (n+1) x y) 0).1 109 2=bi (x==y) /\
  (yq (2^w) (yU (n+1)) (yG (2^w) (n+1) x y) 0).1 109 3=0:=by
 let⟨a1,a2,a3,a4,a5⟩:=zeP hw x0 x1 y0 y1;rw[yU,zG];generalize yq (2^w) (yV (n+1)) (yG (2^w) (n+1) x y) 0=R at *;let⟨M,k⟩:=R;simp only at *;erw[yq,stepM,rd,wr,upd,a2,a3,a4,a5,zl9,ET,Gx,and_false,and_self,if_true,if_false];generalize (2^w:Int)^(n+1)=T at *;have hT:0<T:=by lia
 obtain⟨z,hz,hzz⟩:∃z,(x-y)%T=z/\((x<y/\z=x-y+T) \/ (¬x<y/\z=x-y)):=by
  refine⟨_,rfl,?_⟩
  by_cases h:x<y
  .left;refine⟨h,?_⟩;rw[<-Du];exact A5 (by lia) (by lia)
  .right;exact⟨h,A5 (by lia) (by lia)⟩
 rw[hz];refine⟨trivial,?_,?_,trivial⟩
 .congr 1
  unfold sgd ybg;rcases hzz with⟨h,e⟩|⟨h,e⟩<;>by_cases q1:T<=2*x<;>by_cases q2:T<=2*y<;>by_cases q3:T<=2*z<;>erw[q1,q2,q3,if_true,if_false,decide_true,decide_false]
  all_goals first
   |(exfalso;lia)
   |(rw[decide_eq_true (by lia),decide_eq_true (by lia),decide_eq_true (by lia)];rfl)
   |(rw[decide_eq_true (by lia),decide_eq_true (by lia),decide_eq_false (by lia)];rfl)
   |(rw[decide_eq_true (by lia),decide_eq_false (by lia),decide_eq_true (by lia)];rfl)
   |(rw[decide_eq_true (by lia),decide_eq_false (by lia),decide_eq_false (by lia)];rfl)
   |(rw[decide_eq_false (by lia),decide_eq_true (by lia),decide_eq_true (by lia)];rfl)
   |(rw[decide_eq_false (by lia),decide_eq_true (by lia),decide_eq_false (by lia)];rfl)
 .congr 1
  rw[Cu];erw[beq_iff_eq];lia
noncomputable def nm8:Nat->AQ
 |0=>AG "sum" | 1=>AG "difference" | 2=>AG "turned" | 3=>AG "compare" | 4=>AG "both" | 5=>AG "any" | 6=>AG "odd" | _=>AG "bare"
def rw8:Nat->Nat->List Rw
 |0,n=>yaq n|1,n=>yV n|2,n=>yaf n|3,n=>yU n|4,n=>yag .both n|5,n=>yag .any n|6,n=>yag .odd n|_,n=>yau n
noncomputable def pr8(i:Nat):Bool:=i != 2&&i != 7
noncomputable def na8(i n:Nat):Nat:=if i=3 then 0 else n
def dd8(i:Nat):PV:=.tp AD [.str (nm8 i)]
noncomputable def rwB:Rw->Bool
 |.half _ _=>AD
 |.mark d | .set _ d=>decide (0<=d)&&decide (d<=1)
 |_=>AB
def ckA(i n:Nat):Bool:=isOk (yc T 20 zeC [dd8 i] []) (.bl AB)&&(!pr8 i || isOk (yc T 20 zcQ [dd8 i] []) (.bl AB))&&((rw8 i n).all λr=>rwB r&&isOk (yc T 20 zW [yaA r] []) .non)&&isOk (yc T 20 zF [dd8 i,.int n] []) (.int (na8 i n))&&isOk (yc T 20 zY [dd8 i,.int n] []) (.int 0)&&decide ((rw8 i n).length<5000)
def ckW(i n w:Nat):Bool:=isOk (yc T 20 za9 [dd8 i,.int w,.int n] []) (.tp AD ((rw8 i n).map yaA))
def ckN(i n:Nat):Bool:=ckA i n&&(C0 13).all λa=>ckW i n (4+a)
def ck4(i:Nat):Prop:=ckN i 1=AB/\ckN i 2=AB/\ckN i 3=AB/\ckN i 4=AB
theorem ygp:ck4 0/\ck4 1/\ck4 2/\ck4 3/\ck4 4/\ck4 5/\ck4 6/\ck4 7:=by
 unfold ck4;refine⟨⟨?_,?_,?_,?_⟩,⟨?_,?_,?_,?_⟩,⟨?_,?_,?_,?_⟩,⟨?_,?_,?_,?_⟩,⟨?_,?_,?_,?_⟩,⟨?_,?_,?_,?_⟩,⟨?_,?_,?_,?_⟩,⟨?_,?_,?_,?_⟩⟩<;>decide +kernel
theorem zmy{i n:Nat}(hi:i<8)(h1:1<=n)(h2:n<=4):ckN i n=true:=by
 let⟨a0,a1,a2,a3,a4,a5,a6,a7⟩:=ygp;have h:ck4 i:=by
  rcases (by lia:i=0 \/ i=1 \/ i=2 \/ i=3 \/ i=4 \/ i=5 \/ i=6 \/ i=7)with rfl|rfl|rfl|rfl|rfl|rfl|rfl|rfl<;>assumption
 let⟨b1,b2,b3,b4⟩:=h;rcases (by lia:n=1 \/ n=2 \/ n=3 \/ n=4)with rfl|rfl|rfl|rfl<;>assumption
theorem zgs{W:Int}:∀(rs:List Rw) (M:Mem) (k:Int),(∀r∈rs,rwB r=AB)->ya8 W rs M k
 |[],_,_,_=>trivial
 |r::rs,M,k,h=>⟨(λt x e=>by have:=h r (by simp);rw[e]at this;cases this),zgs rs _ _ λa ha=>h a (by simp[ha])⟩
theorem znB{r:Rw}(h:rwB r=AB):rwD r:=by
 cases r<;>first|trivial|(erw[rwB,AK,decide_eq_true_eq]at h;exact h)
theorem ycZ{i n w:Nat}(hi:i<8)(h1:1<=n)(h2:n<=4)(hw:4<=w)(hw2:w<=16):yd6 (pr8 i=AB) (dd8 i) w n (na8 i n) (rw8 i n)/\(∀r∈rw8 i n,rwB r=AB)/\(rw8 i n).length<5000:=by
 have c:=zmy hi h1 h2;erw[ckN,ckA,AK,Bb,decide_eq_true_eq]at c;let⟨⟨⟨⟨⟨⟨c1,c2⟩,c3⟩,c4⟩,c5⟩,c6⟩,c7⟩:=c;have c7:=c7 (w-4) (by simp;lia);rw[show 4+(w-4)=w by lia]at c7;have hq:∀st,(idxV st (dd8 i) (.int 0)).bind (λv=>yx .isin v zaf)=AA (.bl AD):=λst=>by
  rcases (by lia:i=0 \/ i=1 \/ i=2 \/ i=3 \/ i=4 \/ i=5 \/ i=6 \/ i=7)with rfl|rfl|rfl|rfl|rfl|rfl|rfl|rfl<;>ac_rfl
 exact⟨⟨rfl,zba c1,λp=>zba (by rw[p]at c2;exact c2),hq,zba c7,λr hr=>zba (c3 r hr).2,zba c4,zba c5⟩,λr hr=>(c3 r hr).1,c6⟩
theorem zdY{W:Int}(c:Nat):∀(ws:List Int) (i:Nat) (M:Mem),(∀v∈ws,0<=v/\v<W)->ybE W M->ybE W (yaz c i ws M)
 |[],i,M,_,h=>h
 |v::ws,i,M,hv,h=>zdY c ws (i+1) _ (λu hu=>hv u (by simp[hu])) (zaI (t:=(c,(i:Int))) h (hv v (by simp)).1 (hv v (by simp)).2)
theorem zkK{W:Int}(hW:0<W)(n:Nat)(x y:Int):ybE W (yG W n x y):=
 zdY 98 _ _ _ (zae hW n y) (zdY 97 _ _ _ (zae hW n x) λ_ _=>⟨by simp[M0],by simpa [M0] using hW⟩)
def sp8(i:Nat)(P x y:Int):Int×Int×Int:=match i with
 |0=>((x+y)%P,bi (decide (P<=x+y)),bi (!ybg P (sgd P x+sgd P y)))
 |1=>((x-y)%P,bi (decide (x<y)),bi (!ybg P (sgd P x-sgd P y)))
 |2=>((0-x)%P,bi (!(x==0)),bi (2*x==P))
 |4=>(Ab x y,0,0)
 |5=>(BD x y,0,0)
 |6=>(Ax x y,0,0)
 |_=>(P-1-x,0,0)
noncomputable abbrev dv(ws:List Int)(a b c d:Int):PV:=.tp AD [.tp AD (ws.map .int),.tp AD [],.tp AD [.int a,.int b,.int c,.int d]]
def yao(i w n:Nat)(x y:Int):PV:=if i=3 then dv [] (bi (decide (x<y))) (bi (decide (sgd ((2^w:Int)^n) x<sgd ((2^w:Int)^n) y))) (bi (x==y)) 0
 else dv (yg (2^w) n (sp8 i ((2^w:Int)^n) x y).1) (sp8 i ((2^w:Int)^n) x y).2.1 (sp8 i ((2^w:Int)^n) x y).2.2 (bi ((sp8 i ((2^w:Int)^n) x y).1==0)) (bi (decide ((2^w:Int)^n<=2*(sp8 i ((2^w:Int)^n) x y).1)))
theorem ydG{i:Nat}(hi:i<8)(h3:i≠3){w n:Nat}(hw:4<=w){x y:Int}(x0:0<=x)(x1:x<(2^w:Int)^(n+1))(y0:0<=y)(y1:y<(2^w:Int)^(n+1)):
  yJ (2^w) (yq (2^w) (rw8 i (n+1)) (yG (2^w) (n+1) x y) 0).1 99 (n+1)=(sp8 i ((2^w:Int)^(n+1)) x y).1 /\
  (yq (2^w) (rw8 i (n+1)) (yG (2^w) (n+1) x y) 0).1 109 0=(sp8 i ((2^w:Int)^(n+1)) x y).2.1 /\
  (yq (2^w) (rw8 i (n+1)) (yG (2^w) (n+1) x y) 0).1 109 1=(sp8 i ((2^w:Int)^(n+1)) x y).2.2 /\
  (yq (2^w) (rw8 i (n+1)) (yG (2^w) (n+1) x y) 0).1 109 2=bi ((sp8 i ((2^w:Int)^(n+1)) x y).1==0) /\
  (yq (2^w) (rw8 i (n+1)) (yG (2^w) (n+1) x y) 0).1 109 3=bi (decide ((2^w:Int)^(n+1)<=2*(sp8 i ((2^w:Int)^(n+1)) x y).1)):=by
 let⟨X,rfl⟩:=zav x0;let⟨Y,rfl⟩:=zav y0;have X1:X<2^(w*(n+1)):=by
  have:=pw (w*(n+1));rw[<-BN]at x1;lia
 have Y1:Y<2^(w*(n+1)):=by
  have:=pw (w*(n+1));rw[<-BN]at y1;lia
 rcases (by lia:i=0 \/ i=1 \/ i=2 \/ i=4 \/ i=5 \/ i=6 \/ i=7)with rfl|rfl|rfl|rfl|rfl|rfl|rfl
 .exact ziY (by lia) x0 x1 y0 y1
 .exact zeP (by lia) x0 x1 y0 y1
 .exact zg9 (by lia) x0 x1
 .have h:=zcX zgw .both (λ_ _ _ _ _ _=>rfl) (w:=w) (by lia) X1 Y1;erw[sp8,zdc];exact h
 .have h:=zcX zjx .any (λ_ _ _ _ _ _=>rfl) (w:=w) (by lia) X1 Y1;erw[sp8,zbZ];exact h
 .have h:=zcX zgD .odd (λ_ _ _ _ _ _=>rfl) (w:=w) (by lia) X1 Y1;erw[sp8,zev];exact h
 .exact zg7 (by lia) x0 x1
theorem yfP(k:Nat){i:Nat}(hi:i<8){w n:Nat}(hw:4<=w)(hw2:w<=16)(h1:1<=n)(h2:n<=4){x y:Int}(x0:0<=x)(x1:x<(2^w:Int)^n)(y0:0<=y)(y1:y<(2^w:Int)^n)(hy:pr8 i=AD->y=0)(st:SO):
  yc T (22+k) ziU [dd8 i,.int w,.int n,.int x,.int y] st=.ok (yao i w n x y) st:=by
 obtain⟨n,rfl⟩:∃m,n=m+1:=⟨n-1,by lia⟩;let⟨D,hr,hl⟩:=ycZ hi h1 h2 hw hw2;have hW:(0:Int)<2^w:=A9 (by lia);have q:=ran k D hw2 (by lia) h2 (by unfold na8;split<;>lia) hl x0 (by rw[BN];exact x1) y0 (by rw[BN];exact y1) (λh=>by cases e:pr8 i with|true=>rfl|false=>exact absurd (hy e) h) (zgs _ _ _ hr) st;have R:=zgE (w:=w) (by lia) (rw8 i (n+1)) (yG (2^w) (n+1) x y) 0 (λr h=>znB (hr r h)) (zkK hW _ _ _) (by lia) (by lia);have hm:∀M:Mem,(getM M 109 0 4).map PV.int=[.int (M 109 0),.int (M 109 1),.int (M 109 2),.int (M 109 3)]:=λ_=>rfl;rw[q,hm]
 by_cases h3:i=3
 .subst h3;let⟨m1,m2,m3,m4⟩:=zgu (w:=w) (by lia) x0 x1 y0 y1;erw[yao,if_true];show IC.R.ok (PV.tp AD [.tp AD [],.tp AD [],.tp AD [.int ((yq (2^w) (yU (n+1)) (yG (2^w) (n+1) x y) 0).1 109 0),.int ((yq (2^w) (yU (n+1)) (yG (2^w) (n+1) x y) 0).1 109 1),.int ((yq (2^w) (yU (n+1)) (yG (2^w) (n+1) x y) 0).1 109 2),.int ((yq (2^w) (yU (n+1)) (yG (2^w) (n+1) x y) 0).1 109 3)]]) st=_;rw[m1,m2,m3,m4];rfl
 .let⟨m1,m2,m3,m4,m5⟩:=ydG hi h3 hw x0 x1 y0 y1;rw[show na8 i (n+1)=n+1 by simp[na8,h3],zjQ hW R 99 (n+1) m1,m2,m3,m4,m5];erw[yao,h3,if_false]
theorem zjX{i:Int}{j:Nat}:yr .shr (.int i) (.int (j:Int))=AA (.int (i/2^j)):=by
 erw[yr,binI];rw[if_pos (by lia)];simp
theorem znK{i:Int}{j:Nat}(h:i.natAbs<18446744073709551616)(hj:j<=1000):yr .shl (.int i) (.int (j:Int))=AA (.int (i*2^j)):=by
 have hc:(0:Int)<=j/\(j:Int)<=1000000/\i.natAbs<18446744073709551616:=⟨by lia,by lia,h⟩;show (if (0:Int)<=j/\(j:Int)<=1000000/\i.natAbs<18446744073709551616 then AA (PV.int (i*2^(j:Int).toNat))else AC)=_;rw[if_pos hc];rfl
theorem zlS(k:Nat){x a b u v r:Int}(hs:a-1=b)(q1:yr .shr (.int x) (.int b)=AA (.int u))(q2:yr .shl (.int u) (.int a)=AA (.int v))(q3:x-v=r)(st:SO):yc T (k+1) zao [.int x,.int a] st=.ok (.int r) st:=by
 have hT:T zao=AA zQ:=rfl;rw[zc hT rfl rfl rfl];simp! [zQ,hs,q1,q2,q3];rfl
theorem zlh(k:Nat){s a b h:Int}{f:Bool}(hs:a-1=b)(q1:yr .shl (.int 1) (.int b)=AA (.int h))(q2:(decide (-h<=s)&&decide (s<h))=f)(st:SO):yc T (k+1) ze3 [.int s,.int a] st=.ok (.int (bi (!f))) st:=by
 have hT:T ze3=AA zcO:=rfl;rw[zc hT rfl rfl rfl]
 cases e1:decide (-h<=s)with
 |false=>
  rw[e1,G1]at q2;subst q2;simp! [zcO,hs,q1,e1,blO];rfl
 |true=>
  rw[e1,DU]at q2;subst q2
  cases e2:decide (s<h)<;>simp! [zcO,hs,q1,e1,e2,blO]<;>rfl
theorem zJ(k:Nat){K:Nat}(hK:1<=K)(hK2:K<=64){x:Int}(x0:0<=x)(x1:x<2^K)(st:SO):yc T (k+1) zao [.int x,.int K] st=.ok (.int (sgd (2^K) x)) st:=by
 obtain⟨j,rfl⟩:∃j,K=j+1:=⟨K-1,by lia⟩;have p:(0:Int)<2^j:=A9 (by lia);have e:(2:Int)^(j+1)=2*2^j:=by rw[Aj,Ai]
 have hd:x/2^j=if 2*2^j<=2*x then 1 else 0:=by
  rw[e]at x1;split
  .have h1:1<=x/2^j:=C6 p (by lia);have h2:x/2^j<2:=BP p (by lia);lia
  .exact BG x0 (by lia)
 refine zlS k (b:=(j:Int)) (by lia) zjX (znK (by rw[hd];split<;>lia) (by lia)) ?_ st;rw[hd,e];unfold sgd;split
 .rw[CK]
 .lia
theorem yc8(k:Nat){K:Nat}(hK:1<=K)(hK2:K<=64)(s:Int)(st:SO):yc T (k+1) ze3 [.int s,.int K] st=.ok (.int (bi (!ybg (2^K) s))) st:=by
 obtain⟨j,rfl⟩:∃j,K=j+1:=⟨K-1,by lia⟩;have e:(2:Int)^(j+1)=2*2^j:=by rw[Aj,Ai]
 refine zlh k (b:=(j:Int)) (by lia) (zkO j (by lia)) ?_ st;unfold ybg;rw[e]
 congr 1
 .exact decide_eq_decide.2 (by lia)
 .exact decide_eq_decide.2 (by lia)
theorem ib(b:Bool)(st:SO):yay .int st [.bl b]=AA (.int (bi b)):=by cases b<;>rfl
theorem compared(k:Nat){K:Nat}(hK:1<=K)(hK2:K<=64){x y:Int}(x0:0<=x)(x1:x<2^K)(y0:0<=y)(y1:y<2^K)(st:SO):yc T (k+2) zbS [.int x,.int y,.int K] st=.ok (.tp AD [.int (bi (decide (x<y))),.int (bi (decide (sgd (2^K) x<sgd (2^K) y))),.int (bi (x==y)),.int 0]) st:=by
 have hT:T zbS=AA zaZ:=rfl;have e1:=λs=>zJ k hK hK2 x0 x1 s;have e2:=λs=>zJ k hK hK2 y0 y1 s;rw[zc hT rfl rfl rfl];generalize (K:Int)=a at *;generalize sgd (2^K) x=u at *;generalize sgd (2^K) y=v at *;simp! [zaZ,e1,e2,ib];rfl
theorem zn4(k:Nat){K:Nat}(hK:1<=K)(hK2:K<=64){x y:Int}(x0:0<=x)(x1:x<2^K)(y0:0<=y)(y1:y<2^K)(st:SO):yc T (k+2) zaN [.int x,.int y,.int K] st=.ok (.tp AD [.int (x+y),.int (bi (decide ((2:Int)^K<=x+y))),.int (bi (!ybg (2^K) (sgd (2^K) x+sgd (2^K) y)))]) st:=by
 have hT:T zaN=AA zK:=rfl;have e1:=λs=>zJ k hK hK2 x0 x1 s;have e2:=λs=>zJ k hK hK2 y0 y1 s;have e3:=λs=>yc8 k hK hK2 (sgd (2^K) x+sgd (2^K) y) s;have hp:(0:Int)<2^K:=A9 (by lia);have q1:=zjX (i:=x+y) (j:=K);have hd:(x+y)/2^K=bi (decide ((2:Int)^K<=x+y)):=by
  by_cases h:(2:Int)^K<=x+y
  .have h1:1<=(x+y)/2^K:=C6 hp (by lia);have h2:(x+y)/2^K<2:=BP hp (by lia);rw[decide_eq_true h];show _=(1:Int);lia
  .rw[decide_eq_false h];exact BG (by lia) (by lia)
 rw[hd]at q1;rw[zc hT rfl rfl rfl];generalize (K:Int)=a at *;generalize sgd (2^K) x=u at *;generalize sgd (2^K) y=v at *;generalize bi (decide ((2:Int)^K<=x+y))=c at *;simp! [zK,e1,e2,e3,q1];rfl
theorem zjt(k:Nat){K:Nat}(hK:1<=K)(hK2:K<=64){x y:Int}(x0:0<=x)(x1:x<2^K)(y0:0<=y)(y1:y<2^K)(st:SO):yc T (k+2) zah [.int x,.int y,.int K] st=.ok (.tp AD [.int (x-y),.int (bi (decide (x<y))),.int (bi (!ybg (2^K) (sgd (2^K) x-sgd (2^K) y)))]) st:=by
 have hT:T zah=AA zx:=rfl;have e1:=λs=>zJ k hK hK2 x0 x1 s;have e2:=λs=>zJ k hK hK2 y0 y1 s;have e3:=λs=>yc8 k hK hK2 (sgd (2^K) x-sgd (2^K) y) s;rw[zc hT rfl rfl rfl];generalize (K:Int)=a at *;generalize sgd (2^K) x=u at *;generalize sgd (2^K) y=v at *;simp! [zx,e1,e2,e3,ib];rfl
theorem zmH(k:Nat){K:Nat}(hK:1<=K)(hK2:K<=64){x:Int}(y:Int)(x0:0<=x)(x1:x<2^K)(st:SO):yc T (k+3) zfh [.int x,.int y,.int K] st=.ok (.tp AD [.int (0-x),.int (bi (!(x==0))),.int (bi (2*x==2^K))]) st:=by
 have hT:T zfh=AA zcc:=rfl;have hp:(0:Int)<2^K:=A9 (by lia);have e1:=λs=>zjt k hK hK2 (x:=0) (y:=x) (by lia) hp x0 x1 s;have h1:decide (0<x)=!(x==0):=by
  by_cases h:x=0
  .rw[h];rfl
  .rw[decide_eq_true (by lia),beq_eq_false_iff_ne.2 h];rfl
 have h2:(!ybg (2^K) (sgd (2^K) 0-sgd (2^K) x))=(2*x==2^K):=by
  have s0:sgd (2^K) 0=0:=by unfold sgd;rw[if_neg (by lia)]
  rw[s0];unfold sgd ybg
  by_cases h:(2:Int)^K<=2*x
  .rw[if_pos h]
   by_cases h3:2*x=2^K
   .rw[beq_iff_eq.2 h3,decide_eq_true (by lia),decide_eq_false (by lia)];rfl
   .rw[beq_eq_false_iff_ne.2 h3,decide_eq_true (by lia),decide_eq_true (by lia)];rfl
  .rw[if_neg h,beq_eq_false_iff_ne.2 (by lia),decide_eq_true (by lia),decide_eq_true (by lia)];rfl
 rw[h1,h2]at e1;rw[zc hT rfl rfl rfl];generalize (K:Int)=a at *;simp! [zcc,e1];rfl
theorem zmh(k:Nat)(x y K:Int)(st:SO):yc T (k+1) zaE [.int x,.int y,.int K] st=.ok (.tp AD [.int (Ab x y),.int 0,.int 0]) st:=by
 have hT:T zaE=AA zH:=rfl;rw[zc hT rfl rfl rfl];simp! [zH,zmF];rfl
theorem zoe(k:Nat)(x y K:Int)(st:SO):yc T (k+1) zaG [.int x,.int y,.int K] st=.ok (.tp AD [.int (BD x y),.int 0,.int 0]) st:=by
 have hT:T zaG=AA zO:=rfl;rw[zc hT rfl rfl rfl];simp! [zO,yec];rfl
theorem zn2(k:Nat)(x y K:Int)(st:SO):yc T (k+1) zaO [.int x,.int y,.int K] st=.ok (.tp AD [.int (Ax x y),.int 0,.int 0]) st:=by
 have hT:T zaO=AA zL:=rfl;rw[zc hT rfl rfl rfl];simp! [zL,zmm];rfl
theorem zml(k:Nat)(x y K:Int)(st:SO):yc T (k+1) za8 [.int x,.int y,.int K] st=.ok (.tp AD [.int (-1-x),.int 0,.int 0]) st:=by
 have hT:T za8=AA zU:=rfl;rw[zc hT rfl rfl rfl];simp! [zU];rfl
theorem zaz(k:Nat){s:AQ}{f:Nat}{w n x y K:Int}{v:PV}(hv:nL v=AB)(c1:yx .eq (.str s) (.str "led")=AA (.bl AD))(c2:yx .isin (.str s) zbg=AA (.bl AD))(hm:mkV zbQ AB (.str s)=AA f)(m1:yr .mul (.int w) (.int n)=AA (.int K))(E:∀st,yc T k f [.int x,.int y,.int K] st=.ok v st)(st:SO):
  yc T (k+1) za2 [.tp AD [.str s],.int w,.int n,.int x,.int y] st=.ok v st:=by
 have hT:T za2=AA ⟨5,6,AB,yat.body⟩:=rfl;have i0:∀st,idxV st (.tp AD [.str s]) (.int 0)=AA (.str s):=λ_=>ix0;have hl:decide (5<6)=true:=rfl;rw[zc hT rfl rfl rfl];dsimp only;generalize PV.tp AD [.str s]=d at *;simp! [yat,i0,c1,c2,zlq,hl,hm,ydI,m1,E];simp[ybc,hv]
noncomputable def rk8(i:Nat)(x y:Int):Int:=match i with
 |0=>x+y|1=>x-y|2=>0-x|4=>Ab x y|5=>BD x y|6=>Ax x y|_=>-1-x
theorem ydS(k:Nat){i:Nat}(hi:i<8)(h3:i≠3){w n:Nat}(hw:4<=w)(hw2:w<=16)(h1:1<=n)(h2:n<=4){x y:Int}(x0:0<=x)(x1:x<(2^w:Int)^n)(y0:0<=y)(y1:y<(2^w:Int)^n)(st:SO):
  yc T (k+4) za2 [dd8 i,.int w,.int n,.int x,.int y] st=.ok (.tp AD [.int (rk8 i x y),.int (sp8 i ((2^w:Int)^n) x y).2.1,.int (sp8 i ((2^w:Int)^n) x y).2.2]) st:=by
 have hK:1<=w*n:=by have:=Bm hw h1;lia
 have hK2:w*n<=64:=Bm hw2 h2;have m1:=zd9 w n (by lia);rw[<-BN]at x1 y1 ⊢;rcases (by lia:i=0 \/ i=1 \/ i=2 \/ i=4 \/ i=5 \/ i=6 \/ i=7)with rfl|rfl|rfl|rfl|rfl|rfl|rfl
 .exact zaz (k+3) rfl (by ac_rfl) (by ac_rfl) (by ac_rfl) m1 (λs=>zn4 (k+1) hK hK2 x0 x1 y0 y1 s) st
 .exact zaz (k+3) rfl (by ac_rfl) (by ac_rfl) (by ac_rfl) m1 (λs=>zjt (k+1) hK hK2 x0 x1 y0 y1 s) st
 .exact zaz (k+3) rfl (by ac_rfl) (by ac_rfl) (by ac_rfl) m1 (λs=>zmH k hK hK2 y x0 x1 s) st
 .exact zaz (k+3) rfl (by ac_rfl) (by ac_rfl) (by ac_rfl) m1 (λs=>zmh (k+2) x y _ s) st
 .exact zaz (k+3) rfl (by ac_rfl) (by ac_rfl) (by ac_rfl) m1 (λs=>zoe (k+2) x y _ s) st
 .exact zaz (k+3) rfl (by ac_rfl) (by ac_rfl) (by ac_rfl) m1 (λs=>zn2 (k+2) x y _ s) st
 .exact zaz (k+3) rfl (by ac_rfl) (by ac_rfl) (by ac_rfl) m1 (λs=>zml (k+2) x y _ s) st
theorem zeF{W:Int}(hW:0<W):∀(n:Nat) (v:Int),yg W n (v%W^n)=yg W n v
 |0,v=>rfl
 |n+1,v=>by
  have hp:0<W^n:=A9 hW;have e1:v%W^(n+1)%W=v%W:=Int.emod_emod_of_dvd v ⟨W^n,by rw[Aj,Ai]⟩;have e2:v%W^(n+1)/W=v/W%W^n:=by
   have h1:=B4 v W;have h2:=B4 (v/W) (W^n);have r0:=Ak v (show W≠0 by lia);have r1:=Aa v hW;have s0:=Ak (v/W) (show W^n≠0 by lia);have s1:=Aa (v/W) hp;have e:v=v%W+W*(v/W%W^n)+W^(n+1)*(v/W/W^n):=by
    have:W^(n+1)*(v/W/W^n)=W*(W^n*(v/W/W^n)):=by rw[Aj,Ai (W^n) W,Be]
    rw[this];have h3:W*(v/W)=W*(v/W%W^n)+W*(W^n*(v/W/W^n)):=by rw[<-HG,h2]
    lia
   have hb:v%W+W*(v/W%W^n)<W^(n+1):=by
    have:=Int.mul_le_mul_of_nonneg_left (show v/W%W^n<=W^n-1 by lia) (show 0<=W by lia);rw[HF,C9]at this;rw[Aj,Ai (W^n) W];lia
   have hb0:0<=W*(v/W%W^n):=Cg (by lia) s0;have q:v%W^(n+1)=v%W+W*(v/W%W^n):=by
    rw[e,Cf];rw[<-e];exact A5 (by lia) hb
   rw[q,Int.add_mul_ediv_left _ _ (by lia),BG r0 r1,Fq]
  rw[yg,yg,e1,e2,zeF hW n]
theorem zeJ{W:Int}(hW:0<W):∀(n:Nat) (v:Int),0<=v->v<W^n->(yg W n v).any (· != 0)=!(v==0)
 |0,v,h0,h1=>by
  have:v=0:=by rw[Ee]at h1;lia
  subst this;rfl
 |n+1,v,h0,h1=>by
  have h2:=Cv h0 (show 0<=W by lia);have h3:v/W<W^n:=BP hW (by rw[Aj]at h1;exact h1);have h4:=B4 v W;rw[yg,BH,zeJ hW n _ h2 h3]
  by_cases q:v=0
  .subst q;simp
  .rw[beq_eq_false_iff_ne.2 q]
   by_cases a:v%W=0
   .have b:v/W≠0:=λz=>q (by rw[a,z]at h4;lia);rw[beq_eq_false_iff_ne.2 b,Bool.not_false,Gv]
   .rw[bne_iff_ne.2 a,Ea];rfl
theorem zc3{W:Int}(hW:0<W):∀(n:Nat) (v:Int),(yg W (n+1) v)[n]?=AA (v/W^n%W)
 |0,v=>by simp[yg]
 |n+1,v=>by
  rw[yg,AL,zc3 hW n,CW (by lia),Aj,Ai W]
theorem zg4(ws:List Int):anyI (ws.map .int)=AA (ws.any (· != 0)):=by
 induction ws with
 |nil=>rfl
 |cons a ws ih=>rw[AO,anyI,ih];rfl
theorem ziO(k:Nat){ws:List Int}{w b l r:Int}(hs:w-1=b)(hi:∀st,idxV st (.tp AD (ws.map .int)) (.int (-1))=AA (.int l))(q:yr .shr (.int l) (.int b)=AA (.int r))(st:SO):yc T (k+1) zbo [.tp AD (ws.map .int),.int w] st=.ok (.int r) st:=by
 have hT:T zbo=AA zbv:=rfl;rw[zc hT rfl rfl (by simp[nLs,nL,noLocs_ints])];generalize PV.tp AD (ws.map .int)=v at *;simp! [zbv,hi,hs,q];rfl
theorem zgj(k:Nat){w n:Nat}(hw:1<=w){v:Int}(v0:0<=v)(v1:v<(2^w:Int)^(n+1))(st:SO):yc T (k+1) zbo [.tp AD ((yg (2^w) (n+1) v).map .int),.int w] st=.ok (.int (bi (decide ((2^w:Int)^(n+1)<=2*v)))) st:=by
 obtain⟨j,rfl⟩:∃j,w=j+1:=⟨w-1,by lia⟩;have hW:(0:Int)<2^(j+1):=A9 (by lia);have hp:(0:Int)<(2^(j+1):Int)^n:=A9 hW;have hj:(0:Int)<2^j:=A9 (by lia);have e:(2:Int)^(j+1)=2^j*2:=Aj 2 j;have hl:=zc3 hW n v;have hd1:v/(2^(j+1):Int)^n<2^(j+1):=BP hp (by rw[Aj,Ai]at v1;exact v1);have hdA:=Cv v0 (Fr hp);rw[A5 hdA hd1]at hl;have hi:∀st,idxV st (.tp AD ((yg (2^(j+1)) (n+1) v).map .int)) (.int (-1))=AA (.int (v/(2^(j+1):Int)^n)):=λst=>by
  have hlen:=zI (2^(j+1)) (n+1) v;erw[idxV,yaS,at?,ixI,BK,hlen];rw[if_neg (by lia),if_pos (by lia)];rw[show ((-1:Int)+((n+1:Nat):Int)).toNat=n by lia];simp[hl]
 refine ziO k (b:=(j:Int)) (by lia) hi ?_ st;rw[zjX]
 congr 2
 have P:(2^(j+1):Int)^(n+1)=(2^(j+1):Int)^n*2^j*2:=by rw[Aj,Be,<-e]
 rw[CW (Fr hp)];have hq:0<(2^(j+1):Int)^n*2^j:=Int.mul_pos hp hj;rw[P]at v1 ⊢;generalize (2^(j+1):Int)^n*2^j=H at *
 by_cases h:H*2<=2*v
 .have h1:1<=v/H:=C6 hq (by lia);have h2:v/H<2:=BP hq (by lia);rw[decide_eq_true h];show _=(1:Int);lia
 .rw[decide_eq_false h];exact BG v0 (by lia)
theorem zju{i:Nat}(hi:i<8)(h3:i≠3){K:Nat}{x y:Int}(x0:0<=x)(x1:x<2^K)(y0:0<=y)(y1:y<2^K):rk8 i x y%2^K=(sp8 i (2^K) x y).1/\0<=(sp8 i (2^K) x y).1/\(sp8 i (2^K) x y).1<2^K:=by
 have hp:(0:Int)<2^K:=A9 (by lia);have md:∀v:Int,0<=v%2^K/\v%2^K<2^K:=λv=>⟨Ak _ (by lia),Aa _ hp⟩;rcases (by lia:i=0 \/ i=1 \/ i=2 \/ i=4 \/ i=5 \/ i=6 \/ i=7)with rfl|rfl|rfl|rfl|rfl|rfl|rfl
 .exact⟨rfl,md _⟩
 .exact⟨rfl,md _⟩
 .exact⟨rfl,md _⟩
 .have h:=zjk (w:=K) x0 y0 y1;exact⟨A5 h.1 h.2,h⟩
 .have h:=zjp (w:=K) x0 x1 y0 y1;exact⟨A5 h.1 h.2,h⟩
 .have h:=zfs (w:=K) x0 x1 y0 y1;exact⟨A5 h.1 h.2,h⟩
 .refine⟨?_,?_,?_⟩
  .show (-1-x)%2^K=2^K-1-x;rw[<-Du,show -1-x+2^K=2^K-1-x by lia];exact A5 (by lia) (by lia)
  .show 0<=2^K-1-x;lia
  .show 2^K-1-x<2^K;lia
theorem yfa(k:Nat){w n x y K:Int}{v:PV}(hv:nL v=AB)(c0:yx .eq (.str (nm8 3)) (.str "compare")=AA (.bl AB))(m1:yr .mul (.int w) (.int n)=AA (.int K))(E0:∀st,yc T k zad [dd8 3,.int w,.int n,.int x,.int y] st=.ok .non st)(E1:∀st,yc T k zbS [.int x,.int y,.int K] st=.ok v st)(st:SO):
  yc T (k+1) zbN [dd8 3,.int w,.int n,.int x,.int y] st=.ok (.tp AD [.tp AD [],.tp AD [],v]) st:=by
 have hT:T zbN=AA ⟨5,10,AB,yaC.body⟩:=rfl;have i0:∀st,idxV st (dd8 3) (.int 0)=AA (.str (nm8 3)):=λ_=>ix0;rw[zc hT rfl rfl rfl];dsimp only;generalize dd8 3=d at *;generalize nm8 3=s at *;simp! [yaC,E0,i0,c0,m1,E1];simp[ybc,nL,nLs,hv]
theorem zkt(k:Nat){d:PV}(hd:nL d=AB){s:AQ}{w n x y a b c t r z:Int}{ws:List Int}{g:Bool}(i0:∀st,idxV st d (.int 0)=AA (.str s))(c0:yx .eq (.str s) (.str "compare")=AA (.bl AD))(E0:∀st,yc T k zad [d,.int w,.int n,.int x,.int y] st=.ok .non st)(E1:∀st,yc T k za2 [d,.int w,.int n,.int x,.int y] st=.ok (.tp AD [.int a,.int b,.int c]) st)
  (E2:∀st,yc T k zF [d,.int n] st=.ok (.int n) st) (E3:∀st,yc T k zm [.int a,.int w,.int n] st=.ok (.tp AD (ws.map .int)) st) (m1:yr .mul (.int y) (.int a)=AA (.int t)) (E4:∀st,yc T k zY [d,.int n] st=.ok (.int 0) st) (E5:∀st,yc T k zm [.int (x-t),.int w,.int 0] st=.ok (.tp AD []) st)
  (E6:∀st,yay .any st [.tp AD (ws.map .int)]=AA (.bl g)) (hz:(bif g then(0:Int)else 1)=z) (E7:∀st,yc T k zbo [.tp AD (ws.map .int),.int w] st=.ok (.int r) st) (st:SO):
  yc T (k+1) zbN [d,.int w,.int n,.int x,.int y] st=.ok (dv ws b c z r) st:=by
 have hT:T zbN=AA ⟨5,10,AB,yaC.body⟩:=rfl;have bt:∀(a b c:PV) (ρ:IC.Env),yH (.t [5,6,7]) (.tp AD [a,b,c]) ρ=AA (((ρ.set 5 (AA a)).set 6 (AA b)).set 7 (AA c)):=λ_ _ _ _=>rfl;rw[zc hT rfl rfl (by simp[nLs,nL,hd])];dsimp only;have nl:nL (.tp AD (ws.map .int))=true:=by simp[nL,noLocs_ints]
 unfold dv;generalize PV.tp AD (ws.map .int)=A at *
 cases g<;>subst hz<;>simp! [yaC,E0,i0,c0,E1,bt,E2,E3,m1,E4,E5,E6,E7]<;>simp[ybc,nL,nLs,nl]
theorem yc9(k:Nat){i:Nat}(hi:i<8){w n:Nat}(hw:4<=w)(hw2:w<=16)(h1:1<=n)(h2:n<=4){x y:Int}(x0:0<=x)(x1:x<(2^w:Int)^n)(y0:0<=y)(y1:y<(2^w:Int)^n)(hy:pr8 i=AD->y=0)(st:SO):
  yc T (22+k) zbN [dd8 i,.int w,.int n,.int x,.int y] st=.ok (yao i w n x y) st:=by
 let⟨D,hr,hl⟩:=ycZ hi h1 h2 hw hw2;have hW:(0:Int)<2^w:=A9 (by lia);have hK:1<=w*n:=by have:=Bm hw h1;lia
 have hK2:w*n<=64:=Bm hw2 h2;have X1:x<2^(w*n):=by rw[BN];exact x1
 have Y1:y<2^(w*n):=by rw[BN];exact y1
 have E0:=λs=>zcl k D hw2 (by lia) x0 X1 y0 Y1 (λh=>by cases e:pr8 i with|true=>rfl|false=>exact absurd (hy e) h) s;rw[show 22+k=21+k+1 by lia]
 by_cases h3:i=3
 .subst h3;have E1:=λs=>compared (19+k) hK hK2 x0 X1 y0 Y1 s;rw[show 19+k+2=21+k by lia]at E1;rw[yfa (21+k) rfl (by ac_rfl) (zd9 w n (by lia)) E0 E1 st];erw[yao,if_true,BN];rfl
 .obtain⟨n,rfl⟩:∃m,n=m+1:=⟨n-1,by lia⟩;let⟨r1,r2,r3⟩:=zju hi h3 x0 X1 y0 Y1;rw[BN]at r1 r2 r3;have hn:na8 i (n+1)=n+1:=by simp[na8,h3]
  have up:∀{f:Nat} {fn:IC.Fn} {args:List PV} {v:PV},T f=AA fn->fn.pure=AB->args.length=fn.np->nLs args=AB->yc T 20 f args []=.ok v []->∀s,yc T (21+k) f args s=.ok v s:=λ{f fn args v} a b c d e s=>by
   have:=zat e (1+k);rw[show 20+(1+k)=20+k+1 by lia]at this;rw[show 21+k=20+k+1 by lia];exact zds a b c d this s
  have nl2:nLs [dd8 i,.int ((n+1:Nat):Int)]=true:=rfl;have da:=D.ans;rw[hn]at da;have E2:=up (f:=zF) (fn:=zS) rfl rfl rfl nl2 da;have E4:=up (f:=zY) (fn:=zan) rfl rfl rfl nl2 D.rest;have E1:=λs=>ydS (17+k) hi h3 hw hw2 h1 h2 x0 x1 y0 y1 s;rw[show 17+k+4=21+k by lia]at E1;have E3:∀s,yc T (21+k) zm [.int (rk8 i x y),.int w,.int ((n+1:Nat):Int)] s=.ok (.tp AD ((yg (2^w) (n+1) (sp8 i ((2^w:Int)^(n+1)) x y).1).map .int)) s:=λs=>by
   rw[<-r1,zeF hW,show 21+k=20+k+1 by lia];exact lowest (20+k) _ w (n+1) hw2 (by lia) s
  have E5:∀s,yc T (21+k) zm [.int (x-y*rk8 i x y),.int w,.int 0] s=.ok (.tp AD []) s:=λs=>by
   rw[show 21+k=20+k+1 by lia];exact lowest (20+k) _ w 0 hw2 (by lia) s
  have hp64:(2:Int)^(w*(n+1))<=2^64:=by
   have hh:(2:Nat)^(w*(n+1))<=2^64:=Au (by lia) hK2;have h2:=pw (w*(n+1));lia
  have m1:yr .mul (.int y) (.int (rk8 i x y))=AA (.int (y*rk8 i x y)):=zej (by lia);have E6:∀s,yay .any s [.tp AD ((yg (2^w) (n+1) (sp8 i ((2^w:Int)^(n+1)) x y).1).map .int)]=AA (.bl (!((sp8 i ((2^w:Int)^(n+1)) x y).1==0))):=λs=>by
   show (anyI _).map PV.bl=_;rw[zg4,zeJ hW _ _ r2 r3];rfl
  have E7:=λs=>zgj (20+k) (w:=w) (n:=n) (by lia) r2 r3 s;rw[show 20+k+1=21+k by lia]at E7;have c0:yx .eq (.str (nm8 i)) (.str "compare")=AA (.bl AD):=by
   rcases (by lia:i=0 \/ i=1 \/ i=2 \/ i=4 \/ i=5 \/ i=6 \/ i=7)with rfl|rfl|rfl|rfl|rfl|rfl|rfl<;>ac_rfl
  rw[zkt (21+k) (d:=dd8 i) rfl (s:=nm8 i) (λ_=>ix0) c0 E0 E1 E2 E3 m1 E4 E5 E6 (z:=bi ((sp8 i ((2^w:Int)^(n+1)) x y).1==0)) (by cases ((sp8 i ((2^w:Int)^(n+1)) x y).1==0)<;>rfl) E7 st];erw[yao,h3,if_false]
theorem zh9{c:Cl}{N acc lo:Int}{st:SO}:exs c [AA (.int N),AA (.int acc),AA (.int lo)] st (.cons (.asg (.n 1) (.bin .mul (.cst (.int 2)) (.var 1))) .nil)=.nx [AA (.int N),AA (.int (2*acc)),AA (.int lo)] st:=by
 erw[xs_nil,xs_cons,x_asg,yap,nxO,IC.ve1,IC.ve2,IC.ve3,R.bind,R.fl,yH,yr,binI,yaw,toR,A1,A2,AM,AL];simp
theorem zcm(k n:Nat)(hn:n<1000)(st:SO):yc T (k+1) zaT [.int n] st=.ok (.int (2^n)) st:=by
 let⟨ρ',st',h,u,e1,e2⟩:=zdx (call:=yc T k) (t:=.n 2) (b:=.cons (.asg (.n 1) (.bin .mul (.cst (.int 2)) (.var 1))) .nil) (λi ρ st=>∃u,ρ=[AA (.int n),AA (.int (2^i)),u]/\st=[]) (yh n 0 1) 0 [AA (.int n),AA (.int 1),AC] [] ⟨_,rfl,rfl⟩ (by
  rintro j x ρ st hx ⟨u,rfl,rfl⟩
  have hx:∃i,x=.int i:=by
   have:∀(n:Nat) (a d:Int) (j:Nat) x,(yh n a d)[j]?=AA x->∃i,x=.int i:=by
    intro n
    induction n with
    |zero=>intro a d j x h;simp[yh]at h
    |succ n ih=>
     intro a d j x h
     cases j with
     |zero=>simp[yh]at h;exact⟨a,h.symm⟩
     |succ j=>simp[yh]at h;exact ih _ _ _ _ h
   exact this _ _ _ _ _ hx
  let⟨i,rfl⟩:=hx;exact⟨_,_,_,rfl,zh9,_,by rw[Aj,Ai],rfl⟩)
 have hl:(yh n 0 1).length=n:=by
  have:∀(n:Nat) (a d:Int),(yh n a d).length=n:=by
   intro n
   induction n with
   |zero=>intro a d;rfl
   |succ n ih=>intro a d;simp[yh,ih]
  exact this _ _ _
 rw[hl,BJ]at e1;subst e1 e2;rw[yc,show T zaT=AA zbB from rfl];erw[zbB,AT,Ap,if_true,nLs,nL,CN,AO,Ar,B7,Ac,Ao,Aw,xs_cons,xs_nil,x_asg,x_for,x_ret,yap,nxO,IC.ve1,IC.ve2,R.fl,yH,A1,A2,evi,R.bind,AM,ybM,toL];erw[show (n:Int).natAbs<1000000000 by lia,if_true,CJ,h];simp[nL]
theorem zdn{call:Cl}{W:Int}(hW:0<W)(hW2:W<18446744073709551616){p1 p2:Option PV}:∀(n:Nat) (a x:Int) (acc:List PV) (u:Option PV),acc.length+n<1000000 ->
  ∃x' u',ya1 call (.n 5) (.cons (.expr (.mth .append (.var 4) (.cons (.bin .mod (.var 0) (.var 3)) .nil))) (.cons (.asg (.n 0) (.bin .fdiv (.var 0) (.var 3))) .nil)) (yh n a 1) [AA (.int x),p1,p2,AA (.int W),AA (.loc 0),u] [.lst acc]=.nx [AA (.int x'),p1,p2,AA (.int W),AA (.loc 0),u'] [.lst (acc++(yg W n x).map .int)]
 |0,a,x,acc,u,_=>⟨x,u,by rw[yh,zD];simp[yg]⟩
 |n+1,a,x,acc,u,h=>by
  let⟨x',u',e⟩:=zdn (call:=call) hW hW2 (p1:=p1) (p2:=p2) n (a+1) (x/W) (acc++[.int (x%W)]) (AA (.int a)) (by simp;lia);refine⟨x',u',?_⟩;have hW3:W<18446744073709551616*18446744073709551616:=by lia
  have hl:acc.length<1000000:=by lia
  rw[yh,zn (ρ1:=[AA (.int x),p1,p2,AA (.int W),AA (.loc 0),AA (.int a)]) rfl];have hm:yaO .append [Ob.lst acc] (.loc 0)=AA true:=rfl;have hap:ycl .append [Ob.lst acc] (.loc 0) [.int (x%W)]=.ok .non [.lst (acc++[.int (x%W)])]:=by
   simp[ycl,ydZ,hl]
  erw[xs_cons,xs_nil,x_asg,x_expr,IC.ve20,IC.ve2,IC.ve3,evs,AM,AL,bd_ok,fl_ok,hm,ono,zhL hW,zgV hW hW3,toR_some,hap,bT_n,nxO_some,th_nx,A1,A2,yai];rw[e];simp[yg]
theorem words(k:Nat)(x:Int)(w n:Nat)(hw:w<=16)(hn:n<1000)(st:SO):yc T (k+2) zdV [.int x,.int w,.int n] st=.ok (.tup ((yg (2^w) n x).map .int)) st:=by
 have hW:(0:Int)<2^w:=A9 (by lia);have hW2:(2:Int)^w<18446744073709551616:=by
  have h:(2:Nat)^w<=2^16:=Au (by lia) hw;have h2:((2^w:Nat):Int)=2^w:=by simp
  lia
 let⟨x',u',e⟩:=zdn (call:=yc T (k+1)) hW hW2 (p1:=AA (.int w)) (p2:=AA (.int n)) n 0 x [] AC (by simp;lia);have ht:=zcm k w (by lia) [];have hT:T zdV=AA zci:=rfl;rw[yc,hT];erw[zci,AT,Ap,BJ,Bd,if_true,nLs,nL,CN,AO,Ar,B7,Ac,Ao,Aw,xs_cons,xs_nil,x_asg,x_for,x_ret,IC.ve18,IC.ve2,IC.ve13,IC.ve19,evs,evi,AM,AL,bd_ok,fl_ok,ht,bT_n,nxO_some,th_nx,A1,A2,zaw n hn,toL,Cy,sizeMax,e];simp[yay,ydO,yX,toR,fl_ok,nL,noLocs_ints,R.fl,yap]
theorem signed(k:Nat)(x:Int)(K:Nat)(hK:K<1000)(st:SO):yc T (k+2) zal [.int x,.int K] st=.ok (.int (if 2^K<=2*x then x-2^K else x)) st:=by
 have ht:=zcm k K hK [];have hT:T zal=AA zbA:=rfl;rw[yc,hT];erw[zbA,AT,Ap,BJ,Bd,if_true,nLs,nL,CN,AO,Ar,B7,Ac,Ao,Aw,xs_cons,xs_nil,x_asg,x_ite,x_ret,IC.ve18,IC.ve1,IC.ve2,IC.ve3,IC.ve8,evs,AM,AL,bd_ok,fl_ok,ht,b_sub,b_mul2,toR_some,bT_n,nxO_some,th_nx,th_rt,A1,A2,c_ge,t_bl,on_t]
 by_cases h:2^K<=2*x<;>simp[h,R.fl,yap,nL]
theorem fits(k:Nat)(s:Int)(K:Nat)(hK:K<1000)(st:SO):yc T (k+2) ze2 [.int s,.int K] st=.ok (.bl (decide (0-2^K<=2*s)&&decide (2*s<2^K))) st:=by
 have ht:=zcm k K hK [];have hT:T ze2=AA zdG:=rfl;rw[yc,hT];erw[zdG,AT,Ap,BJ,Bd,if_true,nLs,nL,CN,AO,Ar,B7,Ac,Ao,Aw,xs_cons,xs_nil,x_asg,x_ret,IC.ve18,IC.ve1,IC.ve2,IC.ve3,IC.ve9,evs,AM,AL,bd_ok,fl_ok,ht,b_sub,b_mul2,toR_some,bT_n,nxO_some,th_nx,th_rt,A1,A2,c_le,c_lt,blO,ono]
 cases decide (0-2^K<=2*s)<;>simp[R.fl,toR,yap,nL]
theorem ends(k:Nat)(v:Int)(K:Nat)(hK:K<1000)(st:SO):yc T (k+2) zfa [.int v,.int K] st=.ok (.tup [.int (bi (v==0)),.int (bi (decide (2^K<=2*v)))]) st:=by
 have ht:=zcm k K hK [];have hT:T zfa=AA zdA:=rfl;rw[yc,hT];erw[zdA,AT,Ap,BJ,Bd,if_true,nLs,nL,CN,AO,Ar,B7,Ac,Ao,CG,Aw,xs_cons,xs_nil,x_asg,x_ret,IC.ve18,IC.ve1,IC.ve2,IC.ve3,IC.ve8,IC.ve11,IC.ve19,evs,AM,AL,bd_ok,fl_ok,ht,b_sub,b_mul2,toR_some,c_eq,c_ge,zkT,zng];simp[R.fl,yap,nL,nLs,sizeMax]
inductive Wd:AQ->(Nat->Nat->Nat)->Prop where
 |both:Wd (AG "both") (· &&& ·)
 |any:Wd (AG "any") (· ||| ·)
 |odd:Wd (AG "odd") (· ^^^ ·)
theorem yeL:yx .ne (.str "both") (.str "odd")=AA (.bl AB):=by ac_rfl
theorem yeS:yx .ne (.str "both") (.str "both")=AA (.bl AD):=by ac_rfl
theorem yex:yx .ne (.str "any") (.str "odd")=AA (.bl AB):=by ac_rfl
theorem yeK:yx .ne (.str "any") (.str "both")=AA (.bl AB):=by ac_rfl
theorem yeP:yx .ne (.str "odd") (.str "odd")=AA (.bl AD):=by ac_rfl
theorem yeD:yx .ne (.str "odd") (.str "both")=AA (.bl AB):=by ac_rfl
noncomputable def bpB:Css:=match yM.body with
 |.cons _ (.cons _ (.cons (.for _ _ b) _))=>b
 |_=>.nil
theorem zko{call:Cl}{s:AQ}{op:Nat->Nat->Nat}(hs:Wd s op){p1 p6 u7:Option PV}{X Y P:Nat}{acc:Int}(hP:0<P)(hP2:P<2^100){st:SO}:
  ∃v7,exs call [AA (.str s),p1,AA (.int X),AA (.int Y),AA (.int acc),AA (.int P),p6,u7] st bpB=.nx [AA (.str s),p1,AA (.int X),AA (.int Y),AA (.int (acc+(op (X/P%2) (Y/P%2):Nat)*P)),AA (.int (2*P)),p6,v7] st:=by
 have hp:(0:Int)<(P:Int):=by lia
 have hp2:(P:Int)<18446744073709551616*18446744073709551616:=by lia
 have a1:(X:Int)/P%2=((X/P%2:Nat):Int):=by simp
 have a2:(Y:Int)/P%2=((Y/P%2:Nat):Int):=by simp
 have ha:X/P%2=0 \/ X/P%2=1:=by have:=G9 (X/P) (show 0<2 by lia);generalize X/P%2=q at *;lia
 have hb:Y/P%2=0 \/ Y/P%2=1:=by have:=G9 (Y/P) (show 0<2 by lia);generalize Y/P%2=q at *;lia
 have hm:∀(a b:Nat) (va vb:Int),X/P%2=a->Y/P%2=b->(a:Int)=va->(b:Int)=vb->∀r:Bool,(∀(acc2:PV),ev call [AA (.str s),p1,AA (.int X),AA (.int Y),AA (.int acc),AA (.int P),p6,AA (.int (va+vb))] st (.or (.and (.cmp .eq (.var 7) (.cst (.int 2))) (.cmp .ne (.var 0) (.cst (.str "odd")))) (.and (.cmp .eq (.var 7) (.cst (.int 1))) (.cmp .ne (.var 0) (.cst (.str "both")))))=.ok (.bl r) st)->bi r=(op a b:Nat)->∃v7,exs call [AA (.str s),p1,AA (.int X),AA (.int Y),AA (.int acc),AA (.int P),p6,u7] st bpB=.nx [AA (.str s),p1,AA (.int X),AA (.int Y),AA (.int (acc+(op (X/P%2) (Y/P%2):Nat)*P)),AA (.int (2*P)),p6,v7] st:=by
  intro a b va vb h1 h2 h3 h4 r h5 h6;have h5:=h5 .non;rw[h1,h3]at a1;rw[h2,h4]at a2;rw[h1,h2,<-h6];refine⟨AA (.int (va+vb)),?_⟩;erw[bpB,yM,xs_cons,x_asg,x_ite,IC.ve1,IC.ve2,IC.ve3,AM,AL,bd_ok,fl_ok,toR_some,zgV hp hp2,zly,b_add,a1,a2,bT_n,nxO_some,th_nx,A1,A2,h5,t_bl,on_t]
  cases r<;>erw[cond_true,cond_false,xs_cons,xs_nil,x_asg,IC.ve1,IC.ve2,IC.ve3,AM,AL,bd_ok,fl_ok,toR_some,b_add,b_mul2,bT_n,nxO_some,th_nx,A1,A2]<;>simp[bi]
 cases hs<;>rcases ha with ha|ha<;>rcases hb with hb|hb
 all_goals
  first
   |(refine hm _ _ _ _ ha hb rfl rfl AD (λ_=>?_) (by decide);erw[IC.ve1,IC.ve2,IC.ve6,IC.ve7,IC.ve8,AM,AL,bd_ok,toR_some,c_eq,yeL,yeS,yex,yeK,yeP,yeD,onBl]<;>rfl)
   |(refine hm _ _ _ _ ha hb rfl rfl AB (λ_=>?_) (by decide);erw[IC.ve1,IC.ve2,IC.ve6,IC.ve7,IC.ve8,AM,AL,bd_ok,toR_some,c_eq,yeL,yeS,yex,yeK,yeP,yeD,onBl]<;>rfl)
theorem zhf{call:Cl}{s:AQ}{op:Nat->Nat->Nat}(hs:Wd s op){oi:Int->Int->Int}(O:Two op oi){p1:Option PV}{X Y:Nat}{st:SO}:∀(r i:Nat) (a:Int) (u6 u7:Option PV),i+r<90 ->
  ∃v5 v6 v7,ya1 call (.n 6) bpB (yh r a 1) [AA (.str s),p1,AA (.int X),AA (.int Y),AA (.int ((op X Y%2^i:Nat):Int)),AA (.int ((2^i:Nat):Int)),u6,u7] st=.nx [AA (.str s),p1,AA (.int X),AA (.int Y),AA (.int ((op X Y%2^(i+r):Nat):Int)),v5,v6,v7] st
 |0,i,a,u6,u7,_=>⟨AA (.int ((2^i:Nat):Int)),u6,u7,by rw[yh,zD,Nat.add_zero]⟩
 |r+1,i,a,u6,u7,h=>by
  let⟨v7,e1⟩:=zko (call:=call) hs (p1:=p1) (p6:=AA (.int a)) (u7:=u7) (X:=X) (Y:=Y) (P:=2^i) (acc:=((op X Y%2^i:Nat):Int)) (GP (by lia)) (Nat.pow_lt_pow_right (by lia) (by lia)) (st:=st);let⟨v5,v6,w7,e2⟩:=zhf (call:=call) hs O (p1:=p1) (X:=X) (Y:=Y) (st:=st) r (i+1) (a+1) (AA (.int a)) v7 (by lia);refine⟨v5,v6,w7,?_⟩;have hm:op (X/2^i%2) (Y/2^i%2)=op X Y/2^i%2:=by
   have:=O.mod (X/2^i) (Y/2^i) 1;rw[Nat.pow_one]at this;rw[<-this,O.div]
  have hq:((op X Y%2^i:Nat):Int)+((op (X/2^i%2) (Y/2^i%2):Nat):Int)*((2^i:Nat):Int)=((op X Y%2^(i+1):Nat):Int):=by
   rw[hm,Nat.mod_pow_succ,<-Int.natCast_mul,<-GV,Gw (2^i)]
  have hq2:(2:Int)*((2^i:Nat):Int)=((2^(i+1):Nat):Int):=by
   rw[Fm];lia
  rw[yh,zn (ρ1:=[AA (.str s),p1,AA (.int X),AA (.int Y),AA (.int ((op X Y%2^i:Nat):Int)),AA (.int ((2^i:Nat):Int)),AA (.int a),u7]) rfl,e1,hq,hq2,show i+(r+1)=i+1+r by lia];exact e2
theorem zcr(k:Nat){s:AQ}{op:Nat->Nat->Nat}(hs:Wd s op){oi:Int->Int->Int}(O:Two op oi){X Y K:Nat}(hK:K<80)(hx:X<2^K)(hy:Y<2^K)(st:SO):yc T (k+1) zbV [.str s,.int K,.int X,.int Y] st=.ok (.int ((op X Y:Nat):Int)) st:=by
 let⟨v5,v6,v7,e⟩:=zhf (call:=yc T k) hs O (p1:=AA (.int K)) (X:=X) (Y:=Y) (st:=[]) K 0 0 AC AC (by lia);rw[BJ,Nat.mod_eq_of_lt (O.lt X Y K hx hy),Nat.pow_zero,Nat.mod_one]at e;have hT:T zbV=AA ⟨4,8,AB,yM.body⟩:=rfl;have hb:yM.body=.cons (.asg (.n 4) (.cst (.int 0))) (.cons (.asg (.n 5) (.cst (.int 1))) (.cons (.for (.n 6) (.range1 (.var 1)) bpB) (.cons (.ret (.var 4)) .nil))):=rfl;have e:ya1 (yc T k) (.n 6) bpB (yh K 0 1) [AA (.str s),AA (.int K),AA (.int X),AA (.int Y),AA (.int 0),AA (.int 1),AC,AC] []=.nx [AA (.str s),AA (.int K),AA (.int X),AA (.int Y),AA (.int ((op X Y:Nat):Int)),v5,v6,v7] []:=e;rw[yc,hT,hb];erw[AT,Ap,BJ,Bd,if_true,nLs,nL,CN,BU,if_false,AO,Ar,B7,Ac,Ao,Aw,xs_cons,xs_nil,x_asg,x_for,x_ret,IC.ve1,IC.ve2,evi,AM,AL,bd_ok,fl_ok,bT_n,nxO_some,th_nx,th_rt,A1,A2,zaw K (by lia),toL,e]
theorem yaY(k:Nat)(x:Int)(K:Nat)(hK:K<1000)(st:SO):yc T (k+2) zal [.int x,.int K] st=.ok (.int (sgd (2^K) x)) st:=signed k x K hK st
theorem ydy(k:Nat)(s:Int)(K:Nat)(hK:K<1000)(st:SO):yc T (k+2) ze2 [.int s,.int K] st=.ok (.bl (ybg (2^K) s)) st:=fits k s K hK st
noncomputable def lw8(i:Nat)(P x y:Int):Int:=match i with
 |0=>x+y|1=>x-y|2=>0-x|4=>Ab x y|5=>BD x y|6=>Ax x y|_=>P-1-x
noncomputable def smT:Css:=match yD.body with
 |.cons _ (.cons _ (.cons _ t))=>t
 |x=>x
theorem zmv(k:Nat){s:AQ}{K x y top a b:Int}{v:PV}(hv:nL v=AB)(E1:∀st,yc T k zaT [.int K] st=.ok (.int top) st)(E2:∀st,yc T k zal [.int x,.int K] st=.ok (.int a) st)(E3:∀st,yc T k zal [.int y,.int K] st=.ok (.int b) st)
  (E:exs (yc T k) [AA (.str s),AA (.int K),AA (.int x),AA (.int y),AA (.int top),AA (.int a),AA (.int b)] [] smT=.rt v []) (st:SO):yc T (k+1) zbn [.str s,.int K,.int x,.int y] st=.ok v st:=by
 have hT:T zbn=AA ⟨4,7,AB,yD.body⟩:=rfl
 have hb:yD.body=(match yD.body with
  |.cons a (.cons b (.cons c _))=>.cons a (.cons b (.cons c smT))
  |x=>x):=rfl
 rw[zc hT rfl rfl rfl];dsimp only;rw[hb];generalize smT=F at *;simp! [yD,E1,E2,E3,E];simp[ybc,hv]
noncomputable abbrev tri(a b c:Int):PV:=.tp AD [.int a,.int b,.int c]
theorem ycv(k:Nat){i:Nat}(hi:i<8)(h3:i≠3){K:Nat}(hK2:K<=64){x y:Int}(x0:0<=x)(x1:x<2^K)(y0:0<=y)(y1:y<2^K)(st:SO):yc T (k+4) zbn [.str (nm8 i),.int K,.int x,.int y] st=.ok (tri (lw8 i (2^K) x y) (sp8 i (2^K) x y).2.1 (sp8 i (2^K) x y).2.2) st:=by
 have E1:=λs=>zcm (k+2) K (by lia) s;have E2:=λs=>yaY (k+1) x K (by lia) s;have E3:=λs=>yaY (k+1) y K (by lia) s;have F:=λv s=>ydy (k+1) v K (by lia) s;refine zmv (k+3) rfl E1 E2 E3 ?_ st;let⟨X,rfl⟩:=zav x0;let⟨Y,rfl⟩:=zav y0;have X1:X<2^K:=by have:=pw K;lia
 have Y1:Y<2^K:=by have:=pw K;lia
 have B1:=λs=>zcr (k+2) .both zgw (by lia) X1 Y1 s;have B2:=λs=>zcr (k+2) .any zjx (by lia) X1 Y1 s;have B3:=λs=>zcr (k+2) .odd zgD (by lia) X1 Y1 s;have s1:yx .eq (.str (nm8 i)) (.str "sum")=AA (.bl (i==0)):=by
  rcases (by lia:i=0 \/ i=1 \/ i=2 \/ i=4 \/ i=5 \/ i=6 \/ i=7)with rfl|rfl|rfl|rfl|rfl|rfl|rfl<;>ac_rfl
 have s2:yx .eq (.str (nm8 i)) (.str "difference")=AA (.bl (i==1)):=by
  rcases (by lia:i=0 \/ i=1 \/ i=2 \/ i=4 \/ i=5 \/ i=6 \/ i=7)with rfl|rfl|rfl|rfl|rfl|rfl|rfl<;>ac_rfl
 have s3:yx .eq (.str (nm8 i)) (.str "turned")=AA (.bl (i==2)):=by
  rcases (by lia:i=0 \/ i=1 \/ i=2 \/ i=4 \/ i=5 \/ i=6 \/ i=7)with rfl|rfl|rfl|rfl|rfl|rfl|rfl<;>ac_rfl
 have s4:yx .eq (.str (nm8 i)) (.str "bare")=AA (.bl (i==7)):=by
  rcases (by lia:i=0 \/ i=1 \/ i=2 \/ i=4 \/ i=5 \/ i=6 \/ i=7)with rfl|rfl|rfl|rfl|rfl|rfl|rfl<;>ac_rfl
 have cg:∀a b:Int,decide (a ≥ b)=decide (b<=a):=λ_ _=>rfl;have nn:∀b:Bool,(!!b)=b:=Bool.not_not;rcases (by lia:i=0 \/ i=1 \/ i=2 \/ i=7 \/ i=4 \/ i=5 \/ i=6)with rfl|rfl|rfl|rfl|rfl|rfl|rfl
 all_goals erw[Nat.reduceBEq]at s1 s2 s3 s4
 .generalize nm8 0=s at *;generalize (K:Int)=a at *;simp! [smT,yD,s1,F,ib,cg];rfl
 .generalize nm8 1=s at *;generalize (K:Int)=a at *;simp! [smT,yD,s1,s2,F,ib];rfl
 .generalize nm8 2=s at *;generalize (K:Int)=a at *;simp! [smT,yD,s1,s2,s3,ib];rfl
 .generalize nm8 7=s at *;generalize (K:Int)=a at *;simp! [smT,yD,s1,s2,s3,s4];rfl
 .rw[show nm8 4=AG "both" from rfl]at s1 s2 s3 s4 ⊢;simp! [smT,yD,s1,s2,s3,s4,B1];erw[lw8,zdc];rfl
 .rw[show nm8 5=AG "any" from rfl]at s1 s2 s3 s4 ⊢;simp! [smT,yD,s1,s2,s3,s4,B2];erw[lw8,zbZ];rfl
 .rw[show nm8 6=AG "odd" from rfl]at s1 s2 s3 s4 ⊢;simp! [smT,yD,s1,s2,s3,s4,B3];erw[lw8,zev];rfl
theorem zmi{i:Nat}(hi:i<8)(h3:i≠3){K:Nat}{x y:Int}(x0:0<=x)(x1:x<2^K)(y0:0<=y)(y1:y<2^K):lw8 i (2^K) x y%2^K=(sp8 i (2^K) x y).1:=by
 let⟨h,_,_⟩:=zju hi h3 x0 x1 y0 y1
 by_cases h7:i=7
 .subst h7;exact A5 (by show 0<=2^K-1-x;lia) (by show 2^K-1-x<2^K;lia)
 .rw[<-h];rcases (by lia:i=0 \/ i=1 \/ i=2 \/ i=4 \/ i=5 \/ i=6)with rfl|rfl|rfl|rfl|rfl|rfl<;>rfl
theorem znD(k:Nat){s:AQ}{w n x y K a b:Int}(c0:yx .eq (.str s) (.str "compare")=AA (.bl AB))(m1:yr .mul (.int w) (.int n)=AA (.int K))(E2:∀st,yc T k zal [.int x,.int K] st=.ok (.int a) st)(E3:∀st,yc T k zal [.int y,.int K] st=.ok (.int b) st)(st:SO):
  yc T (k+1) zd7 [.str s,.int w,.int n,.int x,.int y] st=.ok (dv [] (bi (decide (x<y))) (bi (decide (a<b))) (bi (x==y)) 0) st:=by
 have hT:T zd7=AA ⟨5,9,AB,yaV.body⟩:=rfl;rw[zc hT rfl rfl rfl];dsimp only;simp! [yaV,m1,c0,E2,E3,ib];rfl
theorem znG(k:Nat){s:AQ}{w n x y K a b c P v z r:Int}{ws:List Int}(c0:yx .eq (.str s) (.str "compare")=AA (.bl AD))(m1:yr .mul (.int w) (.int n)=AA (.int K))(E1:∀st,yc T k zbn [.str s,.int K,.int x,.int y] st=.ok (tri a b c) st)(E2:∀st,yc T k zaT [.int K] st=.ok (.int P) st)(m2:yr .mod (.int a) (.int P)=AA (.int v))
  (E3:∀st,yc T k zdV [.int v,.int w,.int n] st=.ok (.tp AD (ws.map .int)) st) (E4:∀st,yc T k zfa [.int v,.int K] st=.ok (.tp AD [.int z,.int r]) st) (st:SO):
  yc T (k+1) zd7 [.str s,.int w,.int n,.int x,.int y] st=.ok (dv ws b c z r) st:=by
 have hT:T zd7=AA ⟨5,9,AB,yaV.body⟩:=rfl;have bt:∀(a b c:PV) (ρ:IC.Env),yH (.t [6,7,8]) (.tp AD [a,b,c]) ρ=AA (((ρ.set 6 (AA a)).set 7 (AA b)).set 8 (AA c)):=λ_ _ _ _=>rfl;have ad:yr .add (.tp AD [.int b,.int c]) (.tp AD [.int z,.int r])=AA (.tp AD [.int b,.int c,.int z,.int r]):=rfl;have nl:nL (.tp AD (ws.map .int))=true:=by simp[nL,noLocs_ints]
 unfold tri at E1;unfold dv;rw[zc hT rfl rfl rfl];dsimp only;generalize PV.tp AD (ws.map .int)=A at *;simp! [yaV,m1,c0,E1,bt,E2,m2,E3,E4,ad];simp[ybc,nL,nLs,nl]
theorem ye6(k:Nat){i:Nat}(hi:i<8){w n:Nat}(hw:4<=w)(hw2:w<=16)(h1:1<=n)(h2:n<=4){x y:Int}(x0:0<=x)(x1:x<(2^w:Int)^n)(y0:0<=y)(y1:y<(2^w:Int)^n)(st:SO):
  yc T (k+5) zd7 [.str (nm8 i),.int w,.int n,.int x,.int y] st=.ok (yao i w n x y) st:=by
 have hK2:w*n<=64:=Bm hw2 h2;have X1:x<2^(w*n):=by rw[BN];exact x1
 have Y1:y<2^(w*n):=by rw[BN];exact y1
 have m1:=zd9 w n (by lia)
 by_cases h3:i=3
 .subst h3;rw[znD (k+4) (by ac_rfl) m1 (λs=>yaY (k+2) x (w*n) (by lia) s) (λs=>yaY (k+2) y (w*n) (by lia) s) st];erw[yao,if_true,BN]
 .have hp:(0:Int)<2^(w*n):=A9 (by lia);have m2:=zhL (i:=lw8 i (2^(w*n)) x y) hp;rw[zmi hi h3 x0 X1 y0 Y1]at m2;have c0:yx .eq (.str (nm8 i)) (.str "compare")=AA (.bl AD):=by
   rcases (by lia:i=0 \/ i=1 \/ i=2 \/ i=4 \/ i=5 \/ i=6 \/ i=7)with rfl|rfl|rfl|rfl|rfl|rfl|rfl<;>ac_rfl
  rw[znG (k+4) c0 m1 (λs=>ycv k hi h3 hK2 x0 X1 y0 Y1 s) (λs=>zcm (k+3) (w*n) (by lia) s) m2 (λs=>words (k+2) _ w n hw2 (by lia) s) (λs=>ends (k+2) _ (w*n) (by lia) s) st];erw[yao,h3,if_false,BN]
theorem zed:∀l:List Int,allB (l.map λ_=>PV.bl AB)=AA AB
 |[]=>rfl
 |a::l=>by rw[AO,allB,zed l];rfl
theorem zh6(l:List Int)(st:SO):yay .all st [.lst (l.map λ_=>PV.bl AB)]=AA (.bl AB):=by
 show (allB _).map PV.bl=_;rw[zed];rfl
theorem yb7(k:Nat)(v:Int)(st:SO):yc T (k+1) zbF [.int v] st=.ok (.bl AB) st:=by
 have hT:T zbF=AA zcb:=rfl;have e1:ya5 (.int v) [.int]=AA (.bl AB):=rfl;have e2:ya5 (.int v) [.bool]=AA (.bl AD):=rfl;rw[zc hT rfl rfl rfl];simp! [zcb,e1,e2];rfl
theorem zcf{call:Cl}{ρ0:IC.Env}{t:Tg}{c e:Ce}{st:SO}:∀l:List Int,(∀x∈l,ybP call ρ0 t c e (.int x) st=.ok (AA (.bl AB)) st)->yar call ρ0 t c e (l.map .int) st=.ok (l.map λ_=>.bl AB) st
 |[],_=>zcY
 |a::l,h=>by
  rw[AO,zbP,h a (by simp),bd_ok,zcf l (λx hx=>h x (by simp[hx])),bd_ok];rfl
theorem ycd(k:Nat){ws:List Int}{w:Nat}(hw:w<=16)(hl:ws.length<=1000)(hr:∀v∈ws,0<=v/\v<2^w)(st:SO):yc T (k+2) zep [.tp AD (ws.map .int),.int w,.int (ws.length:Int)] st=.ok (.bl AB) st:=by
 have hT:T zep=AA zbq:=rfl;have e1:ya5 (.tp AD (ws.map .int)) [.tuple]=AA (.bl AB):=rfl;have e2:∀st,yay .len st [.tp AD (ws.map .int)]=AA (.int (ws.length:Int)):=λst=>by
  show AA (PV.int (((ws.map PV.int).length:Nat):Int))=_;simp
 have q1:yar (yc T (k+1)) [AC] (.n 0) (.cst (.bl AB)) (.call zbF (.cons (.var 0) .nil)) (ws.map .int) []=.ok (ws.map λ_=>.bl AB) []:=zcf ws λx _=>by
  have e:=yb7 k x [];simp! [ybP,e]
 have q2:yar (yc T (k+1)) [AC,AA (.int w)] (.n 0) (.cst (.bl AB)) (.chain .le .lt (.cst (.int 0)) (.var 0) (.call zaT (.cons (.var 1) .nil))) (ws.map .int) []=.ok (ws.map λ_=>.bl AB) []:=zcf ws λx hx=>by
  have e:=zcm k w (by lia) [];have c1:decide (0<=x)=true:=decide_eq_true (hr x hx).1;have c2:decide (x<2^w)=true:=decide_eq_true (hr x hx).2;simp! [ybP,e,c1,c2,blO]
 have lr:=zd2 (ws.map λ_=>PV.bl AB) (by simp;lia);have ta:=zh6 ws;rw[zc hT rfl rfl (by simp[nLs,nL,noLocs_ints])];simp! [zbq,e1,e2,beq_self_eq_true,q1,lr,ta,q2];rfl
theorem ycf(k:Nat){a b c d:Int}(ha:-1<=a/\a<=1)(hb:-1<=b/\b<=1)(hc:-1<=c/\c<=1)(hd:-1<=d/\d<=1)(st:SO):yc T (k+2) zd3 [.tp AD [.int a,.int b,.int c,.int d],.int 4,.int 1] st=.ok (.bl AB) st:=by
 have hT:T zd3=AA zbr:=rfl;have e1:ya5 (.tp AD [.int a,.int b,.int c,.int d]) [.tuple]=AA (.bl AB):=rfl;have e2:∀st,yay .len st [.tp AD [.int a,.int b,.int c,.int d]]=AA (.int 4):=λ_=>rfl;have q:yar (yc T (k+1)) [AC,AA (.int 1)] (.n 0) (.cst (.bl AB)) (.and (.call zbF (.cons (.var 0) .nil)) (.chain .le .le (.bin .sub (.cst (.int 0)) (.var 1)) (.var 0) (.var 1))) ([a,b,c,d].map .int) []=.ok ([a,b,c,d].map λ_=>.bl AB) []:=zcf [a,b,c,d] λx hx=>by
  have e:=yb7 k x [];have hx:-1<=x/\x<=1:=by
   erw[Ad,CV,or_false]at hx;rcases hx with rfl|rfl|rfl|rfl<;>assumption
  have c1:decide ((0:Int)-1<=x)=true:=decide_eq_true (by lia);have c2:decide (x<=1)=true:=decide_eq_true hx.2;simp! [ybP,e,c1,c2,blO]
 have q:yar (yc T (k+1)) [AC,AA (.int 1)] (.n 0) (.cst (.bl AB)) (.and (.call zbF (.cons (.var 0) .nil)) (.chain .le .le (.bin .sub (.cst (.int 0)) (.var 1)) (.var 0) (.var 1))) [.int a,.int b,.int c,.int d] []=.ok [.bl AB,.bl AB,.bl AB,.bl AB] []:=q;have lr:∀st,ybV (.ok [PV.bl AB,.bl AB,.bl AB,.bl AB] st)=.ok (.lst [.bl AB,.bl AB,.bl AB,.bl AB]) st:=λst=>zd2 _ (by simp) st;have ta:∀st,yay .all st [.lst [.bl AB,.bl AB,.bl AB,.bl AB]]=AA (.bl AB):=λ_=>rfl;have b4:((4:Int)==4)=true:=rfl;rw[zc hT rfl rfl rfl];simp! [zbr,e1,e2,b4,q,lr,ta];rfl
noncomputable def anB:Css:=match yW.body with
 |.cons _ (.cons (.for _ _ b) _)=>b
 |x=>x
theorem ybH(k:Nat){ws:List Int}{w:Nat}{a b c d:Int}(hw:w<=16)(hl:ws.length<=1000)(hr:∀v∈ws,0<=v/\v<2^w)(ha:-1<=a/\a<=1)(hb:-1<=b/\b<=1)(hc:-1<=c/\c<=1)(hd:-1<=d/\d<=1)(st:SO):yc T (k+3) zcC [dv ws a b c d,.int w] st=.ok (.bl AB) st:=by
 have hT:T zcC=AA ⟨2,3,AB,yW.body⟩:=rfl;have e1:ya5 (dv ws a b c d) [.tuple]=AA (.bl AB):=rfl;have e2:∀st,yay .len st [dv ws a b c d]=AA (.int 3):=λ_=>rfl;have b3:((3:Int)==3)=true:=rfl;have o0:ybW .non=AA none:=rfl;have e3:ycx (dv ws a b c d) AC (.int 2)=AA (.tp AD [.tp AD (ws.map .int),.tp AD []]):=rfl;have e4:∀st,idxV st (dv ws a b c d) (.int 2)=AA (.tp AD [.int a,.int b,.int c,.int d]):=λ_=>rfl;have e5:=λs=>ycf k ha hb hc hd s;have one:∀(us:List Int),us.length<=1000->(∀v∈us,0<=v/\v<2^w)->∀(p0:Option PV) (st:SO),exs (yc T (k+2)) [p0,AA (.int w),AA (.tp AD (us.map .int))] st anB=.nx [p0,AA (.int w),AA (.tp AD (us.map .int))] st:=λus h1 h2 p0 st=>by
  have n1:=λs=>ycd k hw h1 h2 s;have i1:ya5 (.tp AD (us.map .int)) [.tuple]=AA (.bl AB):=rfl;have i2:∀st,yay .len st [.tp AD (us.map .int)]=AA (.int (us.length:Int)):=λst=>by
   show AA (PV.int (((us.map PV.int).length:Nat):Int))=_;simp
  generalize PV.tp AD (us.map .int)=U at *;simp! [anB,yW,i1,i2,n1]
 have ag:∀(ρ:IC.Env) (s:SO) (k:IC.Env->SO->Fl),yai (.nx ρ s) k=k ρ s:=λ_ _ _=>rfl;have lp:∀p0:Option PV,ya1 (yc T (k+2)) (.n 2) anB [.tp AD (ws.map .int),.tp AD []] [p0,AA (.int w),AC] []=.nx [p0,AA (.int w),AA (.tp AD [])] []:=λp0=>by
  rw[zn (ρ1:=[p0,AA (.int w),AA (.tp AD (ws.map .int))]) rfl,one ws hl hr,ag,zn (ρ1:=[p0,AA (.int w),AA (.tp AD [])]) rfl];have:=one [] (by simp) (by simp) p0 [];rw[Ar]at this;rw[this,ag,zD]
 have hbd:yW.body=(match yW.body with
  |.cons a (.cons (.for t i _) r)=>.cons a (.cons (.for t i anB) r)
  |x=>x):=rfl
 rw[zc hT rfl rfl (by simp[nLs,nL,noLocs_ints])];dsimp only;rw[hbd];generalize dv ws a b c d=V at *;simp! [yW,e1,e2,b3,o0,onP,e3,lp,e4,e5];rfl
theorem ybR(b:Bool):-1<=bi b/\bi b<=1:=by cases b<;>decide
theorem ycc(k:Nat){i:Nat}(hi:i<8){w n:Nat}(hw2:w<=16)(h2:n<=4)(x y:Int)(st:SO):yc T (k+3) zcC [yao i w n x y,.int w] st=.ok (.bl AB) st:=by
 have hW:(0:Int)<2^w:=A9 (by lia)
 by_cases h3:i=3
 .simp only[yao,h3,if_true];exact ybH k hw2 (by simp) (by simp) (ybR _) (ybR _) (ybR _) (by decide) st
 .simp only[yao,h3,if_false];have hm:(-1<=(sp8 i ((2^w:Int)^n) x y).2.1/\(sp8 i ((2^w:Int)^n) x y).2.1<=1)/\(-1<=(sp8 i ((2^w:Int)^n) x y).2.2/\(sp8 i ((2^w:Int)^n) x y).2.2<=1):=by
   rcases (by lia:i=0 \/ i=1 \/ i=2 \/ i=4 \/ i=5 \/ i=6 \/ i=7)with rfl|rfl|rfl|rfl|rfl|rfl|rfl<;>first|exact⟨ybR _,ybR _⟩|exact⟨ybR AD,ybR AD⟩
  exact ybH k hw2 (by rw[zI];lia) (zae hW _ _) hm.1 hm.2 (ybR _) (ybR _) st
noncomputable def ybh:Ce:=match yR.body with
 |.cons _ (.cons (.while c _) _)=>c
 |_=>.nope
noncomputable def ybt:Css:=match yR.body with
 |.cons _ (.cons (.while _ b) _)=>b
 |_=>.nil
theorem zgU{c:Cl}{n:Nat}{ns:List Int}{a p m t:Int}{f:Bool}{u:Option PV}{st:SO}(h:st[n]?=AA (.lst [.lst (ns.map .int),.int a,.int p,.bl f])):
  ∃B,ev c [AA (.loc n),AA (.int m),AA (.int t),u] st ybh=.ok (.bl B) st/\(B=AB->t<64):=by
 by_cases h1:t<64
 .by_cases h2:p=0
  .refine⟨AB,?_,λ_=>h1⟩;erw[ybh,yR,IC.ve1,IC.ve2,IC.ve3,IC.ve6,IC.ve7,IC.ve8,IC.ve16,R.bind,AM,AL,h,idxV,yaS,at?,ixI,yr,binI,yaw,toR,yx,ybm,onBl];simp[h1,h2,zcP,peq]
  .have h2:(p==0)=false:=by simp[h2]
   cases f
   .refine⟨AD,?_,λ_=>h1⟩;erw[ybh,yR,IC.ve1,IC.ve2,IC.ve3,IC.ve6,IC.ve7,IC.ve8,IC.ve16,R.bind,AM,AL,h,idxV,yaS,at?,ixI,yr,binI,yaw,toR,yx,ybm,onBl];simp[h,h1,h2,zcP,peq]
   .refine⟨decide (p<m*4096),?_,λ_=>h1⟩;erw[ybh,yR,IC.ve1,IC.ve2,IC.ve3,IC.ve6,IC.ve7,IC.ve8,IC.ve16,R.bind,AM,AL,h,idxV,yaS,at?,ixI,yr,binI,yaw,toR,yx,ybm,onBl];simp[h,h1,h2,zcP,peq]
 .refine⟨AD,?_,λz=>by cases z⟩;erw[ybh,yR,IC.ve1,IC.ve2,IC.ve3,IC.ve6,IC.ve7,IC.ve8,IC.ve16,R.bind,AM,AL,h,idxV,yaS,at?,ixI,yr,binI,yaw,toR,yx,ybm,onBl];simp[h1]
theorem zho(k:Nat){n:Nat}{ns:List Int}(hns:ns.length<=1000){a p m t:Int}(ha:0<=a){f:Bool}{u:Option PV}{st:SO}(h:st[n]?=AA (.lst [.lst (ns.map .int),.int a,.int p,.bl f])):
  ∃p' f',exs (yc T (k+2)) [AA (.loc n),AA (.int m),AA (.int t),u] st ybt=.nx [AA (.loc n),AA (.int m),AA (.int (t+1)),u] (st.set n (.lst [.lst (ns.map .int),.int (a+1),.int p',.bl f'])):=by
 let⟨q,g,hq⟩:=fill k n ns hns a p ha f st h;have hm:(1+q%4093).natAbs<18446744073709551616:=by lia
 have hau:∀st,ex (yc T (k+2)) [AA (.loc n),AA (.int m),AA (.int t),u] st (.aug 2 .add (.cst (.int 1)))=.nx [AA (.loc n),AA (.int m),AA (.int (t+1)),u] st:=λst=>by
  rw[zog (x:=.int t) rfl];simp[IC.ve1,R.fl,ybv,yr,binI,nxO]
 cases g
 .refine⟨q,AD,?_⟩;erw[ybt,yR,xs_cons,xs_nil,x_expr,x_ite,x_six,hau,yap,nxO,IC.ve1,IC.ve2,IC.ve3,IC.ve6,IC.ve8,IC.ve16,IC.ve18,evs,R.fl,R.bind,hq,ybv,yr,binI,D3,A1,A2,AM,AL,rdS h,idxV,yaS,at?,ixI,yaw,toR,yx,ybm,onBl,onF,yaF];simp[rdS h]
 .by_cases hl:q<m*4096
  .refine⟨q+m*4096*(1+q%4093),AB,?_⟩;erw[ybt,yR,xs_cons,xs_nil,x_expr,x_ite,x_six,hau,yap,nxO,IC.ve1,IC.ve2,IC.ve3,IC.ve6,IC.ve8,IC.ve16,IC.ve18,evs,R.fl,R.bind,hq,ybv,yr,binI,D3,A1,A2,AM,AL,rdS h,idxV,yaS,at?,ixI,yaw,toR,yx,ybm,onBl,onF,yaF,stO,ybk];simp[rdS h,hl,hm]
  .refine⟨q,AB,?_⟩;erw[ybt,yR,xs_cons,xs_nil,x_expr,x_ite,x_six,hau,yap,nxO,IC.ve1,IC.ve2,IC.ve3,IC.ve6,IC.ve8,IC.ve16,IC.ve18,evs,R.fl,R.bind,hq,ybv,yr,binI,D3,A1,A2,AM,AL,rdS h,idxV,yaS,at?,ixI,yaw,toR,yx,ybm,onBl,onF,yaF];simp[rdS h,hl]
theorem zey(k:Nat){n:Nat}{ns:List Int}(hns:ns.length<=1000){m:Int}{u:Option PV}:∀(r N:Nat) (t a p:Int) (f:Bool) (st:SO),r<=N->64-t<=r->0<=a->st[n]?=AA (.lst [.lst (ns.map .int),.int a,.int p,.bl f]) ->
  ∃t' a' p' f',0<=a'/\yaH (yc T (k+2)) ybh ybt (N+1) [AA (.loc n),AA (.int m),AA (.int t),u] st=.nx [AA (.loc n),AA (.int m),AA (.int t'),u] (st.set n (.lst [.lst (ns.map .int),.int a',.int p',.bl f']))
 |r,N,t,a,p,f,st,hN,ht,ha,h=>by
  let⟨B,hB,hb⟩:=zgU (c:=yc T (k+2)) (m:=m) (t:=t) (u:=u) h;have hs:st.set n (.lst [.lst (ns.map .int),.int a,.int p,.bl f])=st:=by
   refine EG λi=>?_;rw[C7];split
   .rename_i e;subst e;split
    .exact h.symm
    .rename_i z;rw[BO (by lia)]at h
     cases h
   .rfl
  cases B with
  |false=>exact⟨t,a,p,f,ha,by rw[ze7 hB rfl,hs]⟩
  |true=>
   have h64:=hb rfl
   match r,N with
   |0,_=>exact absurd ht (by lia)
   |r+1,N+1=>
    let⟨p1,f1,hx⟩:=zho k hns (m:=m) (t:=t) ha (u:=u) h;let⟨t',a',p',f',h0,h2⟩:=zey k hns (m:=m) (u:=u) r N (t+1) (a+1) p1 f1 _ (by lia) (by lia) (by lia) (rdS h);refine⟨t',a',p',f',h0,?_⟩;rw[zhV hB rfl hx,h2,DJ]
theorem take(k n:Nat)(ns:List Int)(hns:ns.length<=1000)(a p m:Int)(ha:0<=a)(hm:0<m)(hm2:m<10000000000000000000000000000000000000000000000000000000000000000000000)(f:Bool)(st:SO)(h:st[n]?=AA (.lst [.lst (ns.map .int),.int a,.int p,.bl f])):
  ∃d a' p' f',0<=d/\d<m/\0<=a'/\yc T (k+3) zdD [.loc n,.int m] st=.ok (.int d) (st.set n (.lst [.lst (ns.map .int),.int a',.int p',.bl f'])):=by
 let⟨t',a',p',f',h0,h2⟩:=zey k hns (m:=m) (u:=AC) 64 99999 0 a p f st (by lia) (by lia) ha h;refine⟨p'%m,a',p'/m,f',Ak _ (by lia),Aa _ hm,h0,?_⟩;have hb:yR.body=.cons (.asg (.n 2) (.cst (.int 0))) (.cons (.while ybh ybt) (.cons (.asg (.n 3) (.bin .mod (.idx (.var 0) (.cst (.int 2))) (.var 1))) (.cons (.six (.var 0) (.cst (.int 2)) (.bin .fdiv (.idx (.var 0) (.cst (.int 2))) (.var 1))) (.cons (.ret (.var 3)) .nil)))):=rfl;have hT:T zdD=AA ⟨2,4,AD,yR.body⟩:=rfl;rw[yc,hT,hb];erw[AT,Ap,if_true,AO,Ar,B7,Ac,Ao,Aw,xs_cons,xs_nil,x_asg,zj0,x_six,x_ret,yap,nxO,stO,IC.ve1,IC.ve2,IC.ve3,IC.ve16,R.fl,R.bind,yH,A1,A2,AM,AL,h2,rdS h,idxV,yaS,at?,ixI,yr,binI,hm,hm2,and_self,toR,ybk];simp[rdS h,hm,hm2]
def Drw(ns:List Int)(n:Nat)(st:SO):Prop:=∃a p f,0<=a/\st[n]?=AA (.lst [.lst (ns.map .int),.int a,.int p,.bl f])
def Onl(ns:List Int)(n:Nat)(st st':SO):Prop:=∃a p f,0<=a/\st'=st.set n (.lst [.lst (ns.map .int),.int a,.int p,.bl f])
theorem Onl.drw{ns:List Int}{n:Nat}{st st':SO}(h:Drw ns n st)(o:Onl ns n st st'):Drw ns n st':=by
 let⟨a,p,f,ha,h⟩:=h;let⟨b,q,g,hb,rfl⟩:=o;exact⟨b,q,g,hb,rdS h⟩
theorem Onl.trans{ns:List Int}{n:Nat}{st st1 st2:SO}(o:Onl ns n st st1)(o2:Onl ns n st1 st2):Onl ns n st st2:=by
 let⟨b,q,g,hb,rfl⟩:=o;let⟨c,r,j,hc,rfl⟩:=o2;exact⟨c,r,j,hc,by rw[DJ]⟩
theorem yaX(k:Nat){n:Nat}{ns:List Int}(hns:ns.length<=1000){m:Int}(hm:0<m)(hm2:m<10000000000000000000000000000000000000000000000000000000000000000000000){st:SO}(h:Drw ns n st):
  ∃d st',0<=d/\d<m/\Onl ns n st st'/\yc T (k+3) zdD [.loc n,.int m] st=.ok (.int d) st':=by
 let⟨a,p,f,ha,h⟩:=h;let⟨d,a',p',f',h1,h2,h3,h4⟩:=take k n ns hns a p m ha hm hm2 f st h;exact⟨d,_,h1,h2,⟨_,_,_,h3,rfl⟩,h4⟩
theorem sizes(k:Nat){n:Nat}{ns:List Int}(hns:ns.length<=1000){m:Int}(hm:0<m)(hm2:m<=100){st:SO}(h:Drw ns n st):
  ∃w z st',4<=w/\w<=16/\1<=z/\z<=m/\Onl ns n st st'/\yc T (k+4) zdC [.loc n,.int m] st=.ok (.tup [.int w,.int z]) st':=by
 let⟨d,s1,d1,d2,o1,e1⟩:=yaX k hns (m:=13) (by lia) (by lia) h;let⟨e,s2,d3,d4,o2,e2⟩:=yaX k hns (m:=m) hm (by lia) (o1.drw h);refine⟨4+d,1+e,s2,by lia,by lia,by lia,by lia,o1.trans o2,?_⟩;have hT:T zdC=AA zcd:=rfl;rw[yc,hT];erw[zcd,AT,Ap,if_true,AO,Ar,B7,Ac,Ao,Aw,xs_cons,xs_nil,x_ret,yap,IC.ve1,IC.ve2,IC.ve3,IC.ve11,IC.ve18,evs,R.fl,R.bind,AM,AL,e1,e2,yr,binI,toR];simp[sizeMax]
theorem fresh(k:Nat)(ns:List Int)(h:ns.length<=63)(st:SO):∃v,yc T (k+1) zdI [.scr (ns.map .int)] st=.ok (.loc st.length) (st++[v])/\v=.lst [.lst (ns.map .int),.int 0,.int 0,.bl AD]:=by
 have hT:T zdI=AA zch:=rfl;refine⟨_,?_,rfl⟩;rw[yc,hT];erw[zch,AT,Ap,if_true,AO,Ar,B7,Ac,Ao,Aw,xs_cons,xs_nil,x_ret,yap,ev,evs,R.fl,R.bind,AM,toR];have hc:ycx (.scr (ns.map PV.int)) AC (.int 63)=AA (.lst (ns.map .int)):=by
  have hk:ybO ns.length 63=ns.length:=by
   show min 63 ns.length=ns.length;lia
  simp[ycx,ybW,yce,cut,ycy,ydh,hk]
  try rw[<-BK (f:=PV.int),GF]
 simp[ybW,onP,hc,sizeMax]
theorem dbl{call:Cl}{i j:Nat}(hij:i≠j):∀(N:Nat) (a:Int) (ρ:IC.Env) (v:Int) (st:SO),ρ[i]?=AA (AA (.int v)) ->
  ∃u,ya1 call (.n j) (.cons (.asg (.n i) (.bin .mul (.cst (.int 2)) (.var i))) .nil) (yh N a 1) ρ st=.nx ((ρ.set i (AA (.int (2^N*v)))).set j u) st/\(N=0->ρ[j]?=AA u \/ ρ.length<=j)
 |0,a,ρ,v,st,h=>by
  have hi:ρ.set i (AA (.int v))=ρ:=by
   refine EG λz=>?_;rw[C7];split
   .rename_i e;subst e;split
    .exact h.symm
    .rw[BO (by lia)]at h
     cases h
   .rfl
  rcases DI j ρ.length with hj|hj
  .refine⟨ρ[j],?_,λ_=>.inl (Cp hj)⟩;rw[yh,zD,Ee,CK,hi,List.set_getElem_self]
  .refine⟨AC,?_,λ_=>.inr hj⟩;rw[yh,zD,Ee,CK,hi,List.set_eq_of_length_le hj]
 |N+1,a,ρ,v,st,h=>by
  have h1:(ρ.set j (AA (.int a)))[i]?=AA (AA (.int v)):=by
   rw[AR (BI hij)];exact h
  have hil:i<ρ.length:=by
   rcases DI i ρ.length with z|z
   .exact z
   .rw[BO z]at h;cases h
  have h2:exs call (ρ.set j (AA (.int a))) st (.cons (.asg (.n i) (.bin .mul (.cst (.int 2)) (.var i))) .nil)=.nx ((ρ.set j (AA (.int a))).set i (AA (.int (2*v)))) st:=by
   erw[xs_nil,xs_cons,x_asg,yap,nxO,IC.ve1,IC.ve2,IC.ve3,R.bind,R.fl,h1,yH,yr,binI,yaw,toR];simp
  let⟨u,h3,_⟩:=dbl (call:=call) hij N (a+1) ((ρ.set j (AA (.int a))).set i (AA (.int (2*v)))) (2*v) st (by rw[A8 (by rw[BW];exact hil)]);refine⟨u,?_,λz=>by cases z⟩;rw[yh,zn (ρ1:=ρ.set j (AA (.int a))) rfl,h2];show ya1 call _ _ _ _ _=_;rw[h3,DJ,Ge _ _ (BI hij),DJ,Aj,Be]
theorem zdt(K:Nat):(0:Int)<2^K:=A9 (by lia)
noncomputable def yF:Css:=match yN.body with
 |.cons _ (.cons _ (.cons _ r))=>r
 |_=>.nil
noncomputable def wT2:Css:=match yF with
 |.cons _ (.cons _ (r))=>r
 |_=>.nil
theorem wE2:yF=(match yF with
 |.cons q0 (.cons q1 (_))=>.cons q0 (.cons q1 (wT2))
 |_=>.nil):=rfl
noncomputable def wT4:Css:=match yF with
 |.cons _ (.cons _ (.cons _ (.cons _ (r))))=>r
 |_=>.nil
theorem wE4:yF=(match yF with
 |.cons q0 (.cons q1 (.cons q2 (.cons q3 (_))))=>.cons q0 (.cons q1 (.cons q2 (.cons q3 (wT4))))
 |_=>.nil):=rfl
noncomputable def wT5:Css:=match yF with
 |.cons _ (.cons _ (.cons _ (.cons _ (.cons _ (r)))))=>r
 |_=>.nil
theorem wE5:yF=(match yF with
 |.cons q0 (.cons q1 (.cons q2 (.cons q3 (.cons q4 (_)))))=>.cons q0 (.cons q1 (.cons q2 (.cons q3 (.cons q4 (wT5)))))
 |_=>.nil):=rfl
noncomputable def wT6:Css:=match yF with
 |.cons _ (.cons _ (.cons _ (.cons _ (.cons _ (.cons _ (r))))))=>r
 |_=>.nil
theorem wE6:yF=(match yF with
 |.cons q0 (.cons q1 (.cons q2 (.cons q3 (.cons q4 (.cons q5 (_))))))=>.cons q0 (.cons q1 (.cons q2 (.cons q3 (.cons q4 (.cons q5 (wT6))))))
 |_=>.nil):=rfl
theorem zgh{c:Cl}{n:Nat}{w z kd m:Int}{u5 u6 u7 u8 u9 u10 u11 u12:Option PV}{st:SO}(h0:0<=kd)(h6:kd<6)(hm:16<=m):
  ∃x,0<=x/\x<m/\exs c [AA (.loc n),AA (.int w),AA (.int z),AA (.int kd),AA (.int m),u5,u6,u7,u8,u9,u10,u11,u12] st yF=.rt (.int x) st:=by
 obtain⟨x,x0,x1,hv⟩:∃x:Int,0<=x/\x<m/\∀st,idxV st (.tup [.int 0,.int 1,.int (m-1),.int (m/2),.int (m/2-1),.int (m-2)]) (.int kd)=AA (.int x):=by
  rcases (by lia:kd=0 \/ kd=1 \/ kd=2 \/ kd=3 \/ kd=4 \/ kd=5)with rfl|rfl|rfl|rfl|rfl|rfl
  .exact⟨0,by lia,by lia,λ_=>rfl⟩
  .exact⟨1,by lia,by lia,λ_=>rfl⟩
  .exact⟨m-1,by lia,by lia,λ_=>rfl⟩
  .exact⟨m/2,by lia,by lia,λ_=>rfl⟩
  .exact⟨m/2-1,by lia,by lia,λ_=>rfl⟩
  .exact⟨m-2,by lia,by lia,λ_=>rfl⟩
 refine⟨x,x0,x1,?_⟩;rw[wE2];erw[yF,yN,AT,Ap,BJ,Bd,if_true,xs_cons,xs_nil,x_asg,x_ite,x_ret,IC.ve1,IC.ve2,IC.ve3,IC.ve8,IC.ve11,IC.ve16,IC.ve18,evs,AM,AL,bd_ok,fl_ok,toR_some,bT_n,nxO_some,th_nx,th_rt,A1,A2,t_bl,on_t,sizeMax,Cj,b_sub,b_div2,c_lt,c_eq,c_gt,cond_true,cond_false,hv,h6,decide_true]
theorem zgB(k:Nat){n:Nat}{ns:List Int}(hns:ns.length<=1000){w z kd m:Int}{u5 u6 u7 u8 u9 u10 u11 u12:Option PV}{st:SO}(h:Drw ns n st)(h9:9<kd)(hm:16<=m)(hm2:m<=18446744073709551616):
  ∃x st',0<=x/\x<m/\Onl ns n st st'/\exs (yc T (k+3)) [AA (.loc n),AA (.int w),AA (.int z),AA (.int kd),AA (.int m),u5,u6,u7,u8,u9,u10,u11,u12] st yF=.rt (.int x) st':=by
 let⟨d,s1,d1,d2,o1,e1⟩:=yaX k hns (m:=m) (by lia) (by lia) h;refine⟨d,s1,d1,d2,o1,?_⟩;have k1:decide (kd<6)=false:=decide_eq_false (by lia);have k2:(kd==6)=false:=beq_eq_false_iff_ne.2 (by lia);have k3:(kd==7)=false:=beq_eq_false_iff_ne.2 (by lia);rw[wE6];erw[yF,yN,AT,Ap,BJ,Bd,if_true,xs_cons,xs_nil,x_asg,x_ite,x_ret,IC.ve1,IC.ve2,IC.ve3,IC.ve8,IC.ve11,IC.ve16,IC.ve18,evs,AM,AL,bd_ok,fl_ok,toR_some,bT_n,nxO_some,th_nx,th_rt,A1,A2,t_bl,on_t,sizeMax,Cj,b_sub,b_div2,c_lt,c_eq,c_gt,cond_true,cond_false,e1,h9,decide_true,k1,k2,k3]
theorem zf5(k:Nat){n:Nat}{ns:List Int}(hns:ns.length<=1000){w z kd m:Int}{u5 u6 u7 u8 u9 u10 u11 u12:Option PV}{st:SO}(h:Drw ns n st)(hk:kd=6 \/ kd=7)(hw:4<=w)(hw2:w<=16)(hz:1<=z)(hz2:z<=4)(hm:m=2^(w*z).toNat):
  ∃x st',0<=x/\x<m/\Onl ns n st st'/\exs (yc T (k+3)) [AA (.loc n),AA (.int w),AA (.int z),AA (.int kd),AA (.int m),u5,u6,u7,u8,u9,u10,u11,u12] st yF=.rt (.int x) st':=by
 have hwz:4<=w*z:=by
  have:=Ga hw hz (by lia) (by lia);lia
 have hwz2:w*z<=64:=by
  have:=Ga hw2 hz2 (by lia) (by lia);lia
 have hm1:0<m:=hm ▸ zdt _;have hm2:m<=18446744073709551616:=by
  have h64:(2:Nat)^(w*z).toNat<=2^64:=Au (by lia) (by lia);have h65:((2^(w*z).toNat:Nat):Int)=2^(w*z).toNat:=by simp
  rw[hm,<-h65];lia
 let⟨d,s1,d1,d2,o1,e1⟩:=yaX k hns (m:=m) (by lia) (by lia) h;let⟨e,s2,d3,d4,o2,e2⟩:=yaX k hns (m:=w*z) (by lia) (by lia) (o1.drw h);have hj:(2:Int)^e.toNat<m:=by
  rw[hm];exact Int.pow_lt_pow_of_lt (by lia) (by lia)
 have hj1:=zdt e.toNat;have hj2:(2:Int)^e.toNat<10000000000000000000000000000000000000000000000000000000000000000000000:=by lia
 have hj3:((2:Int)^e.toNat).natAbs<18446744073709551616:=by lia
 have hj4:(2:Nat)^e.toNat<18446744073709551616:=by
  have h65:((2^e.toNat:Nat):Int)=2^e.toNat:=by simp
  lia
 have hwa:w.natAbs<18446744073709551616:=by lia
 have hea:e.natAbs<1000000000:=by lia
 have hr:ybM (.int e)=AA (yh e.toNat 0 1):=by erw[ybM,hea,if_true]
 have q1:=zgV (i:=d) hj1 (by lia);have q2:yr .mul (.int (d/2^e.toNat)) (.int (2^e.toNat))=AA (.int (d/2^e.toNat*2^e.toNat)):=zeh hj3;have q3:yr .mul (.int w) (.int z)=AA (.int (w*z)):=zej hwa
 clear hj2 hj4 hea hwa hj3 hwz hwz2
 rcases hk with rfl|rfl
 .let⟨u,hd,_⟩:=dbl (call:=yc T (k+3)) (i:=8) (j:=5) (by lia) e.toNat 0 [AA (.loc n),AA (.int w),AA (.int z),AA (.int 6),AA (.int m),u5,AA (.tup [.int 0,.int 1,.int (m-1),.int (m/2),.int (m/2-1),.int (m-2)]),AA (.int d),AA (.int 1),u9,u10,u11,u12] 1 s2 rfl;refine⟨d/2^e.toNat*2^e.toNat,s2,Cg (Cv d1 (by lia)) (by lia),Int.lt_of_le_of_lt (Int.ediv_mul_le d (by lia)) d2,o1.trans o2,?_⟩;have k1:decide ((6:Int)<6)=false:=rfl;have k2:((6:Int)==6)=true:=rfl;rw[C9]at hd;rw[wE4];generalize wT4=F at *;generalize (2:Int)^e.toNat=P at *;erw[IC.PV.tup]at hd;simp! [yF,yN,e1,k1,k2,q3,e2,hr,hd,q1,q2]
 .let⟨u,hd,_⟩:=dbl (call:=yc T (k+3)) (i:=8) (j:=5) (by lia) e.toNat 0 [AA (.loc n),AA (.int w),AA (.int z),AA (.int 7),AA (.int m),u5,AA (.tup [.int 0,.int 1,.int (m-1),.int (m/2),.int (m/2-1),.int (m-2)]),AA (.int d),AA (.int 1),u9,u10,u11,u12] 1 s2 rfl;refine⟨m-2^e.toNat,s2,by lia,by lia,o1.trans o2,?_⟩;have k1:decide ((7:Int)<6)=false:=rfl;have k2:((7:Int)==6)=false:=rfl;have k3:((7:Int)==7)=true:=rfl;rw[C9]at hd;rw[wE5];generalize wT5=F at *;generalize (2:Int)^e.toNat=P at *;erw[IC.PV.tup]at hd;simp! [yF,yN,e1,k1,k2,k3,q3,e2,hr,hd]
theorem Drw.refl{ns:List Int}{n:Nat}{st:SO}(h:Drw ns n st):Onl ns n st st:=by
 let⟨a,p,f,ha,h⟩:=h;exact⟨a,p,f,ha,zim h⟩
noncomputable def ybs:Css:=match yF with
 |.cons _ (.cons _ (.cons _ (.cons _ (.cons _ (.cons _ (.cons _ (.cons _ (.cons _ (.cons (.for _ _ b) _)))))))))=>b
 |_=>.nil
theorem zf7(k:Nat){n:Nat}{ns:List Int}(hns:ns.length<=1000){p1 p2 p3 p4 p6 p8 u11 u12:Option PV}{d W acc a:Int}{st:SO}(h:Drw ns n st)(ha:0<=a)(ha2:a<1000)(hW:4<=W)(hW2:W<18446744073709551616):
  ∃e st' v11 v12,0<=e/\e<W/\Onl ns n st st'/\exs (yc T (k+3)) [AA (.loc n),p1,p2,p3,p4,AA (.int a),p6,AA (.int d),p8,AA (.int W),AA (.int acc),u11,u12] st ybs=.nx [AA (.loc n),p1,p2,p3,p4,AA (.int a),p6,AA (.int d),p8,AA (.int W),AA (.int (acc*W+e)),v11,v12] st':=by
 let⟨t,s1,d1,d2,o1,e1⟩:=yaX k hns (m:=5) (by lia) (by lia) h;have hW0:0<W:=by lia
 have hWm:W.natAbs<18446744073709551616:=by lia
 have ha3:0<a+1:=by lia
 have ha4:a+1<18446744073709551616*18446744073709551616:=by lia
 have q0:=Ak (d/(a+1)) (show W≠0 by lia);have q1:=Aa (d/(a+1)) hW0;obtain⟨e,x0,x1,hv⟩:∃e:Int,0<=e/\e<W/\∀st,idxV st (.tp AD [.int 0,.int 1,.int (W-1),.int (W/2),.int (d/(a+1)%W)]) (.int t)=AA (.int e):=by
  rcases (by lia:t=0 \/ t=1 \/ t=2 \/ t=3 \/ t=4)with rfl|rfl|rfl|rfl|rfl
  .exact⟨0,by lia,by lia,λ_=>rfl⟩
  .exact⟨1,by lia,by lia,λ_=>rfl⟩
  .exact⟨W-1,by lia,by lia,λ_=>rfl⟩
  .exact⟨W/2,by lia,by lia,λ_=>rfl⟩
  .exact⟨d/(a+1)%W,q0,q1,λ_=>rfl⟩
 refine⟨e,s1,AA (.int (d/(a+1)%W)),AA (.tp AD [.int 0,.int 1,.int (W-1),.int (W/2),.int (d/(a+1)%W)]),x0,x1,o1,?_⟩;erw[ybs,yF,yN,xs_cons,xs_nil,x_asg,IC.ve1,IC.ve2,IC.ve3,IC.ve11,IC.ve16,IC.ve18,evs,AM,AL,bd_ok,fl_ok,toR_some,bT_n,nxO_some,th_nx,A1,A2,b_add,b_sub,zgV ha3 ha4,zhL hW0,b_div2,zeh hWm,e1,PV.tup,hv,AT,Ap,BJ,Bd,sizeMax,Cj,if_true]
theorem zdg(k:Nat){n:Nat}{ns:List Int}(hns:ns.length<=1000){p1 p2 p3 p4 p6 p8:Option PV}{d W:Int}(hW:4<=W)(hW2:W<18446744073709551616):∀(r i:Nat) (a acc:Int) (u5 u11 u12:Option PV) (st:SO),0<=a->a+r<1000->0<=acc->acc<W^i->Drw ns n st ->
  ∃acc' st' v5 v11 v12,0<=acc'/\acc' < W^(i+r)/\Onl ns n st st'/\ya1 (yc T (k+3)) (.n 5) ybs (yh r a 1) [AA (.loc n),p1,p2,p3,p4,u5,p6,AA (.int d),p8,AA (.int W),AA (.int acc),u11,u12] st=.nx [AA (.loc n),p1,p2,p3,p4,v5,p6,AA (.int d),p8,AA (.int W),AA (.int acc'),v11,v12] st'
 |0,i,a,acc,u5,u11,u12,st,_,_,h0,h1,h=>⟨acc,st,u5,u11,u12,h0,h1,h.refl,by rw[yh,zD]⟩
 |r+1,i,a,acc,u5,u11,u12,st,ha,hr,h0,h1,h=>by
  let⟨e,s1,v11,v12,e0,e1,o1,hs⟩:=zf7 k hns (p1:=p1) (p2:=p2) (p3:=p3) (p4:=p4) (p6:=p6) (p8:=p8) (u11:=u11) (u12:=u12) (d:=d) (acc:=acc) h ha (by lia) hW hW2;have hb:acc*W+e<W^(i+1):=by
   have:=BY (show acc<=W^i-1 by lia) (show 0<=W by lia);rw[CZ,CK]at this;rw[Aj];lia
  have hb0:0<=acc*W:=Cg h0 (by lia);let⟨acc',s2,w5,w11,w12,f0,f1,o2,hf⟩:=zdg k hns (p1:=p1) (p2:=p2) (p3:=p3) (p4:=p4) (p6:=p6) (p8:=p8) (d:=d) hW hW2 r (i+1) (a+1) (acc*W+e) (AA (.int a)) v11 v12 s1 (by lia) (by lia) (by lia) hb (o1.drw h);refine⟨acc',s2,w5,w11,w12,f0,by rw[show i+(r+1)=i+1+r by lia];exact f1,o1.trans o2,?_⟩;rw[yh,zn (ρ1:=[AA (.loc n),p1,p2,p3,p4,AA (.int a),p6,AA (.int d),p8,AA (.int W),AA (.int acc),u11,u12]) rfl,hs];exact hf
theorem ze0(k:Nat){n:Nat}{ns:List Int}(hns:ns.length<=1000){w z:Nat}{kd m:Int}{u5 u6 u7 u8 u9 u10 u11 u12:Option PV}{st:SO}(h:Drw ns n st)(hk:kd=8 \/ kd=9)(hw:4<=w)(hw2:w<=16)(hz:1<=z)(hz2:z<=4)(hm:m=2^(w*z)):
  ∃x st',0<=x/\x<m/\Onl ns n st st'/\exs (yc T (k+3)) [AA (.loc n),AA (.int w),AA (.int z),AA (.int kd),AA (.int m),u5,u6,u7,u8,u9,u10,u11,u12] st yF=.rt (.int x) st':=by
 have hwz2:w*z<=64:=Bm hw2 hz2;have hm1:0<m:=hm ▸ zdt _;have hm2:m<=18446744073709551616:=by
  have h64:(2:Nat)^(w*z)<=2^64:=Au (by lia) hwz2;rw[hm,<-pw];lia
 let⟨d,s1,d1,d2,o1,e1⟩:=yaX k hns (m:=m) (by lia) (by lia) h;have hW4:(4:Int)<=2^w:=by
  have h:(2:Nat)^2<=2^w:=Au (by lia) (by lia);have h2:=pw w;lia
 have hWl:(2:Int)^w<18446744073709551616:=by
  have h:(2:Nat)^w<=2^16:=Au (by lia) hw2;have h2:=pw w;lia
 have r1:ybM (.int (w:Int))=AA (yh w 0 1):=zaw w (by lia);have r2:ybM (.int (z:Int))=AA (yh z 0 1):=zaw z (by lia);have k1:¬kd<6:=by lia
 have k2:(kd==6)=false:=by simp;lia
 have k3:(kd==7)=false:=by simp;lia
 have k4:¬9<kd:=by lia
 let⟨u,hd,_⟩:=dbl (call:=yc T (k+3)) (i:=9) (j:=5) (by lia) w 0 [AA (.loc n),AA (.int w),AA (.int z),AA (.int kd),AA (.int m),u5,AA (.tup [.int 0,.int 1,.int (m-1),.int (m/2),.int (m/2-1),.int (m-2)]),AA (.int d),u8,AA (.int 1),u10,u11,u12] 1 s1 rfl;erw[A1,A2,C9]at hd;let⟨acc',s2,w5,w11,w12,f0,f1,o2,hf⟩:=zdg k hns (p1:=AA (.int w)) (p2:=AA (.int z)) (p3:=AA (.int kd)) (p4:=AA (.int m)) (p6:=AA (.tup [.int 0,.int 1,.int (m-1),.int (m/2),.int (m/2-1),.int (m-2)])) (p8:=u8) (d:=d) (W:=2^w) hW4 hWl z 0 0 0 u u11 u12 s1 (by lia) (by lia) (by lia) (by simp) (o1.drw h);rw[BJ,<-BN,<-hm]at f1;refine⟨acc',s2,f0,f1,o1.trans o2,?_⟩
 have hR:yF=.cons (.asg (.n 6) (.tup (.cons (.cst (.int 0)) (.cons (.cst (.int 1)) (.cons (.bin .sub (.var 4) (.cst (.int 1))) (.cons (.bin .fdiv (.var 4) (.cst (.int 2))) (.cons (.bin .sub (.bin .fdiv (.var 4) (.cst (.int 2))) (.cst (.int 1))) (.cons (.bin .sub (.var 4) (.cst (.int 2))) .nil)))))))) (match yF with
  |.cons _ (.cons a (.cons b (.cons c (.cons d (.cons e (.cons f (.cons g (.cons h (.cons (.for t i _) r)))))))))=>.cons a (.cons b (.cons c (.cons d (.cons e (.cons f (.cons g (.cons h (.cons (.for t i ybs) r))))))))
  |_=>.nil):=rfl
 rw[hR];erw[yF,yN,xs_cons,xs_nil,x_asg,x_ite,x_ret,x_for,evi,r1,r2,toL,IC.ve1,IC.ve2,IC.ve3,IC.ve8,IC.ve11,IC.ve16,IC.ve18,evs,bd_ok,fl_ok,toR_some,bT_n,nxO_some,th_nx,th_rt,A1,A2,AM,AL,b_sub,b_div2,c_lt,c_eq,c_gt,on_t,t_bl,k1,k2,k3,k4,decide_false,cond_false,e1,hd,hf,AT,Ap,BJ,Bd,sizeMax,Cj,if_true]
theorem worth(k:Nat){n:Nat}{ns:List Int}(hns:ns.length<=1000)(w z:Nat)(hw:4<=w)(hw2:w<=16)(hz:1<=z)(hz2:z<=4){st:SO}(h:Drw ns n st):
  ∃x st',0<=x/\x<2^(w*z)/\Onl ns n st st'/\yc T (k+4) zb8 [.loc n,.int w,.int z] st=.ok (.int x) st':=by
 let⟨kd,s1,d1,d2,o1,e1⟩:=yaX k hns (m:=12) (by lia) (by lia) h;have h1:=o1.drw h;have hwz2:w*z<=64:=Bm hw2 hz2;have hwz:4<=w*z:=Bm hw hz;have hm:(16:Int)<=2^(w*z):=by
  have h:(2:Nat)^4<=2^(w*z):=Au (by lia) hwz;have h2:=pw (w*z);lia
 have hm2:(2:Int)^(w*z)<=18446744073709551616:=by
  have h:(2:Nat)^(w*z)<=2^64:=Au (by lia) hwz2;have h2:=pw (w*z);lia
 have hwa:(w:Int).natAbs<18446744073709551616:=by lia
 have hwm:(w:Int)*(z:Int)=((w*z:Nat):Int):=by simp
 have r1:ybM (.int ((w*z:Nat):Int))=AA (yh (w*z) 0 1):=zaw _ (by lia);let⟨u,hd,_⟩:=dbl (call:=yc T (k+3)) (i:=4) (j:=5) (by lia) (w*z) 0 [AA (.loc n),AA (.int w),AA (.int z),AA (.int kd),AA (.int 1),AC,AC,AC,AC,AC,AC,AC,AC] 1 s1 rfl;erw[A1,A2,C9]at hd;have key:∃x st',0<=x/\x<2^(w*z)/\Onl ns n s1 st'/\exs (yc T (k+3)) [AA (.loc n),AA (.int w),AA (.int z),AA (.int kd),AA (.int (2^(w*z))),u,AC,AC,AC,AC,AC,AC,AC] s1 yF=.rt (.int x) st':=by
  rcases (by lia:kd<6 \/ (kd=6 \/ kd=7) \/ (kd=8 \/ kd=9) \/ 9<kd)with q|q|q|q
  .let⟨x,a,b,e⟩:=zgh (c:=yc T (k+3)) (n:=n) (w:=w) (z:=z) (st:=s1) (u5:=u) (u6:=AC) (u7:=AC) (u8:=AC) (u9:=AC) (u10:=AC) (u11:=AC) (u12:=AC) d1 q hm;exact⟨x,s1,a,b,h1.refl,e⟩
  .exact zf5 k hns h1 q (by lia) (by lia) (by lia) (by lia) (by rw[hwm,CJ])
  .exact ze0 k hns h1 q hw hw2 hz hz2 rfl
  .exact zgB k hns h1 q hm hm2
 let⟨x,s2,a,b,o2,e2⟩:=key;refine⟨x,s2,a,b,o1.trans o2,?_⟩;have hT:T zb8=AA ⟨3,13,AD,yN.body⟩:=rfl;have hb:yN.body=.cons (.asg (.n 3) (.call 105 (.cons (.var 0) (.cons (.cst (.int 12)) .nil)))) (.cons (.asg (.n 4) (.cst (.int 1))) (.cons (.for (.n 5) (.range1 (.bin .mul (.var 1) (.var 2))) (.cons (.asg (.n 4) (.bin .mul (.cst (.int 2)) (.var 4))) .nil)) yF)):=rfl;rw[yc,hT,hb];erw[AT,Ap,BJ,Bd,if_true,BU,if_false,AO,Ar,B7,Ac,Ao,Aw];rw[xs_cons,x_asg];erw[IC.ve18,IC.ve1,IC.ve2,evs,AM,AL,bd_ok,fl_ok,e1,bT_n,nxO_some,th_nx,A1,A2];rw[xs_cons,x_asg];erw[IC.ve1,bd_ok,fl_ok,bT_n,nxO_some,th_nx,A1,A2];rw[xs_cons,x_for];erw[evi,IC.ve2,IC.ve3,AM,AL,bd_ok,fl_ok,zej hwa,hwm,r1,toL,toR_some,hd,th_nx,e2]
noncomputable def lB:Css:=match yaP.body with
 |.cons _ (.cons _ (.cons (.for _ _ b) _))=>b
 |x=>x
noncomputable def fB:Css:=match lB with
 |.cons _ (.cons _ (.cons _ (.cons _ (.cons _ (.cons _ (.cons (.for _ _ b) _))))))=>b
 |x=>x
abbrev wd8:PV:=.tp AD [.str (nm8 0),.str (nm8 1),.str (nm8 2),.str (nm8 3),.str (nm8 4),.str (nm8 5),.str (nm8 6),.str (nm8 7)]
theorem znC(st:SO){i:Nat}(hi:i<8):idxV st wd8 (.int i)=AA (.str (nm8 i)):=by
 rcases (by lia:i=0 \/ i=1 \/ i=2 \/ i=3 \/ i=4 \/ i=5 \/ i=6 \/ i=7)with rfl|rfl|rfl|rfl|rfl|rfl|rfl|rfl<;>rfl
theorem zlk{i:Nat}(hi:i<8):yx .isin (.str (nm8 i)) (.tp AD [.str "turned",.str "bare"])=AA (.bl (!pr8 i)):=by
 rcases (by lia:i=0 \/ i=1 \/ i=2 \/ i=3 \/ i=4 \/ i=5 \/ i=6 \/ i=7)with rfl|rfl|rfl|rfl|rfl|rfl|rfl|rfl<;>ac_rfl
theorem zgq(l:List Int):ya6 (l.map .int) (l.map .int)=true:=by
 induction l with
 |nil=>simp[ya6]
 |cons a l ih=>simp[ya6,peq,ih]
theorem zhD(n:Nat)(l:List Int):ybd n (l.map .int)=true:=by
 induction l with
 |nil=>simp[ybd]
 |cons a l ih=>simp[ybd,shd,ih]
theorem znF(ws:List Int)(a b c d:Int):yx .ne (dv ws a b c d) (dv ws a b c d)=AA (.bl AD):=by
 simp[yx,shd,ybd,peq,ya6,zgq,zhD]
theorem zl3(i w n:Nat)(x y:Int):yx .ne (yao i w n x y) (yao i w n x y)=AA (.bl AD):=by
 unfold yao;split<;>exact znF _ _ _ _ _
theorem zdB{m:Nat}{ns:List Int}(hns:ns.length<=1000){p0:Option PV}{st:SO}(h:Drw ns m st)(q3 q4 q5 q6 q7 q8 q9 q10:Option PV):
  ∃st' r4 r5 r6 r7 r8 r9 r10,Drw ns m st'/\exs (yc T 23) [p0,AA (.loc m),AA wd8,q3,q4,q5,q6,q7,q8,q9,q10] st lB=.nx [p0,AA (.loc m),AA wd8,q3,r4,r5,r6,r7,r8,r9,r10] st':=by
 let⟨d,s1,d0,d1,o1,e1⟩:=yaX 20 hns (m:=8) (by lia) (by lia) h;let⟨i,rfl⟩:=zav d0;have hi:i<8:=by lia
 have h1:=o1.drw h;let⟨wi,zi,s2,a1,a2,a3,a4,o2,e2⟩:=sizes 19 hns (m:=4) (by lia) (by lia) h1;let⟨w,rfl⟩:=zav (show 0<=wi by lia);let⟨n,rfl⟩:=zav (show 0<=zi by lia);have h2:=o2.drw h1;have hw:4<=w:=by lia
 have hw2:w<=16:=by lia
 have hn:1<=n:=by lia
 have hn2:n<=4:=by lia
 let⟨x,s3,x0,x1,o3,e3⟩:=worth 19 hns w n hw hw2 hn hn2 h2;have h3:=o3.drw h2;let⟨y,s4,y0,y1,o4,e4⟩:=worth 19 hns w n hw hw2 hn hn2 h3;have h4:=o4.drw h3;rw[BN]at x1 y1;have hp:(0:Int)<(2^w:Int)^n:=A9 (A9 (by lia));obtain⟨Y,hY,Y0,Y1,hYp⟩:∃Y:Int,Y=(if pr8 i=AB then y else 0)/\0<=Y/\Y<(2^w:Int)^n/\(pr8 i=AD->Y=0):=by
  cases e:pr8 i with
  |true=>exact⟨y,rfl,y0,y1,nofun⟩
  |false=>exact⟨0,rfl,by lia,hp,λ_=>rfl⟩
 have D:=λs=>ye6 18 hi hw hw2 hn hn2 x0 x1 Y0 Y1 s;have C:=λs=>yc9 1 hi hw hw2 hn hn2 x0 x1 Y0 Y1 hYp s;have R:=λs=>yfP 1 hi hw hw2 hn hn2 x0 x1 Y0 Y1 hYp s;have A:=λs=>ycc 20 hi hw2 hn2 x Y (n:=n) s;have N:=zl3 i w n x Y;have one:∀(p0 q3 q10:Option PV) (st:SO),exs (yc T 23) [p0,AA (.loc m),AA wd8,q3,AA (.str (nm8 i)),AA (.int w),AA (.int n),AA (.int x),AA (.int Y),AA (yao i w n x Y),AA (yao i w n x Y)] st fB=.nx [p0,AA (.loc m),AA wd8,q3,AA (.str (nm8 i)),AA (.int w),AA (.int n),AA (.int x),AA (.int Y),AA (yao i w n x Y),AA (yao i w n x Y)] st:=λp0 q3 q10 st=>by
  generalize yao i w n x Y=V at *;generalize wd8=L at *;simp! [fB,lB,yaP,A,N]
 have ag:∀(ρ:IC.Env) (s:SO) (k:IC.Env->SO->Fl),yai (.nx ρ s) k=k ρ s:=λ_ _ _=>rfl;have lp:∀(p0 q3 q10:Option PV) (st:SO),ya1 (yc T 23) (.n 10) fB [yao i w n x Y,yao i w n x Y,yao i w n x Y] [p0,AA (.loc m),AA wd8,q3,AA (.str (nm8 i)),AA (.int w),AA (.int n),AA (.int x),AA (.int Y),AA (yao i w n x Y),q10] st=.nx [p0,AA (.loc m),AA wd8,q3,AA (.str (nm8 i)),AA (.int w),AA (.int n),AA (.int x),AA (.int Y),AA (yao i w n x Y),AA (yao i w n x Y)] st:=λp0 q3 q10 st=>by
  rw[zn (ρ1:=[p0,AA (.loc m),AA wd8,q3,AA (.str (nm8 i)),AA (.int w),AA (.int n),AA (.int x),AA (.int Y),AA (yao i w n x Y),AA (yao i w n x Y)]) rfl,one p0 q3 q10,ag,zn (ρ1:=[p0,AA (.loc m),AA wd8,q3,AA (.str (nm8 i)),AA (.int w),AA (.int n),AA (.int x),AA (.int Y),AA (yao i w n x Y),AA (yao i w n x Y)]) rfl,one p0 q3 q10,ag,zn (ρ1:=[p0,AA (.loc m),AA wd8,q3,AA (.str (nm8 i)),AA (.int w),AA (.int n),AA (.int x),AA (.int Y),AA (yao i w n x Y),AA (yao i w n x Y)]) rfl,one p0 q3 q10,ag,zD]
 have hb:lB=(match lB with
  |.cons a (.cons b (.cons c (.cons d (.cons e (.cons f (.cons (.for t i _) r))))))=>.cons a (.cons b (.cons c (.cons d (.cons e (.cons f (.cons (.for t i fB) r))))))
  |x=>x):=rfl
 have bt:∀(a b:PV) (ρ:IC.Env),yH (.t [5,6]) (.tp AD [a,b]) ρ=AA ((ρ.set 5 (AA a)).set 6 (AA b)):=λ_ _ _=>rfl;have ix:=znC (i:=i);have tw:=zlk hi;have E1:yc T 23 zdD [.loc m,.int 8] st=.ok (.int (i:Int)) s1:=e1;have E2:yc T 23 zdC [.loc m,.int 4] s1=_:=e2;have E3:yc T 23 zb8 [.loc m,.int w,.int n] s2=_:=e3;have E4:yc T 23 zb8 [.loc m,.int w,.int n] s3=_:=e4;have C:∀s,yc T 23 zbN [.tp AD [.str (nm8 i)],.int w,.int n,.int x,.int Y] s=.ok (yao i w n x Y) s:=C;have R:∀s,yc T 23 ziU [.tp AD [.str (nm8 i)],.int w,.int n,.int x,.int Y] s=.ok (yao i w n x Y) s:=R;refine⟨s4,_,_,_,_,_,_,_,h4,(?_:_=Fl.nx [p0,AA (.loc m),AA wd8,q3,AA (.str (nm8 i)),AA (.int w),AA (.int n),AA (.int x),AA (.int Y),AA (yao i w n x Y),AA (yao i w n x Y)] s4)⟩;rw[hb];have ix:=λs=>ix s hi;generalize wd8=L at *;generalize yao i w n x Y=V at *
 cases e:pr8 i with
 |true=>
  rw[e]at tw hY;erw[if_true]at hY;subst hY;generalize nm8 i=S at *;simp! [lB,yaP,E1,ix,E2,bt,E3,E4,tw,D,C,R,lp]
 |false=>
  rw[e]at tw hY;erw[BU,if_false]at hY;subst hY;generalize nm8 i=S at *;simp! [lB,yaP,E1,ix,E2,bt,E3,E4,tw,D,C,R,lp]
theorem zf1(l:List Int):nLs [PV.scr (l.map .int)]=true:=by simp[nLs,nL,noLocs_ints]
theorem ziS(ns:List Int)(hns:ns.length<=63):yc T 24 zib [.scr (ns.map .int)] []=.ok (.bl AB) []:=by
 let⟨o,e1,ho⟩:=fresh 22 ns hns [];have h0:Drw ns 0 [o]:=⟨0,0,AD,by lia,by rw[ho];rfl⟩;have e1:yc T 23 zdI [.scr (ns.map .int)] []=.ok (.loc 0) [o]:=e1;have hl:ns.length<=1000:=by lia
 have ag:∀(ρ:IC.Env) (s:SO) (k:IC.Env->SO->Fl),yai (.nx ρ s) k=k ρ s:=λ_ _ _=>rfl;let⟨s1,a4,a5,a6,a7,a8,a9,a10,h1,f1⟩:=zdB hl (p0:=AA (.scr (ns.map .int))) h0 (AA (.int 0)) AC AC AC AC AC AC AC;let⟨s2,b4,b5,b6,b7,b8,b9,b10,h2,f2⟩:=zdB hl (p0:=AA (.scr (ns.map .int))) h1 (AA (.int 1)) a4 a5 a6 a7 a8 a9 a10;let⟨s3,c4,c5,c6,c7,c8,c9,c10,h3,f3⟩:=zdB hl (p0:=AA (.scr (ns.map .int))) h2 (AA (.int 2)) b4 b5 b6 b7 b8 b9 b10;have hr:ybM (.int 3)=AA [.int 0,.int 1,.int 2]:=rfl;have lp:ya1 (yc T 23) (.n 3) lB [.int 0,.int 1,.int 2] [AA (.scr (ns.map .int)),AA (.loc 0),AA wd8,AC,AC,AC,AC,AC,AC,AC,AC] [o]=.nx [AA (.scr (ns.map .int)),AA (.loc 0),AA wd8,AA (.int 2),c4,c5,c6,c7,c8,c9,c10] s3:=by
  rw[zn (ρ1:=[AA (.scr (ns.map .int)),AA (.loc 0),AA wd8,AA (.int 0),AC,AC,AC,AC,AC,AC,AC]) rfl,f1,ag,zn (ρ1:=[AA (.scr (ns.map .int)),AA (.loc 0),AA wd8,AA (.int 1),a4,a5,a6,a7,a8,a9,a10]) rfl,f2,ag,zn (ρ1:=[AA (.scr (ns.map .int)),AA (.loc 0),AA wd8,AA (.int 2),b4,b5,b6,b7,b8,b9,b10]) rfl,f3,ag,zD]
 have lp:ya1 (yc T 23) (.n 3) lB [.int 0,.int 1,.int 2] [AA (.scr (ns.map .int)),AA (.loc 0),AA (.tp AD [.str "sum",.str "difference",.str "turned",.str "compare",.str "both",.str "any",.str "odd",.str "bare"]),AC,AC,AC,AC,AC,AC,AC,AC] [o]=_:=lp;have hT:T zib=AA ⟨1,11,AB,yaP.body⟩:=rfl
 have hb:yaP.body=(match yaP.body with
  |.cons a (.cons b (.cons (.for t i _) r))=>.cons a (.cons b (.cons (.for t i lB) r))
  |x=>x):=rfl
 rw[zc hT rfl rfl (zf1 ns)];dsimp only;rw[hb];simp! [yaP,e1,hr,lp,zl8]
end WK
namespace WK
open PySem L2 IC
theorem walk{l:EU}{q:A7}{loose:List AQ}{XP:(AQ->Option AF)->Ay->Prop}{YP:Ag->Ay->Prop}{d:DefRec}{K:Params->AE}(hn:l.most=AA 63)(hdf:d.params.defaults=[])
  (hY:∀(w:Ag) (h:Ay),YP w h->(K w.params).In h)
  (F:∀(w:Ag) (mg:AQ->Option AF) (fa:AI) (h:Ay),(K w.params).In h->h.Ns mainGlobals mg->mg d.name=AA (.ref fa) ->
   ∃fd:Az,(∀(s:AJ) (u:AF),Ez s fd ⟨[u],[]⟩ [("_law_script",u)])/\∀base:Ay,(K w.params).In base->base.Ns mainGlobals mg->yaE l.prog w (K w.params) mg base (CX1 l.prog w) (2*24) fa fd ["_law_script"] (spX (K w.params) (yc T 24) zib)):
  GX q loose XP YP l.row.toRowW d [] (λf vs=>G6 f vs):=
 L2.walk_of (n:=63) (k:=2*24) (x:="_law_script") (CX:=λw=>CX1 l.prog w) (sp:=λw=>spX (K w.params) (yc T 24) zib) hn (by decide) hdf ⟨rfl,by decide,by decide⟩ hY F (λw H a ns hl _ hS=>zhQ ziS hl hS) λ_ _ _ _ _ z=>zl6 z
end WK
end
open PySem PySem.W PyProof.Rows
theorem PySem.Challenge.cw_widewords_k18_simple_deeds_reckoned_holds : PySem.Challenge.rw_widewords_k18_simple_deeds_reckoned.Holds := by
 refine hh.hd (by rfl) (by rfl) (by rfl) ?_
 k_fill
 refine WK.walk (l:=PySem.Challenge.rw_widewords_k18_simple_deeds_reckoned) rfl rfl (λw h Y=>Y) ?F
 case F =>
  intro w mg fa h KX G hmg
  refine' L2.all_mk2 (t:=WK.tbQ) KX G hmg ?R ?B ?D WK.kb_all ?Ml WK.ok_all WK.T_ok (L:=120) rfl 24
  case R =>
   repeat' (first|exact trivial|apply And.intro|(refine' L2.rowFn ?a9 ?l9 ?c9 ?p9 ?b9;(case a9|l9|c9|p9=>k_is);(case b9=>((repeat intro _);first|rfl|kernel_rfl)))|(refine' L2.rowMe ?z9 ?a9 ?i9 ?l9 ?c9 ?p9 ?b9;(case z9=>((first|rw[WK.cn_20]|rw[WK.cn_21]);k_is));(case a9|i9|l9|c9|p9=>k_is);(case b9=>((repeat intro _);first|rfl|kernel_rfl)))|(refine' L2.rowIni ?z9 ?a9 ?i9 ?l9 ?c9 ?p9 ?b9 ?m9 ?k9;(case z9=>((first|rw[WK.cn_20]|rw[WK.cn_21]);k_is));(case a9|i9|l9|c9|p9=>k_is);(case b9=>((repeat intro _);first|rfl|kernel_rfl));(case m9|k9=>k_is))|(refine' L2.rowFd ?a9 ?l9 ?c9 ?p9 ?d9 ?e9 ?v9;(case a9|l9|c9|p9|d9=>k_is);(case e9=>rfl);(case v9=>(repeat first|exact .nil|refine .cons ⟨_,rfl⟩ ?_))))
  case B=>kernel_rfl
  case D =>
   repeat' (first|exact trivial|apply And.intro|intro _|(refine' L2.gd_mk KX G ?a9 ?l9 ?s9 ?r9 ?n9;(case a9|l9=>k_is);(case s9=>rfl);(case r9=>(repeat first|exact .nil|refine L2.con_row (by kernel_rfl) ?_));(case n9=>decide +kernel)))
  case Ml =>
   repeat' (first|exact trivial|apply And.intro|(refine' L2.gdf_mk KX G ?a9 ?l9 ?r9 ?n9;(case a9|l9=>k_is);(case r9=>(repeat first|exact .nil|refine L2.frow_cons (by kernel_rfl) ?_));(case n9=>decide +kernel)))
