import PyProof.Rows.All
import OpenK.KLine
import Open.Tops
import Wide.FinOn
import KE.KRevSl
import KE.KItem
import KE.KxWritten
import KE.KFromBytes
import KE.LcSums
import KE.KBits
import KE.KTryMore
import PySem.Challenge.RW_widewords_k26_shifts_reckoned
set_option Elab.async false
set_option linter.all false
set_option maxRecDepth 100000
set_option maxHeartbeats 0
set_option genSizeOf false in
set_option genInjectivity false in
structure PySem.W.Fast:Prop where(tw17352856536485648358 tw17501445035159614353 tw12433933510806298598 tw14131913689351635031 tw17722986984586103475 tw13573649647317781166 tw2724214404468995349 tw5438420506860424400 tw6418093866988244070 tw16840424161416107977 tw6373803419043199112 tw9020057485146375715 tw2433253121808772699 tw3597972740582964924 tw4465001371569168724 tw2010815383324722238 tw14458858951586447837 tw2815794414308850309 tw2289227165527845286 tw4316932895074977216 tw13577986803701177882 tw1522082557516990712 tw2696064377121447119 tw9175941719166009667 tw5089999063709493707 tw16764509060719900824 tw13597470158578976935 tw8989679771776387310 tw15964041948721312375 tw10213471607673486355 tw12323080486271916005 tw5312017536638525810 tw1341505363756704417 tw2351708991910388137 tw3717779660887542868 tw16436329227984925024 tw11716195134796020282 tw9362677646030349790 tw6352262416112046846 tw6740807744745831750 tw15537014073437369996 tw2127116463357391654 tw12308580808199778945 tw7552581025367750120 tw10354263622649633236 tw15070578781303725574 tw15697459081812743325 tw750605505254173074 tw6745652045969501361 tw448990400732263069 tw16061454563314523600 tw12187138681234678798 tw18147923242224507009 tw5129217402254772574 tw6101794914781145873 tw15645147349408745078 tw1532961823045090830 tw9680107251214424674 tw11779378607533905691 tw8626312067022777976 tw6168491156848564842 tw2310272613068765105 tw16122108536607304551 tw14091262711897946140 tw654055398921710415 tw752438664001856161 tw11082812747291037333 tw17720613791313187736 tw5185982266611357009 tw4923779845908541559 tw9790649181096081399 tw6734849453552688564 tw9267568783840577065 tw8436868531053796497 tw5011930110546313330 tw8562205623962804692 tw15259509715645699510 tw3126575167722991183 tw1905772203481599526 tw16521228487361109960 tw9466978497050625272 tw17297750520304798702 tw6561076195511282648 tw11329907618339855656 tw7973466089612851703 tw14067956104923610961 tw15283259542579778483 tw5573054129394731108 tw2580330301676670286 tw7970886147393467727 tw8192583951263878293 tw8091528771294299083 tw593154161239807349 tw15925884774848638539 tw13605959877037247101 tw5708248302522452901 tw9880144863136665317 tw13703530262398524310 tw15312110128046668232 tw11157865615647520782 tw17167420918584729690 tw12815578351764122133 tw9182206099413781431 tw10466694501327556581 tw5561274596613702746 tw6675604519141323197 tw9345118766124063310 tw5889941615753360478 tw11817492848182363798 tw17410421224534750018 tw7223095733880219677 tw14640650900510780824 tw5567724515687483806 tw3542792289930221973 tw5739863396237439856 tw10717977555466424854 tw8995123519885258671 tw5049869711987376827 tw2441447004000104453 tw8342172876442170773 tw7028225589164417458 tw12303165638208747336 tw16198177631839167884 tw4996844450624648172 tw10436990433708714241 tw5390563228312902539 tw5952483381859902644 tw3852633777274326999 tw15162826718409981836 tw3302306539294976881 tw14580111125152651796 tw11417629631682569598 tw16698689882059351459 tw15150759425779355464 tw18035930347264632125 tw13255872071489105159 tw1618409403174988130 tw12228868706382062411 tw6624904034936694174 tw17735916753482363243 tw54808207327172279 tw17163543078423377260 tw4120436156372486140 tw17476884725684326406 tw13335893356662817074 tw4444971835621942301 tw789734580427512384 tw14569029988729114219 tw15647769117918999185 tw14331983658757590299 tw3651800198494138915 tw9416002814540056859 tw7780312629314296965 tw17909291492413470969 tw4168269683669014455 tw17112510534939434542 tw16442550531236264377 tw18131391131952023913 tw17797426056391692211 tw1752967457713245757 tw14457428904612349136 tw10826732444876824988 tw3957207093464744032 tw2978628016885725288 tw10654058358423391425 tw1242905382749578199 tw7348922380460221092 tw10918529252159416827 tw9389706305465542553 tw2965109861153113570 tw4157262802141006972 tw2819549192751068288 tw16581308347557603854 tw5773814013873212246 tw802645413960178138 tw1582173516228871956 tw13481020170127973795 tw3222086975871703386 tw1550230210963305730 tw2269138047626845249 tw8200293459175095921 tw6149423695415421339 tw17130843029531595728 tw10803423037944932682 tw14807498947087199244 tw10672002925225789591 tw4307902166805345004 tw13693096086628781159 tw5380664027610943987 tw3778500213534664882 tw17340066273884552816 tw18346615992657287051 tw14794936708631394782 tw3031286205281384764 tw15845214038335919750 tw3174924361409397397 tw14877714404705655619 tw15534396628898157171 tw6544737245984256064 tw9200846388616832367 tw5492422498956753010 tw11320194814380737366 tw1563789891762635815 tw1233770109334016127 tw8483105620745892392 tw11448742890223683347 tw14241848420371668517 tw17507761682557355746 tw5316410255880775840 tw7030332369262788751 tw16175285714597692907 tw16850455087879383335 tw8786051613248936359 tw6143335100185422240 tw16206952661805767202 tw9567145047579820409 tw6698644802712306537 tw15934789435634450509 tw12491141326765347019 tw1696097441216801948 tw13699463533208147161 tw5966873598933442182 tw1961110225800038482 tw11216164752880912310 tw12981955486561307926 tw1753935816099273879 tw9210964851012538783 tw9592567562754665029 tw311685879581416826 tw1626557823902672064 tw6072308606490191277 tw13670082781186655400 tw6622135302517430502 tw14366920098906632382 tw9350451523308087087 tw16901242856889324691 tw17105822191235576735 tw18235836915696374897 tw1599176971146858501 tw2365579239093697023 tw9847704575213224892 tw15263485436315485370 tw11444394566561475251 tw2031733214490579378 tw16948088088956647958 tw9720650203602067064 tw6527323338155185875 tw13832087547014170943 tw15878027575133335653 tw12056346347880187432 tw9855350169036440549 tw12191630553014149410 tw1088313200485623686 tw2751677275665357524 tw17925231626165231585 tw6850743926296346967 tw247964298705867921 tw14563211494612403951 tw1571919408373382669 tw12647136579125757682 tw3339497799937809942 tw6677171478923534238 tw3902757761024004683 tw12100707499548617414 tw3780001855444076050 tw5271571001299944920 tw13075231638252992524 tw11048864268651714548 tw8319440787142542629 tw6075837542192655294 tw8733449582169917568 tw5886654833632751735 tw15595214026066185074 tw2688406772043981825 tw5788204473223973208 tw2236457466782828971 tw2206674617340209263 tw2840551374051877113 tw4805237275735891490 tw13709217359018609313 tw4113497991575161617 tw1990718616686432936 tw12101534726851801115 tw4478501002940122948 tw12159736508886246573 tw8669833893086449374 tw11655251739350833773 tw8107612540687217688 tw12841172806580316672 tw11511328046840713216 tw788645269016334503 tw11518184940302987229 tw9970758901812704430 tw6056348806938525801 tw2178312665283535936 tw17382162041939834524 tw15860773704497068418 tw10557618931979500805 tw1495440921198893027 tw4432842909774592832 tw8184227298896362405 tw9862643604784865581 tw12591378939658819524 tw2536328534915427841 tw12870755326679053758 tw3697459633978537656 tw9657990727503916987 tw10139332169275260791 tw2548459444309003736 tw192782855261624807 tw8906496763717830966 tw10369230246760778827 tw1986469305205400209 tw14204416950415352490 tw14087302887064553529 tw11661759595263590503 tw11084091466217188352 tw14877492334221894189 tw10351155561615048713 tw15418686099946527272 tw4194595099649945054 tw13185650025629854529 tw2027433577321639647 tw13158628905532856353 tw17505471252570692260 tw8291627525567407867 tw8556598211421083445 tw17562069310855413630 tw7780328878939157708 tw14181293976253644971 tw12026095654445335744 tw13808512491548369684 tw114494308963946295 tw10895429292365701931 tw9574163251441335199 tw15176837279524226489 tw7029876209317467555 tw1070984420159437405 tw1553744872754693433 tw9355585569579117136 tw5329088867876635310 tw15462369890803881173 tw4993315282978365698 tw13133524973307406208 tw4179450522300942431 tw18140093861370545971 tw12496842997366738230 tw12983956399234724022 tw12805629457819941286 tw5205002636088153263 tw4134312798566120486 tw2826004078001563337 tw3466651090730796887 tw9655511707991044424 tw2287444693944994165 tw11117445812460620440 tw17439486622910256897 tw8342078435294606419 tw8797653637786853076 tw15007136737142558984 tw11900432044341057930 tw11297272167002741671 tw5080145144606549071 tw12911447877560959206 tw8110156208424419339 tw953520647093614944 tw3834165070575898882 tw8063789356271210502 tw1628942388047441662 tw2000785555065253899 tw48686695794242575 tw3055981537312078362 tw13558610743512336296 tw7526939644096181624 tw18201312107227816613 tw13627279357824365725 tw9372932121139205581 tw14149860016501139818 tw15843341650585301690 tw10619658491184011225 tw13424154604234673714 tw13248288177647199948 tw5958776299810992909 tw12809068782939836718 tw1801267412234140250 tw12323035755679043967 tw13739450958315606862 tw12695731556846408718 tw15484406154805325491 tw14342364008174229740 tw14871563320223006402 tw5108597979869597774 tw5249146909258538878 tw8023734693028618120 tw16829380089801686066 tw14480262190888499210 tw18346478467203656120 tw495084152580788794 tw2953007921181985512 tw3148208126549204277 tw8401443395822054238 tw615072531727571636 tw590490439289554800 tw13319705876821082479 tw5071804333351567996 tw15673563534577402498 tw13815071778248329743 tw2981791288886506484 tw1572595743844150106 tw7685949232245152115 tw17257781062815145199 tw2310827451806575318 tw684760755586064656 tw2315543651219258063 tw9965289285993471977 tw1774147614146457137 tw8064990407692974833 tw12993437470260510503 tw11076441677482103539 tw11810136509266377749 tw3276794581000279552 tw3360260801725609871 tw16646931701522205284 tw13787258160693333035 tw3077007119512994227 tw5354360498881411202 tw5895218923721334061 tw2693472212334097190 tw409655349709699299 tw9498228343905060117 tw4988321115109940107 tw6384643481901947826 tw10735665296796880959 tw7545453670624027617 tw6589938440655935823 tw12974312583582906245 tw13323629282059488981 tw7626756780258101141 tw7785726707611269786 tw4835466771722829248 tw16116952104249711310 tw16163680277015801030 tw15536513308208734960 tw14038005908512170088 tw7991207017794194025 tw14184467701137436587 tw16417890638488893870 tw13325124806682116295 tw1142392611777735346 tw13294722493017337602 tw8918959600964062374 tw15192841313889262746 tw16170138128854746636 tw16174307025181202980 tw11707943371807345274 tw8622686061594521380 tw3665380614478142829 tw4361125656219466673 tw7321418960309904515 tw13780136072775827855 tw1594793893503453893 tw10914371828126310825 tw12232619621915467131 tw7628263935256989038 tw153616830396596192 tw11559836935408913907 tw17220816654056083905 tw3897016617105980380 tw15953724855770509438 tw9882759102045041311 tw14574512368588812840 tw9723556022253648703 tw769462280273178572 tw17788880172792000847 tw16499760573479857330 tw2694295022185681190 tw11338365945279348717 tw8759058849333832633 tw11226463906135622587 tw7599680823732512326 tw1209099094962795637 tw8201920753262730850 tw5050019773167095594 tw13309923623493761440 tw18147806824838689118 tw15183058526264325909 tw2173911856237870971 tw9581821186569962662 tw17130723171895824914 tw12647420264635992537 tw9429656051502448864 tw10928819208392832350 tw1212358857001135629 tw12776853969898225152 tw2934404023404333527 tw16507742586757394042 tw15436511101348624380 tw5253166122939080296 tw10988162821091254761 tw13062425998050885610 tw16039442686953556366 tw13861036035183539285 tw6729012981783299524 tw5912449074760382424 tw3304138260518288489 tw15236873973230520739 tw11762903752503825370 tw6424146947358513451 tw11358156524562219764 tw6168648272645303290 tw16113969319296386708 tw12836485860765926064 tw2264411206990649955 tw7875118161524022348 tw1771999808940819151 tw899298151665813705 tw12244209466030377387 tw8970680763130457906 tw485427122105910430 tw10476123971517727477 tw14886667108376315155 tw15178945573846111014 tw18008690824570642681 tw1352095284795310827 tw5997686088359673567 tw13392419701798297154 tw3068651747445644057 tw2962628025727858866 tw9891095733477041174 tw3799253556456285047 tw14951384679242750910 tw3572306983029775310 tw15124482423286596787 tw4257897678770508143 tw7425620948144890771 tw4556685651435346171 tw2179463915664975525 tw2685709643822260524 tw9790113313602042497 tw1269155832154509893 tw5380295692105358877 tw13332852338373324403 tw5897004601692437730 tw12990848547247109262 tw15240260594594781325 tw5366060531880530977 tw10706299506708812363 tw4726845213716658285 tw9733475938564482410 tw17472204111622721608 tw4615751886673686786 tw15984727769151618524 tw4863013417024947779 tw12901475559525320308 tw11378199213595004224 tw4490716955266159199 tw8903671681460929185 tw8520480858943002094 tw16742610520011708688 tw3872071015157041649 tw6140709812094054868 tw8993314577990311716 tw16098313094250600158 tw16313131488411888676 tw14571789200251484566 tw6470812695918324923 tw17547462977038186487 tw4883397531845720033 tw9785605064944598279 tw7733160769546639675 tw3352916689684897803 tw8517891463458528822 tw12700217749943612174 tw16652872119723111661 tw4786264732434104848 tw7037146364892385933 tw14965911987137199636 tw6140807837865115794 tw2269703533574537617 tw10544967330592067922 tw9758309417128867488 tw10512740645049168241 tw9267382499068768574 tw6385237720950883033 tw7936297626153366115 tw4009380575958938474 tw1371306722597778059 tw16994207478885323284 tw10948467542879980505 tw4744832317640038553 tw17247679821589169343 tw15149481917302591594 tw4664770484603832080 tw5430659896398644492 tw3812734020532002039 tw16126748573178260963 tw1979418410175495249 tw9490996849847900260 tw2669255403639617151 tw10187726310770499430 tw1941992381251354050 tw4212238972336913813 tw3537941682728066994 tw9990712039368613409 tw18202541937634533989 tw11486047542450841637 tw2297663232014250521 tw14412635021168483880 tw2359259168582285404 tw16466979686895061734 tw8407226501021743375 tw17561122773858037702 tw3216117607194981906 tw8289064032994899405 tw3949742381740985518 tw13773941317152624878 tw13769493727825573419 tw4674775060864841063 tw12495027362111783010 tw8289893106801500250 tw7080582312378537577 tw9622134571904548649 tw411486824623413042 tw5360091588959723825 tw1721925581538952452 tw10287223331200586665 tw18369215970256586962 tw1272037377990707109 tw5675290922758077973 tw12341125843199951559 tw17830223648618266926 tw7771520154507781997 tw3954762661889685913 tw12737114500870076649 tw10922182629180306967 tw13434884827762916885 tw8097811588498672230 tw16797651755852004649 tw10791596132746189423 tw394707929166619212 tw1690310639500029519 tw7286652661450194218 tw5730617389397354232 tw4871582847746283424 tw298819542266534292 tw338128054812225888 tw15068163418233887341 tw12661049965392215617 tw11626700428221884447 tw16102801825892333933 tw11458336211091491564 tw5177853912573796 tw3537295947545787491 tw16224285814017989099 tw5295766541248057210 tw13574551886524554995 tw11188340022127115815 tw10401990680948055906 tw4174675861434561607 tw10043922486801256841 tw1852180008994642156 tw14325795101811694374 tw6462873909461446173 tw15790295967233989196 tw5991407459675628831 tw7048054224402419457 tw9612399627751878911 tw1636555641455145908 tw16092334476325001287 tw4001661024397752410 tw7858248300330700789 tw7494392444694859472 tw7113910694163164697 tw9373800293827972440 tw14813036060351143438 tw2155630955460782090 tw6005774060096816464 tw15780276445439596406 tw11985229385414746011 tw9758578032657147971 tw584141817893985664 tw6098486934983190613 tw2750013220140242729 tw4721258233759344837 tw2690352079084590806 tw2043354815107335700 tw16448785977455733165 tw7925869950876056759 tw4958526827577763543 tw17195017686347265218 tw16358302246925629902 tw1936041089104976406 tw1544738172018053173 tw1552659550842923767 tw6836888416215140252 tw16444194056437649628 tw6172877883635828805 tw12944040450646350177 tw11492538793682245395 tw16661222208137025776 tw6267392039186307189 tw8672060155140077182 tw7302787244381815381 tw7060475149471807042 tw13074126413205101082 tw13929417247743030699 tw12820148952365223027 tw4343686324605165917 tw16895718298988567443 tw3184055084203843130 tw9358149877904981467 tw1365643252937495164 tw6956769527198923286 tw14648718757113805069 tw16168460549849317816 tw14664794304714113161 tw10134832283622773399 tw4080950183592519999 tw3288450119969101130 tw11589857238396545099 tw4987987055392027932 tw13676170047981001363 tw10303814130432727769:True)
open_shared sh for PySem.Challenge.pw_widewords_k26_shifts_reckoned leaving 0
namespace hh
open PySem PySem.W PySem.Calls PyProof.Rows
noncomputable abbrev p:=PySem.Challenge.pw_widewords_k26_shifts_reckoned
abbrev z:Pos:=⟨0,0,0,0⟩
abbrev an:Option Value:=some (.ref 6)
noncomputable abbrev bE:=behindTheImports p
noncomputable abbrev cE:Code:=.body bE sh.env_1
noncomputable abbrev H1(P:Params):Heap:=absHeap (sh.tree_1403 P) 1322 {}
noncomputable abbrev S0(w:World)(os:OsState):Shared:=⟨boot_heap w.params,⟨[]⟩,boot_drawn,boot_toks,os⟩
noncomputable abbrev Sb(w:World)(os:OsState):Shared:=SharedT.abs ⟨sh.tree_4 w.params,15,{},⟨[]⟩,{},187,os⟩
noncomputable abbrev Sk(w:World)(os:OsState):Shared:=SharedT.abs ⟨sh.tree_1403 w.params,1322,{},⟨[]⟩,{},2144,os⟩
theorem pre(w os):topGo treeTable p w 11 an 12 (S0 w os) (topStub p)=some (Sb w os,⟨denote treeTable cE,cE,z,[topFrame z]⟩):=by kernel_rfl
theorem blk(w os):segRun treeTable p w 11 an 1 1 (Sb w os) (blockOf bE sh.env_1 cE z [topFrame z])=some (.next,Sb w os,cE,z):=by kernel_rfl
theorem fin(w os):topRun treeTable p w 11 an 2 (Sk w os) (restOf [] sh.env_1 cE ⟨732,0,745,15⟩ [topFrame z])=some (Sk w os):=by kernel_rfl
theorem bod:bE=sh.sts_4++(sh.sts_21++(sh.sts_37++(sh.sts_53++(sh.sts_69++(sh.sts_85++(sh.sts_101++(sh.sts_117++(sh.sts_164++(sh.sts_245++(sh.sts_317++(sh.sts_397++(sh.sts_475++(sh.sts_569++(sh.sts_607++(sh.sts_661++(sh.sts_716++(sh.sts_780++(sh.sts_856++(sh.sts_941++(sh.sts_1014++(sh.sts_1073++(sh.sts_1107++(sh.sts_1159++(sh.sts_1164++(sh.sts_1251++(sh.sts_1329++[])))))))))))))))))))))))))):=by kernel_rfl
theorem run(w os):topRun treeTable p w 11 an (12+(1+(196+(214+(214+(214+(214+(214+(214+(400+(371+(397+(383+(385+(398+(160+(400+(311+(426+(398+(389+(371+(277+(397+(307+(164+(522+(385+(346+2))))))))))))))))))))))))))))) (S0 w os) (topStub p)=some (Sk w os):=by
 refine go_top (pre w os) (piece_block (blk w os) ?_)
 have h:=sh.chain p bE w os [] 2 (Sk w os) (fin w os)
 rw[<-bod] at h
 exact h
noncomputable def q:Program:=view p [232]
noncomputable abbrev lo:List Str:=p.boundNames
theorem look(w:World):(fun os=>((staticsOk (importedModules p.main.body) (boot_heap w.params) (H1 w.params) && namesBound p (H1 w.params) && gensDone (Sk w os) && laidKept (boot_heap w.params) (H1 w.params)),openSeen q lo (importedModules p.main.body) (fun _=>true) true (Sk w os),(Sk w os).heap))=fun _=>(true,openGood q lo,H1 w.params):=by kernel_rfl
theorem left:LeftO p q lo (fun _=>true) Shared.heap (fun w=>H1 w.params) 17406:=.of_pieces (boot_open (by kernel_rfl) (by kernel_rfl) fun s=>by kernel_rfl) (fun w=>by kernel_rfl) run (by kernel_rfl) look
theorem inA{t:BT}{n:Nat}{f:Life}{K:Frag}(h1:K.all (fun x=>Nat.blt x.1 n)=true)(h2:K.map (fun x=>t.get x.1)=K.map fun x=>some x.2)(h3:K.map (fun x=>alive x.2)=K.map fun x=>some x.2):K.In (absHeap t n f):=by
 intro a o e
 induction K with
 | nil=>cases e
 | cons x r ih=>
  obtain ⟨b,y⟩:=x
  simp only[List.map_cons,List.cons.injEq,List.all_cons,Bool.and_eq_true] at h1 h2 h3
  by_cases hb:(a==b)=true
  · rw[List.lookup_cons,hb] at e
    cases e
    have:=beq_iff_eq.mp hb
    subst this
    rw[abs_get (Nat.le_of_ble_eq_true h1.1) h2.1]
    exact h3.1
  · rw[List.lookup_cons,eq_false_of_ne_true hb] at e
    exact ih h1.2 h2.2 h3.2 e
local macro_rules
 | `(panic! $s:str)=>do
  let mut a ← `(List.nil)
  for r in (s.getString.splitOn " ").reverse do
   match (r.splitOn ",").map String.toNat! with
   | [x,l,i]=>for j in [0:l] do
    let j:=l-1-j
    a ← `(List.cons (nat_lit $(Lean.Syntax.mkNumLit (toString (x+j))),$(Lean.mkIdent (if i==0 then .str `PySem.W s!"boot_o_{x+j}" else .str `sh s!"o_{i+j}")) P) $a)
   | _=>pure ()
  `(fun P=>$a)
noncomputable def KK:Params->Frag:=panic! "2,1,0 3,1,1329 15,1,7 22,2,14 24,1,119 25,1,17 28,1,24 35,3,31 40,1,40 47,3,47 52,1,56 59,3,63 64,1,72 71,3,79 76,1,88 83,3,95 88,1,104 95,3,111 100,1,120 107,3,127 112,18,132 131,2,151 134,3,154 138,2,158 141,2,161 143,1,166 146,3,169 150,2,173 153,4,176 158,2,181 161,4,184 166,2,189 169,4,192 174,2,197 177,3,200 181,2,204 184,3,207 188,2,211 191,3,214 195,2,218 198,3,221 202,2,225 205,3,228 209,2,232 212,3,235 216,2,239 219,2,242 221,1,247 223,2,249 226,9,252 236,2,262 239,3,265 243,2,269 246,3,272 250,2,276 253,3,279 257,2,283 260,9,286 270,2,296 273,3,299 277,2,303 280,3,306 284,2,310 287,3,313 290,3,319 294,2,323 297,3,326 301,2,330 304,3,333 308,2,337 311,3,340 315,2,344 318,3,347 322,2,351 325,3,354 329,2,358 332,3,361 336,2,365 339,3,368 343,2,372 346,3,375 350,2,379 353,3,382 358,3,387 362,2,391 365,2,394 367,1,399 369,2,401 372,3,404 376,2,408 379,3,411 383,2,415 386,3,418 390,2,422 393,3,425 397,2,429 400,3,432 404,2,436 407,3,439 411,2,443 414,15,446 430,2,462 433,3,465 437,2,469 440,2,472 442,1,477 444,2,479 447,3,482 451,2,486 454,3,489 458,2,493 461,3,496 465,2,500 468,3,503 472,2,507 475,3,510 479,2,514 482,3,517 486,2,521 489,3,524 493,2,528 496,3,531 500,2,535 503,3,538 507,2,542 510,3,545 514,2,549 517,3,552 521,2,556 524,3,559 528,2,563 531,2,566 533,1,571 535,2,573 538,3,576 542,2,580 545,3,583 549,2,587 552,3,590 556,2,594 559,3,597 563,2,601 566,2,604 568,15,609 584,2,625 587,3,628 591,2,632 594,3,635 598,2,639 601,3,642 605,2,646 608,3,649 612,2,653 615,2,656 617,1,663 619,2,665 622,3,668 626,2,672 629,3,675 633,2,679 636,3,682 641,3,687 645,2,691 648,3,694 652,2,698 655,3,701 660,3,706 664,2,710 667,2,713 676,1,725 678,2,727 681,3,730 685,2,734 688,3,737 692,2,741 695,3,744 699,2,748 702,3,751 707,3,756 711,2,760 714,3,763 718,2,767 721,7,770 730,1,782 732,2,784 735,3,787 740,3,792 744,2,796 747,3,799 752,3,804 756,2,808 759,3,811 763,2,815 766,3,818 770,2,822 773,10,825 784,2,836 787,3,839 791,2,843 794,3,846 798,2,850 801,2,853 803,1,858 805,2,860 808,3,863 812,2,867 815,3,870 819,2,874 822,3,877 826,2,881 829,3,884 833,2,888 836,3,891 840,2,895 843,3,898 847,2,902 850,3,905 855,3,910 859,2,914 862,3,917 866,2,921 869,3,924 873,2,928 876,3,931 880,2,935 883,2,938 885,1,943 887,2,945 890,3,948 894,2,952 897,3,955 901,2,959 904,3,962 908,2,966 911,3,969 915,2,973 918,3,976 922,2,980 925,3,983 929,2,987 932,3,990 936,2,994 939,3,997 943,2,1001 946,3,1004 950,2,1008 953,2,1011 955,1,1016 957,2,1018 960,3,1021 964,2,1025 967,3,1028 971,2,1032 974,3,1035 978,2,1039 981,3,1042 985,2,1046 988,3,1049 992,2,1053 995,3,1056 999,2,1060 1002,3,1063 1006,2,1067 1009,2,1070 1011,2,1075 1014,2,1078 1017,3,1081 1021,2,1085 1024,3,1088 1028,2,1092 1031,3,1095 1035,2,1099 1038,2,1102 1040,1,1109 1042,2,1111 1045,3,1114 1049,2,1118 1052,3,1121 1056,2,1125 1059,3,1128 1063,2,1132 1066,3,1135 1070,2,1139 1073,3,1142 1077,2,1146 1080,3,1149 1084,2,1153 1087,2,1156 1089,1,1160 1097,1,1173 1099,2,1175 1102,3,1178 1106,2,1182 1109,3,1185 1113,2,1189 1116,3,1192 1120,2,1196 1123,3,1199 1127,2,1203 1130,3,1206 1134,2,1210 1137,3,1213 1141,2,1217 1144,3,1220 1148,2,1224 1151,3,1227 1155,2,1231 1158,3,1234 1162,2,1238 1165,7,1241 1174,1,1253 1176,2,1255 1179,3,1258 1183,2,1262 1186,3,1265 1190,2,1269 1193,3,1272 1197,2,1276 1200,3,1279 1205,3,1284 1209,2,1288 1212,3,1291 1216,2,1295 1219,3,1298 1223,2,1302 1226,3,1305 1230,2,1309 1233,3,1312 1237,2,1316 1240,3,1319 1244,2,1323 1247,2,1326 1249,1,1331 1251,2,1333 1254,3,1336 1258,2,1340 1261,3,1343 1265,2,1347 1268,3,1350 1272,2,1354 1275,3,1357 1280,3,1362 1285,3,1367 1289,2,1371 1292,3,1374 1296,2,1378 1299,3,1381 1303,2,1385 1306,3,1388 1310,2,1392 1313,3,1395 1317,2,1399 1320,2,1402"
theorem inK(w:World):InK KK w (H1 w.params):=inA (K:=KK w.params) (by kernel_rfl) (by kernel_rfl) (by kernel_rfl)
theorem hd{d:DefRec}{k:List (Str×Expr)}(a:defOf q "law"=some (d,k))(b:p.theDef "law"=some (d.params,d.body,d.scope))(c:kwWritten? d.params.kwonlyargs d.params.kw_defaults=some k)(h:WalkO q lo (fun _ _=>True) (InK KK) PySem.Challenge.rw_widewords_k26_shifts_reckoned.row.toRowW d k fun f vs=>PySem.call f vs):PySem.Challenge.rw_widewords_k26_shifts_reckoned.Holds:=by
 w_on;o_law
 refine holds_open left (YP:=InK KK) (XP:=fun _ _=>True) (fun w s e=>e ▸ inK w) InK.keeps (fun _ _=>trivial) (fun _ _ _ _ _=>trivial) a b c (fun s _=>recFacts_nil rfl) (by rfl) (by assumption) (by decide +kernel) ⟨rfl,rfl,rfl,rfl,rfl,by decide +kernel⟩ ?hw h
 w_witness2
end hh
set_option compiler.extract_closed false
set_option bootstrap.genMatcherCode false
set_option genSizeOf false
local macro_rules | `(tactic| ac_rfl)=>`(tactic| with_unfolding_all rfl)
open Option renaming some->AA,none->AD,isSome_iff_exists->Au,getD_some->Bf,bind_some->Bg,any_eq_true_iff_get->Cf,map_some->D8,get_some->FA,getD_none->GQ
open Bool renaming true->AB,false->AC,and_eq_true->AK,false_ne_true->Az,false_eq_true->BA,not_eq_true'->Ca,and_self->Cv,or_eq_true->Cy,true_and->DX,eq_iff_iff->D7,true_or->Eo,false_or->F3,false_and->Gc,or_false->Gr,or_true->HG
open PySem.W renaming Frag->AE,keepIn->Ap,findIn->Av,nsIn->BM,kitOne->BZ,fnOf->B2,emptyDict->B5,instObj->Bs,codeIn->CA,kia_one->C6,plainGet->Cj,isFn->Ck,hideAll->Cw,callWith_K->Cz,hasDictIn->DC,makesIn->D3,plainGet_of->Db,lookIn->Du,methodObj->EK,plainOver->EL,mg_of->EX,OpenLaw->Ef,cellsFrom_some->Ej,takerIn->Ew,methodCall_KW->FD,hideAll_get->FT,callWith_K0->FX,excIn->F4,of_hideAll->F9,handedIn->GL,WalkO->G8,Rel2->HC
open PySem.Str renaming ofString->AF,empty->GM
open PySem renaming Value->AG,wpAny_bind->AH,Addr->AI,Shared->AJ,Str->AQ,Expr->AT,wpAny_pure->AV,wpAny->A1,Program->A8,World->Aj,Around->Ao,Heap->BB,FuncData->BC,wpAny_field->BT,wpAny_truthy_bool->BV,Env->BX,wpAny_Call_Name_kw->BY,wpAny_callSpecial?_slot->Bd,Scope->Bi,wpAny_newObj_type->Bk,wpAny_pyIter_tuple->Bm,Stmt->Bp,Obj->Bu,DictEntry->By,wpAny_passesOwn->CG,Pos->CJ,wpAny_mono->CM,IsPair->CO,Keyword->CQ,mem_of_lookup->CS,wpAny_call_entry->CT,wpAny_seqItems->CU,wpAny_setField_rec->C2,NameKind->DD,strKind_is->DS,wpAny_holding->DW,Operator->D0,sizeLine_eq->D1,wpAny_execs_nil->D2,codeAny_mono->De,wpAny_pyIter_list->EM,IsZip->EQ,wpAny_standAt->EW,PassesOwn->E8,noFill_tuple_add->Ec,wpAny_rule->Eh,IsPart->Ek,wpAny_loadName_local->FF,wpAny_setField->FH,wpAny_updateSeq_pair->FI,BindsTo->FP,wpAny_loadName_cell->FU,CmpOp->FZ,seq_tuple_add->F0,wpAny_onRaise->F5,tupleKind_room_in1->Fc,Within->Ff,concat_meets->Fk,wpAny_sequenceKey->Fm,wpAny_typeOf->Fp,slot_list_getitem->Fq,wpAny_pyIter_enum->Fu,ZipApart->Fx,wpAny_execs_cons->GI,wpAny_pyIter_zip->GW,wpAny_getItem_of->GX,seqIndex_of->GY,Paired->G9,wpAny_Name->Gb,Result->Gd,wpAny_call->Ge,typeIs_str->Gg,call->Gh,Sem->Gp,Builtin->HA,BoolOp->HE,Tok->He
open List renaming map_cons->AL,getElem?_cons_succ->AM,getElem?_cons_zero->AN,getElem?_set_ne->AO,length_cons->AS,mem_cons_of_mem->AX,size_toArray->AZ,mem_of_getElem?->A2,mem_cons->A3,set_cons_zero->A5,set_cons_succ->A6,getElem?_set_self->A9,map_nil->Aa,cons_append->Ab,replicate->Ae,length_append->Af,getElem?_append_left->Ag,getElem?_append_right->Am,append_assoc->Aq,length_nil->Ar,nil_append->As,length_map->BD,append_nil->BE,mem_cons_self->BG,mem_append_right->BI,getElem?_eq_some_iff->BK,any_cons->BN,all_eq_true->BP,not_mem_nil->BQ,getElem?_eq_none->BU,length_set->B1,all_cons->B8,mem_append->Bb,lookup_cons->Be,lookup->Bn,getElem?_map->Bq,flatMap_cons->Br,find?_cons->Bt,map_append->CH,range->CL,filterMap_cons->CP,length->CY,getElem?_set->C9,flatMap_nil->Cn,getElem?_eq_getElem->Cu,reverse_cons->DG,filterMap->DH,set_set->DL,length_singleton->DN,mem_iff_getElem?->DP,nodup_cons->D4,foldl_cons->D6,mem_filterMap->Ds,zip_cons_cons->Dz,getElem?_eq_none_iff->EF,drop_eq_getElem_cons->EG,pairwise_iff_getElem->EH,ext_getElem?->ER,length_take->Ea,getElem?_replicate->Eb,any_eq_true->Ee,range_succ_eq_map->Es,take_of_length_le->Et,of_mem_zip->Ex,forIn_cons->Ey,mem_append_left->FE,length_pos_iff->FY,isEmpty_cons->Fv,mem_map->Fz,length_drop->GP,isEmpty_nil->GR,take_length->GS,drop_length->GT,zipIdx_cons->GU,mem_filter->G2,zipIdx_nil->G6,mem_range->Ga,drop_zero->Gj,forIn_nil->Gk,set_comm->Gq,sum_cons->Gu,any_map->HF,sum_nil->HI
open PySem.Heap renaming get?_push_of_some->AR,lt_size->AW,get?_push_size->A0,size_push->Bo,SameBut->C0,get?_update_other->DF,get?_update_self->FB,IsTuple->Fr,MadeExcOf->Gi,FlyingW->HB
open Nat renaming le_refl->AU,lt_of_lt_of_le->A4,pow_le_pow_right->Ai,ne_of_lt->Ak,mul_le_mul->BH,le_trans->BO,zero_add->BW,reduceSub->Ba,reduceAdd->Bj,reduceLeDiff->CV,lt_or_ge->C3,mul_comm->C5,le_succ->Cb,mod_eq_of_lt->Co,lt_irrefl->Cr,zero_le->DA,le_add_right->DR,and_two_pow_sub_one_eq_mod->DU,add_assoc->DZ,two_pow_add_eq_or_of_lt->Dm,mod_two_eq_zero_or_one->EB,mod_lt->ED,pow_add->ET,mul_left_comm->EU,mul_assoc->EY,le_of_lt->Eg,ne_of_gt->Ei,mul_le_mul_right->FJ,mul_div_mul_left->FL,div_lt_of_lt_mul->FM,sub_zero->Fw,succ_mul->GA,pow_succ->GG,lt_succ_self->GN,pow_pos->G0,mul_add->G1,le_of_eq->Gz,add_mod->HS,mul_pos->HU
open Option.some renaming inj->AY
open Int renaming pow_pos->A7,mul_comm->Ac,pow_succ->Ad,emod_lt_of_pos->An,emod_eq_of_lt->Aw,ediv_ediv_of_nonneg->Ax,mul_assoc->Ay,emod_nonneg->BF,ediv_eq_zero_of_lt->BS,mul_le_mul_of_nonneg_right->B3,ediv_lt_of_lt_mul->B6,emod_add_mul_ediv->B7,toNat_natCast->CK,mul_one->CW,one_mul->CZ,pow_zero->C4,ediv_nonneg->C7,add_mul_emod_self_left->Cg,mul_nonneg->Ch,pow_mul->Ci,natCast_emod->Cm,le_of_lt->DM,le_ediv_of_mul_le->DQ,mul_ediv_mul_of_pos_left->Da,toNat_of_nonneg->Dd,ediv_one->Dh,add_comm->Dl,add_mul_emod_self_right->Dn,fdiv_eq_ediv_of_nonneg->Dt,add_mul->EO,sub_mul->ES,add_mul_ediv_right->Eu,natAbs_mul->FK,lt_of_le_of_lt->Fe,add_zero->GB,zero_add->GE,zero_mul->GF,mul_le_mul->Gm,mul_emod->HH,mul_sub->HQ,mul_add->HR,le_refl->HV,pow_add->HW
open PySem.Value renaming ref->Ah,none->Bz,bool->Do,int->EZ,type->F8,str->GH,isStrOf->Go,isInt->HJ,bytes->HK,float->HL
open PySem.Builtin renaming bitAnd->Al,bitOr->B0,bitXor->Bl,bitNot->EC
open PyProof.Rows renaming slot_tuple_getitem->BJ,callWith_type1->Bw,AllBare->DV,assignInOrder_cons->Dr,subscriptTail_builtinR->El,tupleItemsOf_->FQ,IntsAre->FR,entry_tuple_getitem->FV,args_tuple_getitem->Fa,assignInOrder_nil->Fg,callWith_builtin1->GO,boot_isinstance->G5,iadd_int->G7,Subscript_->Gf,IsTup->HM
open Ne renaming symm->BL
open PySem.Builtin.SmallTypes renaming nextOf->BR,ownedTupleIsFree->B9,ownedTupleHandOut->Cq
open PySem.PyData renaming eqv->B4,canLay0->Cd,depth->DJ,eqvAll->DY,keyHash->EA,canLayAll0->EN,depthAll->Ez
open False renaming elim->Bc
open Array renaming length_toList->Bv,append_assoc->Dp,getElem?_eq_some_iff->Dy,toList->Gy
open PySem.F renaming slot_tuple_iterator_next->CB,args_tuple_add_2->Ct,entry_tuple_add->DB,slot_tuple_add->DE,slot_dict_get->DO,args_tuple_iterator_next_1->D5,slot_zip_next->D9,entry_tuple_iterator_next->Di,slot_dict_getitem->EI,args_dict_get_3->Ed,entry_dict_get->Ep,slot_list_append->FC,args_zip_next_1->Fy,entry_zip_next->GV
open PySem.Heap.FunFrames renaming mem->CC
open PySem.Builtin.Slice renaming slicePlaces->CD,sliceAdjust->Cp,sliceApplied->Dw,slicePartIndex->G3,sliceFields->Gn
open PySem.Challenge renaming rw_widewords_k26_shifts_reckoned->CF,pw_widewords_k26_shifts_reckoned->EJ
open PySem.Builtin.Tuple renaming tupleExact->CN,tupleItemsOf->Dx
open True renaming intro->C1
open PySem.NameKind renaming free->C8,cell->F1
open PySem.Value.type renaming inj->Cc
open Eq renaming refl->DI
open PySem.Builtin.Str renaming strSliceIndices->Dj,occurrences->E9
open PySem.Calls renaming Name_function_global->Dq,spliced_cons->Dv,callWith_builtin->En,evalArgs_plain->FG,spliced_nil->Fj
open PySem.Paired renaming length->EV,snoc->HP
open PySem.Obj renaming mapSeq->Em,data_mapFields->Fb
open Sum renaming inl->FN,inr->FO
open PySem.Heap.SameBut renaming update->FW
open PyProof.Rows.LSm renaming kept_iter->F2
open PySem.SeqAt.EqAt renaming int_str->F6,str_int->F7
open PySem.ScopeKind renaming function->Fd
open PySem.Around renaming under->Fh
open PySem.Code renaming isFrame->Fi,frames->HN
open PySem.WalksT renaming enumerateD->Ft
open PyProof.Rows.IsTup renaming new->GJ
open PySem.Shared renaming heap->GZ
open ForInStep renaming yield->G4
open PySem.Builtin.Range renaming rangeSize->Gv
open PySem.Heap.UpToSlots renaming of_keeps->Gw
open And renaming intro->Gx
open PySem.SeqAt renaming shaped->HD,EqAt->HZ
open PySem.W.Looks renaming here->HX
open PySem.Heap.IsSliceOf renaming new->HY
open PySem.W.WShape renaming has->Ha
open PySem.Walks renaming list->Hb
open PySem.Within renaming cons->Hc
open List.Pairwise renaming nil->Hd
open PySem.W.WData renaming int->Hf
noncomputable section
open Lean in
def cnvP:Nat->Syntax->MacroM (TSyntax `rcasesPat)
 |0,_=>Macro.throwUnsupported
 |n+1,s=>do
  if s.isOfKind ``Lean.Parser.Term.anonymousCtor then `(rcasesPat| ⟨$[$(← s[1].getSepArgs.mapM (cnvP n)):rcasesPat],*⟩)
  else if s.isIdent then `(rcasesPat| $(⟨s⟩):ident)
  else if s.isOfKind ``Lean.Parser.Term.hole then `(rcasesPat| _)
  else Macro.throwUnsupported
local macro_rules | `(tactic| let $p:term := $e)=>do `(tactic| obtain $(← cnvP 9 p):rcasesPat := $e)
local macro_rules | `(tactic| erw [$rs,*] $(l)?)=>do
 let t<-rs.getElems.mapM λ|`(Lean.Parser.Tactic.rwRule| $t:term)=>`(Lean.Parser.Tactic.simpLemma| $t:term)|_=>Lean.Macro.throwUnsupported
 `(tactic| simp only[$t,*] $(l)?)
local macro_rules | `(fun $bs* => $b)=>do
 if !(bs.any λx=>x.raw.isOfKind ``Lean.Parser.Term.anonymousCtor)||(b.raw.find? λx=>x.isOfKind ``Lean.Parser.Term.syntheticHole).isSome then Lean.Macro.throwUnsupported
 `(by rintro $[$(← bs.mapM λx=>cnvP 9 x.raw):rcasesPat]*;exact $b)
set_option backward.eqns.nonrecursive false
namespace L2
open PySem PySem.Spec PyProof.Rows
abbrev Key:=Sum Int AQ
def ybT:Key->AG->Bool
 |.inl k,v=>HJ k v
 |.inr x,v=>Go x v
def yfC(w:Aj):Key->Int
 |.inl k=>hashInt k
 |.inr x=>hashStr w x
theorem zD:∀{k:Key} {v:AG},ybT k v=AB->(∃i t,k=FN i/\v=EZ i t) \/ (∃x t,k=FO x/\v=GH x t)
 |.inl i,v,h=>by
  let⟨t,e⟩:=Value.isInt_shape (k:=i) (v:=v) h;exact .inl ⟨i,t,rfl,e⟩
 |.inr x,v,h=>by
  let⟨t,e⟩:=Value.isStrOf_shape (x:=x) (v:=v) h;exact .inr ⟨x,t,rfl,e⟩
theorem ziA(i:Int)(t:He):ybT (.inl i) (.int i t)=true:=by simp[ybT,HJ]
theorem zhl(x:AQ)(t:He):ybT (.inr x) (.str x t)=true:=by simp[ybT,Go]
theorem znG(a b:Int):decide ((FN a:Key)=FN b)=(a==b):=by
 by_cases e:a=b
 .subst e;simp
 .have h:¬(FN a:Key)=FN b:=λq=>e (Sum.inl.inj q);rw[decide_eq_false h];exact(beq_eq_false_iff_ne.mpr e).symm
theorem znH(a b:AQ):decide ((FO a:Key)=FO b)=decide (a=b):=by
 by_cases e:a=b
 .subst e;simp
 .have h:¬(FO a:Key)=FO b:=λq=>e (Sum.inr.inj q);rw[decide_eq_false h,decide_eq_false e]
theorem zns(a:Int)(b:AQ):decide ((FN a:Key)=FO b)=false:=decide_eq_false (λq=>nomatch q)
theorem znt(a:AQ)(b:Int):decide ((FO a:Key)=FN b)=false:=decide_eq_false (λq=>nomatch q)
def yN(prog:A8)(w:Aj):PySem.KeyKind prog w Key where
 is:=ybT
 hash:=yfC w
 inj:=λv a b ha hb=>by
  rcases zD ha with⟨i,t,rfl,rfl⟩|⟨x,t,rfl,rfl⟩
  .rcases zD hb with⟨j,u,rfl,e⟩|⟨y,u,rfl,e⟩
   .injection e with e1 _;rw[e1]
   .exact nomatch e
  .rcases zD hb with⟨j,u,rfl,e⟩|⟨y,u,rfl,e⟩
   .exact nomatch e
   .injection e with e1 _;rw[e1]
 byValue:=λk v h=>by
  rcases zD h with⟨i,t,rfl,rfl⟩|⟨x,t,rfl,rfl⟩<;>rfl
 pyHash:=λhv h=>by
  rcases zD hv with⟨i,t,rfl,rfl⟩|⟨x,t,rfl,rfl⟩
  .exact wpAny_pyHash_int h
  .exact wpAny_pyHash_str h
 eqBool:=λhu hv h=>by
  rcases zD hu with⟨i,t,rfl,rfl⟩|⟨x,t,rfl,rfl⟩
  .rcases zD hv with⟨j,u,rfl,rfl⟩|⟨y,u,rfl,rfl⟩
   .rw[znG]at h;exact wpAny_eqBool_int h
   .rw[zns]at h;exact F6 i t y u _ _ _ _ h
  .rcases zD hv with⟨j,u,rfl,rfl⟩|⟨y,u,rfl,rfl⟩
   .rw[znt]at h;exact F7 x t j u _ _ _ _ h
   .rw[znH]at h;exact wpAny_eqBool_str h
 «strs»:=λk x t v h=>by
  rcases zD h with⟨i,u,rfl,e⟩|⟨y,u,rfl,e⟩
  .exact nomatch e
  .injection e with e1 _;subst e1
   cases v<;>rfl
theorem zfr(prog:A8)(w:Aj)(i:Int)(t:He):(yN prog w).is (.inl i) (.int i t)=true:=ziA i t
theorem zfx(prog:A8)(w:Aj)(x:AQ)(t:He):(yN prog w).is (.inr x) (.str x t)=true:=zhl x t
inductive V where
 |non|bl (b:Bool)|int (i:Int)|str (x:AQ)|byt (b:Array UInt8)|flt (b:UInt64)|ref (a:AI)|ty (n:String)
 deriving DecidableEq
def RelV:V->AG->Prop
 |.non,u=>u=Bz
 |.bl b,u=>u=Do b
 |.int i,u=>∃t,u=EZ i t
 |.str x,u=>∃t,u=GH x t
 |.byt b,u=>∃t,u=HK b t
 |.flt b,u=>∃t,u=HL b t
 |.ref a,u=>u=Ah a
 |.ty n,u=>u=F8 n
abbrev Vals:List V->List AG->Prop:=G9 RelV
theorem Vals.length{xs:List V}{us:List AG}(r:Vals xs us):xs.length=us.length:=EV r
theorem Vals.get:∀{xs:List V} {us:List AG} {i:Nat} {x:V},Vals xs us->xs[i]?=AA x->∃u,us[i]?=AA u/\RelV x u
 |_,_,_,_,.nil,e=>by simp at e
 |_,_,0,_,.cons r _,e=>by simp at e;subst e;exact⟨_,rfl,r⟩
 |_,_,i+1,x,.cons _ t,e=>by
  let⟨u,h1,h2⟩:=Vals.get (i:=i) (x:=x) t (by simpa using e);exact⟨u,by simpa using h1,h2⟩
theorem Vals.set{x:V}{u:AG}(r:RelV x u):∀{xs:List V} {us:List AG} (i:Nat),Vals xs us->Vals (xs.set i x) (us.set i u)
 |_,_,_,.nil=>.nil
 |_,_,0,.cons _ t=>.cons r t
 |_,_,i+1,.cons q t=>.cons q (Vals.set r i t)
theorem Vals.append:∀{xs ys:List V} {us ws:List AG},Vals xs us->Vals ys ws->Vals (xs++ys) (us++ws)
 |_,_,_,_,.nil,s=>s
 |_,_,_,_,.cons r t,s=>.cons r (Vals.append t s)
theorem Vals.take:∀{xs:List V} {us:List AG} (n:Nat),Vals xs us->Vals (xs.take n) (us.take n)
 |_,_,0,_=>.nil
 |_,_,_+1,.nil=>.nil
 |_,_,n+1,.cons r t=>.cons r (Vals.take n t)
theorem Vals.drop:∀{xs:List V} {us:List AG} (n:Nat),Vals xs us->Vals (xs.drop n) (us.drop n)
 |_,_,0,r=>r
 |_,_,_+1,.nil=>.nil
 |_,_,n+1,.cons _ t=>Vals.drop n t
theorem Vals.none_of:∀{xs:List V} {us:List AG} {i:Nat},Vals xs us->xs[i]?=AD->us[i]?=none:=λ{xs us i} r e=>by
 have h1:=r.length;have h2:xs.length<=i:=EF.mp e;exact EF.mpr (by lia)
def ybp:Option V->Option AG->Prop
 |some v,AA u=>RelV v u
 |none,AD=>True
 |_,_=>False
def KV{κ:Type}:List (κ×V)->List (κ×AG)->Prop:=G9 λ(p:κ×V) (q:κ×AG)=>p.1=q.1/\RelV p.2 q.2
def kV:Key->V
 |.inl i=>.int i
 |.inr x=>.str x
inductive HO where
 |lst (xs:List V)
 |tup (xs:List V)
 |dK (kvs:List (Key×V))|dT (kvs:List (List Key×V))
 |set (S:Int->Bool) (n:Nat)
 |ins (C dx:AI) (fs:List (AQ×V))
 |own (x:AI)
 |xd (fs:List (AQ×V))
 |met (f x:AI)
 |rng (lo hi:Int)
 |frz (o:Bu) (u:HO)
 |tbl (ps:Array AG)
 |ext (φ:BB->Prop)
abbrev Hp:=AI->Option HO
def upd(H:Hp)(a:AI)(o:HO):Hp:=λb=>if b=a then AA o else H b
theorem zr{H:Hp}{a:AI}{o:HO}:upd H a o a=AA o:=by unfold upd;rw[if_pos rfl]
theorem zh{H:Hp}{a b:AI}{o:HO}(h:b≠a):upd H a o b=H b:=by unfold upd;rw[if_neg h]
theorem zpq{H:Hp}{a b:AI}{o u:HO}(h:H a=AA o)(h':H b=AA u)(d:o≠u):a≠b:=by
 intro e;subst e;rw[h]at h';exact d (AY h')
theorem zm{H:Hp}{a b:AI}{o:HO}(h:H a=AA o)(h':H b=AD):a≠b:=by
 intro e;subst e;rw[h]at h';cases h'
section
variable (P:A8)(w:Aj)
def yV(H:Hp)(h:BB)(a:AI):HO->Prop
 |.lst xs=>xs.length<=sizeLine/\∃(its:List AG) (n:Nat),Vals xs its/\h.get? a=AA {cls:=.type "list",data:=.seq its.toArray n}
 |.tup xs=>xs.length<=sizeLine/\∃its:List AG,Vals xs its/\HM h a its.toArray
 |.dK kvs=>kvs.length<=sizeLine/\(a==sysModules)=AC/\∃vs,KV kvs vs/\h.DictOf (yN P w) a vs
 |.dT kvs=>kvs.length<=sizeLine/\(a==sysModules)=AC/\∃xs:List (List Key×AI×AG),
   G9 (λ(p:List Key×V) (q:List Key×AI×AG)=>p.1=q.1/\H q.2.1=AA (.tup (p.1.map kV))/\RelV p.2 q.2.2) kvs xs /\
   ∃o es ep,h.get? a=AA o/\o.ExactDict/\o.data=.dict es ep/\es.toList=xs.map (entryOfKey (tupleKind (yN P w)))/\(xs.map (·.1)).Nodup
 |.set S n=>h.SetOf (intKind P w) a S n
 |.ins C dx fs=>H dx=AA (.own a)/\fs.length<=1000/\dx≠a/\h.get? a=AA (Bs C dx) /\
   ∃mA,h.Ns1 dx mA/\(∀f,ybp (fs.lookup f) (mA f))/\Ff mA (fs.map (·.1))
 |.own _=>∃o,h.get? a=AA o
 |.xd fs=>∃mA,h.Ns1 a mA/\∀f,ybp (fs.lookup f) (mA f)
 |.rng lo hi=>∃t u v,h.get? a=AA {cls:=.type "range",data:=.fields #[.int lo t,.int hi u,.int 1 v]}
 |.frz o u=>h.get? a=AA o/\yV H h a u
 |.tbl ps=>h.get? a=AA {cls:=.none,data:=.fields ps}
 |.met f x=>h.get? a=AA (EK (.ref f) (.ref x))
 |.ext φ=>φ h/\(∃o,h.get? a=AA o)/\∀h1 h2:BB,φ h1->(∀o,h1.get? a=AA o->h2.get? a=AA o)->φ h2
def HOk(H:Hp)(h:BB):Prop:=∀a o,H a=AA o->yV P w H h a o
end
section
variable {P:A8}{w:Aj}{H H':Hp}{h h':BB}{a:AI}{o:HO}
theorem yV.lt(x:yV P w H h a o):a<h.objs.size:=by
 cases o with
 |lst xs=>let⟨_,_,_,_,e⟩:=x;exact AW e
 |tup xs=>let⟨_,_,_,p⟩:=x;exact p.lt
 |dK kvs=>let⟨_,_,_,_,o,_,_,e,_⟩:=x;exact AW e
 |dT kvs=>let⟨_,_,_,_,o,_,_,e,_⟩:=x;exact AW e
 |set S n=>let⟨o,_,_,_,e,_⟩:=x;exact AW e
 |ins C dx fs=>let⟨_,_,_,e,_⟩:=x;exact AW e
 |own y=>let⟨_,e⟩:=x;exact AW e
 |xd fs=>let⟨_,⟨_,_,_,e,_⟩,_⟩:=x;exact AW e
 |rng lo hi=>let⟨_,_,_,e⟩:=x;exact AW e
 |frz ob u=>let⟨e,_⟩:=x;exact AW e
 |tbl ps=>exact AW (show h.get? a=AA _ from x)
 |met f y=>exact AW (show h.get? a=AA _ from x)
 |ext φ=>let⟨_,⟨_,e⟩,_⟩:=x;exact AW e
theorem Paired.mapP{α β:Type}{F G:α->β->Prop}:∀{l₁:List α} {l₂:List β},G9 F l₁ l₂->(∀a b,F a b->G a b)->G9 G l₁ l₂
 |_,_,.nil,_=>.nil
 |_,_,.cons r t,f=>.cons (f _ _ r) (Paired.mapP t f)
theorem yV.stay(x:yV P w H h a o)(k:∀b u,(b=a \/ H b=AA (.own a))->h.get? b=AA u->h'.get? b=AA u)
  (ho:∀b,H b=AA (.own a)->H' b=AA (.own a)) (ht:∀b xs,H b=AA (.tup xs)->H' b=AA (.tup xs)):yV P w H' h' a o:=by
 induction o with
 |lst xs=>let⟨z,its,n,r,e⟩:=x;exact⟨z,its,n,r,k _ _ (.inl rfl) e⟩
 |tup xs=>let⟨z,its,r,ob,e,c⟩:=x;exact⟨z,its,r,ob,k _ _ (.inl rfl) e,c⟩
 |dK kvs=>let⟨z,y,vs,r,ob,es,ep,e,c⟩:=x;exact⟨z,y,vs,r,ob,es,ep,k _ _ (.inl rfl) e,c⟩
 |dT kvs=>
  let⟨z,y,xs,r,ob,es,ep,e,c⟩:=x;exact⟨z,y,xs,Paired.mapP r λp q z=>⟨z.1,ht _ _ z.2.1,z.2.2⟩,ob,es,ep,k _ _ (.inl rfl) e,c⟩
 |set S n=>let⟨ob,es,ep,t,e,c⟩:=x;exact⟨ob,es,ep,t,k _ _ (.inl rfl) e,c⟩
 |ins C dx fs=>
  let⟨d,z,ne,e,mA,⟨od,es,ep,e2,c⟩,r⟩:=x;exact⟨ho _ d,z,ne,k _ _ (.inl rfl) e,mA,⟨od,es,ep,k _ _ (.inr d) e2,c⟩,r⟩
 |own y=>let⟨ob,e⟩:=x;exact⟨ob,k _ _ (.inl rfl) e⟩
 |xd fs=>let⟨mA,⟨od,es,ep,e,c⟩,r⟩:=x;exact⟨mA,⟨od,es,ep,k _ _ (.inl rfl) e,c⟩,r⟩
 |rng lo hi=>let⟨t,u,v,e⟩:=x;exact⟨t,u,v,k _ _ (.inl rfl) e⟩
 |frz ob u ih=>let⟨e,q⟩:=x;exact⟨k _ _ (.inl rfl) e,ih q⟩
 |tbl ps=>
  have e:h.get? a=AA {cls:=.none,data:=.fields ps}:=x;show h'.get? a=AA {cls:=.none,data:=.fields ps};exact k a _ (.inl rfl) e
 |met f y=>
  have e:h.get? a=AA (EK (.ref f) (.ref y)):=x;show h'.get? a=AA (EK (.ref f) (.ref y));exact k a _ (.inl rfl) e
 |ext φ=>let⟨p,⟨o,e⟩,st⟩:=x;exact⟨st _ _ p λo q=>k _ _ (.inl rfl) q,⟨o,k _ _ (.inl rfl) e⟩,st⟩
theorem HOk.lt(x:HOk P w H h)(e:H a=AA o):a<h.objs.size:=(x a o e).lt
theorem HOk.fresh(x:HOk P w H h)(e:h.objs.size<=a):H a=none:=by
 cases q:H a with
 |none=>rfl
 |some u=>exact absurd (A4 (x.lt q) e) (Cr _)
theorem HOk.kept(x:HOk P w H h)(k:∀b u,h.get? b=AA u->h'.get? b=AA u):HOk P w H h':=λa o e=>
 (x a o e).stay (λb u _ q=>k b u q) (λ_ q=>q) λ_ _ q=>q
theorem HOk.laid(x:HOk P w H h)(k:∀b u,h.get? b=AA u->h'.get? b=AA u)(hp:h.objs.size<=a)(new:yV P w (upd H a o) h' a o):HOk P w (upd H a o) h':=λb u e=>by
 have hn:=x.fresh hp
 by_cases hb:b=a
 .subst hb;rw[zr]at e;cases e;exact new
 .rw[zh hb]at e;exact(x b u e).stay (λc v _ q=>k c v q) (λc q=>by rw[zh (zm q hn)];exact q) λc xs q=>by rw[zh (zm q hn)];exact q
end
def Rd(H:Hp)(a:AI)(u:HO):Prop:=H a=AA u \/ ∃o,H a=AA (.frz o u)
theorem Rd.of{H:Hp}{a:AI}{u:HO}(h:H a=AA u):Rd H a u:=.inl h
theorem Rd.ok{P:A8}{w:Aj}{H:Hp}{h:BB}{a:AI}{u:HO}(r:Rd H a u)(x:HOk P w H h):yV P w H h a u:=by
 rcases r with r|⟨o,r⟩
 .exact x a u r
 .let⟨_,q⟩:=x a _ r;exact q
def Mut:Option HO->Prop
 |some (.lst _)=>True
 |some (.dK _)=>True
 |some (.dT _)=>True
 |some (.set _ _)=>True
 |some (.ins _ _ _)=>True
 |some (.ext _)=>True
 |_=>False
section
variable {P:A8}{w:Aj}{H:Hp}{h h':BB}{x e:AI}{o':HO}
theorem HOk.write(ok:HOk P w H h)(mu:Mut (H x))(he:e=x \/ H e=AA (.own x))(k:∀b u,b≠e->h.get? b=AA u->h'.get? b=AA u)(heo:∃u,h'.get? e=AA u)
  (new:yV P w (upd H x o') h' x o'):HOk P w (upd H x o') h':=λb u q=>by
 have nown:∀c y,H c=AA (.own y)->c≠x:=λc y r z=>by subst z;rw[r]at mu;exact mu
 have ntup:∀c xs,H c=AA (.tup xs)->c≠x:=λc xs r z=>by subst z;rw[r]at mu;exact mu
 by_cases hb:b=x
 .subst hb;rw[zr]at q;cases q;exact new
 .rw[zh hb]at q
  by_cases hbe:b=e
  .have q':H b=AA (.own x):=by
    rcases he with z|z
    .exact absurd (hbe.trans z) hb
    .rw[hbe];exact z
   rw[q]at q';cases q';let⟨v,hv⟩:=heo;exact⟨v,by rw[hbe];exact hv⟩
  .refine(ok b u q).stay (λc v hc r=>k c v ?_ r) (λc r=>by rw[zh (nown c b r)];exact r) λc xs r=>by rw[zh (ntup c xs r)];exact r
   rcases hc with rfl|hc
   .exact hbe
   .rintro rfl
    rcases he with z|z
    .exact nown c b hc z
    .rw[hc]at z;cases z;exact hb rfl
end
structure Un(fs ex:List AI)(H H':Hp)(h h':BB):Prop where
 keep:∀b o,h.get? b=AA o->H b=AD->b∉fs->b∉ex->h'.get? b=AA o
 slot:∀b o,h.get? b=AA o->H b=AD->b∈fs->b∉ex->∃sl,h'.get? b=AA {o with slots:=sl}
 free:∀b o,h.get? b=AA o->H b=AD->b∉ex->H' b=AD
 there:∀b o,h.get? b=AA o->b∉ex->∃o',h'.get? b=AA o'
 tups:∀b xs,H b=AA (.tup xs)->H' b=AA (.tup xs)
 frzs:∀b o u,H b=AA (.frz o u)->H' b=AA (.frz o u)
 tbls:∀b ps,H b=AA (.tbl ps)->∃more,H' b=AA (.tbl (ps++more))
section
variable {fs fs' ex ex':List AI}{H H1 H2:Hp}{h h1 h2 h':BB}{a x e:AI}{o:HO}
theorem Un.any(u:Un fs ex H H1 h h1){b:AI}{ob:Bu}(q:h.get? b=AA ob)(n:H b=AD)(hx:b∉ex):∃sl,h1.get? b=AA {ob with slots:=sl}:=by
 by_cases hb:b∈fs
 .exact u.slot b ob q n hb hx
 .exact⟨ob.slots,u.keep b ob q n hb hx⟩
theorem Un.kept(k:∀b u,h.get? b=AA u->h'.get? b=AA u):Un fs ex H H h h':=
 ⟨λb ob q _ _ _=>k b ob q,λb ob q _ _ _=>⟨ob.slots,k b ob q⟩,λ_ _ _ n _=>n,λb ob q _=>⟨ob,k b ob q⟩,λ_ _ q=>q,λ_ _ _ q=>q,λ_ ps q=>⟨#[],by rw[q];simp⟩⟩
theorem Un.refl:Un fs ex H H h h:=Un.kept λ_ _ q=>q
theorem Un.laid(k:∀b u,h.get? b=AA u->h'.get? b=AA u)(hp:h.objs.size<=a)(hn:H a=AD):Un fs ex H (upd H a o) h h' where
 keep:=λb u q _ _ _=>k b u q
 slot:=λb u q _ _ _=>⟨u.slots,k b u q⟩
 free:=λb u q n _=>by rw[zh (Ak (A4 (AW q) hp))];exact n
 there:=λb u q _=>⟨u,k b u q⟩
 tups:=λb xs q=>by rw[zh (zm q hn)];exact q
 frzs:=λb u xs q=>by rw[zh (zm q hn)];exact q
 tbls:=λb ps q=>⟨#[],by rw[zh (zm q hn),q];simp⟩
theorem Un.write(mu:Mut (H x))(he:e=x \/ H e=AA (.own x))(k:∀b u,b≠e->h.get? b=AA u->h'.get? b=AA u)(heo:∃u,h'.get? e=AA u):Un fs ex H (upd H x o) h h':=by
 have hx:∀b,H b=AD->b≠x:=λb n z=>by subst z;rw[n]at mu;exact mu
 have hb:∀b,H b=AD->b≠e:=λb n z=>by
  subst z;rcases he with r|r
  .exact hx b n r
  .rw[n]at r;cases r
 have hm:∀b u,H b=AA u->¬Mut (AA u)->b≠x:=λb u q nm z=>by subst z;rw[q]at mu;exact nm mu
 refine⟨λb u q n _ _=>k b u (hb b n) q,λb u q n _ _=>⟨u.slots,k b u (hb b n) q⟩,λb u q n _=>by rw[zh (hx b n)];exact n,λb u q _=>?_,
  λb xs q=>by rw[zh (hm b _ q λz=>z)];exact q,λb u xs q=>by rw[zh (hm b _ q λz=>z)];exact q,λb ps q=>⟨#[],by rw[zh (hm b _ q λz=>z),q];simp⟩⟩
 by_cases hbe:b=e
 .subst hbe;exact heo
 .exact⟨u,k b u hbe q⟩
end
def trk(h:BB)(H:Hp):List Addr:=(CL h.objs.size).filter λa=>(H a).isSome
def ycj(h:BB)(H:Hp):Heap:=Cw h (trk h H)
theorem zhB(h:BB)(H:Hp):(ycj h H).objs.size=h.objs.size:=PySem.W.hideAll_size _ _
theorem zju{h:BB}{H:Hp}{b:AI}{o:Bu}(e:h.get? b=AA o)(n:H b=AD):(ycj h H).get? b=AA o:=
 FT _ e λhm=>by
  have q:(H b).isSome=true:=(G2.mp hm).2;rw[n]at q;simp at q
theorem zlk{h:BB}{H:Hp}{b:AI}{o:Bu}(e:(ycj h H).get? b=AA o):h.get? b=AA o/\H b=none:=by
 have e':h.get? b=AA o:=F9 (trk h H) e;refine⟨e',?_⟩
 cases q:H b with
 |none=>rfl
 |some x=>
  have hm:b∈trk h H:=G2.mpr ⟨Ga.mpr (AW e'),by simp[q]⟩;have z:(ycj h H).get? b=none:=PySem.W.hideAll_none (trk h H) hm;rw[z]at e;cases e
structure Mod(K:AE)(mg:AQ->Option AG)(base:BB):Prop where
 kin:K.In base
 glob:base.Ns mainGlobals mg
 blt:∃mb,base.Ns builtinsNs mb/\∀x:AQ,x ≠ "__name__"->mb x=bootBuiltins x
 nolimit:base.NoLimit
structure Cx where
 prog:A8
 w:Aj
 K:AE
 mg:AQ->Option AG
 base:BB
 A:Ao
 N:List AQ
 s₀:AJ
 H₀:Hp
 env:Env
 outer:List Env
 stack:List Env
 ex:List AI
 fn:AQ->Bool
 calm:Bool
 pn:List (AI×Bu)
 xe:AG->AJ->Prop
def frs(l:List Env):List Addr:=l.filterMap (·.frame)
abbrev Cx.fs(X:Cx):List Addr:=frs X.outer
def Vis(sc:Bi)(x:AQ):Prop:=sc.names.lookup x=AA .local \/ sc.names.lookup x=AA .cell \/ sc.names.lookup x=AA .free
def Loc(sc:Bi)(x:AQ):Prop:=sc.names.lookup x=AA .local \/ sc.names.lookup x=AA .cell
def Look(env:Env)(h:BB)(m:AQ->Option AG)(x:AQ)(u:AG):Prop:=
 (env.kindOf x=AA .local/\m x=AA u) \/ ((env.kindOf x=AA .cell \/ env.kindOf x=AA .free)/\∃c,env.cells.lookup x=AA c/\h.IsCell c (AA u))
structure Cx.Ok(X:Cx):Prop where
 mod:Mod X.K X.mg X.base
 kind:X.env.scope.kind=.function
 glob:X.env.globals=mainGlobals
 blt:X.env.builtins=builtinsNs
 above:X.s₀.heap.objs.size<=X.env.locals
 inj:∀x y c,X.env.cells.lookup x=AA c->X.env.cells.lookup y=AA c->x=y
 has:∀x,(X.env.kindOf x=AA .cell \/ X.env.kindOf x=AA .free)->∃c,X.env.cells.lookup x=AA c
 cab:∀x c,X.fn x=AB->X.env.cells.lookup x=AA c->X.s₀.heap.objs.size<=c
 hd:X.calm=AB->X.A.handled=AD
 frames:X.A.frames=AA X.stack
 stk:X.stack=X.outer \/ (X.stack=X.env::X.outer/\X.env.frame=AA X.env.locals)
 exf:∀b∈X.ex,b≠X.env.locals/\∀x c,X.env.cells.lookup x=AA c->c≠b
 bs:∀b o,X.base.get? b=AA o->X.s₀.heap.get? b=AA o/\X.H₀ b=AD
 bsz:X.base.objs.size<=X.s₀.heap.objs.size
 noex:∀b o,X.base.get? b=AA o->b∉X.ex
 exfs:∀b∈X.ex,b∉X.fs
 funs:X.s₀.heap.FunFrames X.base X.outer
 frf:∀b∈X.fs,X.H₀ b=AD
structure Inv(X:Cx)(pins:List (AI×Bu))(σ:List (Option V))(H:Hp)(s:AJ):Prop where
 ok:X.Ok
 os:s.os=X.s₀.os
 bare:DV s.gens
 base:Un X.fs X.ex X.H₀ H X.s₀.heap s.heap
 loc:∃m,s.heap.Ns X.env.locals m/\∀(i:Nat) (x:AQ) (v:V),X.N[i]?=AA x->σ[i]?=AA (AA v)->Vis X.env.scope x->∃u,RelV v u/\Look X.env s.heap m x u
 cell:∀x c,X.env.cells.lookup x=AA c->∃v,s.heap.IsCell c v
 free:H X.env.locals=AD
 freeC:∀x c,X.env.cells.lookup x=AA c->H c=AD
 pin:∀p∈X.pn++pins,s.heap.get? p.1=AA p.2/\H p.1=AD/\p.1≠X.env.locals/\p.1∉X.fs/\∀v,p.2.data ≠ .cell v
 hok:HOk X.prog X.w H s.heap
 len:σ.length=X.N.length
section
variable {X:Cx}{pins:List (AI×Bu)}{σ:List (Option V)}{H H':Hp}{s:AJ}{h':BB}
theorem Cx.Ok.nofr(ok:X.Ok){b:AI}{o:Bu}(e:X.base.get? b=AA o):b∉X.fs:=λhb=>by
 have:=(ok.funs.mem hb).1;rw[e]at this;cases this
theorem Inv.bs(I:Inv X pins σ H s):∀b o,X.base.get? b=AA o->s.heap.get? b=AA o/\H b=none:=λb o e=>
 ⟨I.base.keep b o (I.ok.bs b o e).1 (I.ok.bs b o e).2 (I.ok.nofr e) (I.ok.noex b o e),I.base.free b o (I.ok.bs b o e).1 (I.ok.bs b o e).2 (I.ok.noex b o e)⟩
theorem Inv.bk(I:Inv X pins σ H s):∀b o,X.base.get? b=AA o->s.heap.get? b=AA o:=λb o e=>(I.bs b o e).1
theorem Inv.mod(I:Inv X pins σ H s):Mod X.K X.mg X.base:=I.ok.mod
theorem Inv.kIn(I:Inv X pins σ H s):X.K.In s.heap:=I.ok.mod.kin.keeps I.bk
theorem Inv.lt(I:Inv X pins σ H s):X.env.locals<s.heap.objs.size:=let ⟨_,hn,_⟩:=I.loc;hn.lt
theorem Inv.sz(I:Inv X pins σ H s):X.s₀.heap.objs.size<=s.heap.objs.size:=BO I.ok.above (Eg I.lt)
theorem Inv.nofs(I:Inv X pins σ H s){a:AI}(h:s.heap.objs.size<=a):a∉X.fs:=λhb=>by
 let⟨_,o,ho,_⟩:=I.ok.funs.mem hb;exact absurd (A4 (AW ho) (BO I.sz h)) (Cr _)
theorem Inv.cne(I:Inv X pins σ H s):∀x c,X.env.cells.lookup x=AA c->c≠X.env.locals:=λx c e z=>by
 let⟨v,o,ho,hd⟩:=I.cell x c e;let⟨m,⟨o',es,ep,ho',hd',_⟩,_⟩:=I.loc;rw[z,ho']at ho;cases ho;rw[hd']at hd;cases hd
theorem Inv.funs(I:Inv X pins σ H s):s.heap.FunFrames X.base X.outer:=by
 have all:∀(l:List Env),(∀b∈frs l,b∈X.fs)->X.s₀.heap.FunFrames X.base l->s.heap.FunFrames X.base l:=by
  intro l
  induction l with
  |nil=>intro _ _;trivial
  |cons env r ih=>
   intro hs hl;let⟨hk,⟨L,o,hf,hn,ho,hd⟩,hr⟩:=hl;have hL:L∈X.fs:=hs L (by unfold frs;rw[CP,hf];exact BG);let⟨sl,e⟩:=I.base.slot L o ho (I.ok.frf L hL) hL λz=>I.ok.exfs L z hL;exact⟨hk,⟨L,_,hf,hn,e,hd⟩,ih (λb hb=>hs b (by unfold frs;rw[CP,hf];exact AX _ hb)) hr⟩
 exact all X.outer (λ_ hb=>hb) I.ok.funs
theorem Inv.stack(I:Inv X pins σ H s):s.heap.FunFrames X.base X.stack:=by
 rcases I.ok.stk with e|⟨e,hf⟩
 .rw[e];exact I.funs
 .rw[e];let⟨m,hn,_⟩:=I.loc;refine .cons (by rw[I.ok.kind];decide) hf hn ?_ I.funs;exact Heap.get?_none_of_le (BO I.ok.bsz I.ok.above)
theorem Inv.stkSub(I:Inv X pins σ H s):∀b∈frs X.stack,b∈X.env.locals::X.fs:=λb hb=>by
 rcases I.ok.stk with e|⟨e,hf⟩
 .rw[e]at hb;exact AX _ hb
 .rw[e]at hb;unfold frs at hb;rw[CP,hf]at hb;exact hb
theorem Inv.stkFree(I:Inv X pins σ H s):∀b∈frs X.stack,H b=none:=λb hb=>by
 rcases A3.mp (I.stkSub b hb)with e|hb
 .rw[e];exact I.free
 .let⟨_,o,ho,_⟩:=I.ok.funs.mem hb;exact I.base.free b o ho (I.ok.frf b hb) λz=>I.ok.exfs b z hb
theorem Inv.step{g':Array GenState}{t':Nat}{d':Drawn}{ch:List AI}(I:Inv X pins σ H s)
  (hch:∀b∈ch,(b∈X.ex \/ X.s₀.heap.objs.size<=b)/\b≠X.env.locals/\(∀x c,X.env.cells.lookup x=AA c->c≠b)/\∀p∈X.pn++pins,p.1≠b)
  (keep:∀b o,b≠X.env.locals->b∉X.fs->b∉ch->s.heap.get? b=AA o->H b=AD->h'.get? b=AA o)
  (slot:∀b o,b≠X.env.locals->b∈X.fs->b∉ch->s.heap.get? b=AA o->H b=AD->∃sl,h'.get? b=AA {o with slots:=sl}) (free:∀b o,b∉ch->s.heap.get? b=AA o->H b=AD->H' b=AD)
  (there:∀b o,b∉ch->s.heap.get? b=AA o->∃o',h'.get? b=AA o')
  (tups:∀b xs,H b=AA (.tup xs)->H' b=AA (.tup xs)) (frzs:∀b o u,H b=AA (.frz o u)->H' b=AA (.frz o u)) (tbls:∀b ps,H b=AA (.tbl ps)->∃more,H' b=AA (.tbl (ps++more)))
  (ns:∀m,s.heap.Ns X.env.locals m->h'.Ns X.env.locals m) (hok:HOk X.prog X.w H' h') (hg:DV g'):
  Inv X pins σ H' {s with heap:=h',gens:=g',drawn:=d',toks:=t'}:=by
 have neL:∀b o,X.s₀.heap.get? b=AA o->b≠X.env.locals:=λb o e=>Ak (A4 (AW e) I.ok.above);have neC:∀b o,X.s₀.heap.get? b=AA o->b∉X.ex->b∉ch:=λb o e hx hb=>by
  rcases (hch b hb).1 with z|z
  .exact hx z
  .exact absurd (A4 (AW e) z) (Cr _)
 have cellK:∀x c,X.env.cells.lookup x=AA c->∀v,s.heap.IsCell c v->h'.IsCell c v:=λx c e v ⟨o,ho,hd⟩=>by
  have nch:c∉ch:=λz=>(hch c z).2.2.1 x c e rfl
  by_cases hc:c∈X.fs
  .let⟨sl,q⟩:=slot c o (I.cne x c e) hc nch ho (I.freeC x c e);exact⟨_,q,hd⟩
  .exact⟨o,keep c o (I.cne x c e) hc nch ho (I.freeC x c e),hd⟩
 refine⟨I.ok,I.os,hg,⟨λb o e n hb hx=>?_,λb o e n hb hx=>?_,λb o e n hx=>?_,λb o e hx=>?_,λb xs e=>tups b xs (I.base.tups b xs e),λb o xs e=>frzs b o xs (I.base.frzs b o xs e),λb ps e=>?_⟩,?_,λx c e=>?_,?_,λx c e=>?_,λp hp=>?_,hok,I.len⟩
 .exact keep b o (neL b o e) hb (neC b o e hx) (I.base.keep b o e n hb hx) (I.base.free b o e n hx)
 .let⟨sl,e1⟩:=I.base.slot b o e n hb hx;let⟨sl',e2⟩:=slot b _ (neL b o e) hb (neC b o e hx) e1 (I.base.free b o e n hx);exact⟨sl',e2⟩
 .let⟨o',e1⟩:=I.base.there b o e hx;exact free b o' (neC b o e hx) e1 (I.base.free b o e n hx)
 .let⟨o',e1⟩:=I.base.there b o e hx;exact there b o' (neC b o e hx) e1
 .let⟨m1,e1⟩:=I.base.tbls b ps e;let⟨m2,e2⟩:=tbls b _ e1;exact⟨m1++m2,by rw[e2,Dp]⟩
 .let⟨m,hn,hl⟩:=I.loc;refine⟨m,ns m hn,λi x v e1 e2 e3=>?_⟩;let⟨u,r,l⟩:=hl i x v e1 e2 e3;refine⟨u,r,?_⟩;rcases l with l|⟨k,c,e,z⟩
  .exact .inl l
  .exact .inr ⟨k,c,e,cellK x c e _ z⟩
 .let⟨v,z⟩:=I.cell x c e;exact⟨v,cellK x c e v z⟩
 .let⟨m,⟨o,_,_,ho,_⟩,_⟩:=I.loc;exact free _ o (λz=>(hch _ z).2.1 rfl) ho I.free
 .let⟨v,o,ho,hd⟩:=I.cell x c e;exact free c o (λz=>(hch c z).2.2.1 x c e rfl) ho (I.freeC x c e)
 .let⟨e,n,ne,nf,d⟩:=I.pin p hp;have nch:p.1∉ch:=λz=>(hch p.1 z).2.2.2 p hp rfl;exact⟨keep p.1 p.2 ne nf nch e n,free p.1 p.2 nch e n,ne,nf,d⟩
theorem Inv.un{t':Nat}(I:Inv X pins σ H s)(u:Un X.fs [] H H' s.heap h')(hok:HOk X.prog X.w H' h'):Inv X pins σ H' {s with heap:=h',toks:=t'}:=by
 let⟨m,⟨o,es,ep,ho,r⟩,_⟩:=id I.loc;let⟨sl,hL⟩:=u.any ho I.free (by simp);exact I.step (g':=s.gens) (d':=s.drawn) (ch:=[]) (λ_ z=>nomatch z) (λb o _ hb _ e n=>u.keep b o e n hb (by simp)) (λb o _ hb _ e n=>u.slot b o e n hb (by simp)) (λb o _ e n=>u.free b o e n (by simp)) (λb o _ e=>u.there b o e (by simp)) u.tups u.frzs u.tbls (λm' hm=>by
  let⟨o',es',ep',ho',r'⟩:=hm;rw[ho]at ho';cases ho';exact⟨_,es',ep',hL,r'⟩) hok I.bare
theorem Inv.call{g':Array GenState}{t':Nat}{d':Drawn}{ch:List AI}(I:Inv X pins σ H s)(u:Un (frs X.stack) ch H H' s.heap h')(hok:HOk X.prog X.w H' h')(hg:DV g')
  (hch:∀b∈ch,(b∈X.ex \/ X.s₀.heap.objs.size<=b)/\b≠X.env.locals/\(∀x c,X.env.cells.lookup x=AA c->c≠b)/\∀p∈X.pn++pins,p.1≠b):
  Inv X pins σ H' {s with heap:=h',gens:=g',drawn:=d',toks:=t'}:=by
 let⟨m,⟨o,es,ep,ho,r⟩,_⟩:=id I.loc;let⟨sl,hL⟩:=u.any ho I.free λz=>(hch _ z).2.1 rfl;exact I.step (ch:=ch) hch (λb o hL hb hc e n=>u.keep b o e n (λz=>(A3.mp (I.stkSub b z)).elim hL hb) hc) (λb o _ _ hc e n=>u.any e n hc) (λb o hc e n=>u.free b o e n hc) (λb o hc e=>u.there b o e hc) u.tups u.frzs u.tbls (λm' hm=>by
  let⟨o',es',ep',ho',r'⟩:=hm;rw[ho]at ho';cases ho';exact⟨_,es',ep',hL,r'⟩) hok hg
theorem Inv.turned{t':Nat}{it:AI}(I:Inv X pins σ H s)(k:∀b o,b≠it->s.heap.get? b=AA o->h'.get? b=AA o)(hn:H it=AD)(hL:it≠X.env.locals)
  (h1:it∈X.ex \/ X.s₀.heap.objs.size<=it) (h2:∀x c,X.env.cells.lookup x=AA c->c≠it) (h3:∀p∈X.pn++pins,p.1≠it):Inv X pins σ H {s with heap:=h',toks:=t'}:=by
 have nit:∀b u,H b=AA u->b≠it:=λb u e z=>by rw[z,hn]at e;cases e
 refine I.step (g':=s.gens) (d':=s.drawn) (ch:=[it]) (λb hb=>?_) (λb o _ _ hc e _=>k b o (λz=>hc (by simp[z])) e) (λb o _ _ hc e _=>⟨o.slots,k b o (λz=>hc (by simp[z])) e⟩) (λ_ _ _ _ n=>n)
  (λb o hc e=>⟨o,k b o (λz=>hc (by simp[z])) e⟩) (λ_ _ e=>e) (λ_ _ _ e=>e) (λb ps e=>⟨#[],by rw[e];simp⟩) (λm hm=>?_) (λb u e=>?_) I.bare
 .have e:b=it:=by simpa using hb
  subst e;exact⟨h1,hL,h2,h3⟩
 .let⟨o,es,ep,ho,r⟩:=hm;exact⟨o,es,ep,k _ o (BL hL) ho,r⟩
 .refine(I.hok b u e).stay (λc v hc q=>k c v ?_ q) (λ_ q=>q) λ_ _ q=>q;rcases hc with z|z
  .rw[z];exact nit b u e
  .exact nit c _ z
theorem Inv.tok(I:Inv X pins σ H s)(t:Nat):Inv X pins σ H {s with toks:=t}:=I.un (h':=s.heap) (t':=t) Un.refl I.hok
theorem Inv.kept{t':Nat}(I:Inv X pins σ H s)(k:∀b u,s.heap.get? b=AA u->h'.get? b=AA u):Inv X pins σ H {s with heap:=h',toks:=t'}:=I.un (Un.kept k) (I.hok.kept k)
theorem Inv.laid{a:AI}{o:HO}{t':Nat}(I:Inv X pins σ H s)(k:∀b u,s.heap.get? b=AA u->h'.get? b=AA u)(hp:s.heap.objs.size<=a)(new:yV X.prog X.w (upd H a o) h' a o):
  Inv X pins σ (upd H a o) {s with heap:=h',toks:=t'}:=I.un (Un.laid k hp (I.hok.fresh hp)) (I.hok.laid k hp new)
theorem Inv.write{x e:AI}{o:HO}{t':Nat}(I:Inv X pins σ H s)(mu:Mut (H x))(he:e=x \/ H e=AA (.own x))(k:∀b u,b≠e->s.heap.get? b=AA u->h'.get? b=AA u)(heo:∃u,h'.get? e=AA u)
  (new:yV X.prog X.w (upd H x o) h' x o):Inv X pins σ (upd H x o) {s with heap:=h',toks:=t'}:=I.un (Un.write mu he k heo) (I.hok.write mu he k heo new)
theorem Inv.pins_of{pins':List (AI×Bu)}(I:Inv X pins σ H s)(h:∀p∈pins',s.heap.get? p.1=AA p.2/\H p.1=AD/\p.1≠X.env.locals/\p.1∉X.fs/\∀v,p.2.data ≠ .cell v):Inv X pins' σ H s:=
 ⟨I.ok,I.os,I.bare,I.base,I.loc,I.cell,I.free,I.freeC,λp hp=>(Bb.mp hp).elim (λz=>I.pin p (FE _ z)) (h p),I.hok,I.len⟩
theorem zfP{N:List AQ}(hN:N.Nodup){i j:Nat}{x:AQ}(a:N[i]?=AA x)(b:N[j]?=AA x):i=j:=by
 let⟨h1,e1⟩:=BK.mp a;let⟨h2,e2⟩:=BK.mp b;exact(List.getElem_inj hN).mp (e1.trans e2.symm)
theorem zhv{M:Model}{A:Ao}{E:AG->AJ->Prop}{i:Nat}{x:AQ}{v:V}{u:AG}{Q:Unit->AJ->Prop}(I:Inv X pins σ H s)(hN:X.N.Nodup)(hi:X.N[i]?=AA x)(hx:Loc X.env.scope x)(r:RelV v u)
  (h:∀s',Inv X pins (σ.set i (AA v)) H s'->(∃a,C0 a s.heap s'.heap/\(a=X.env.locals \/ X.env.cells.lookup x=AA a))->Q () s') (hf:X.fn x=AB \/ X.env.scope.names.lookup x=AA .local:=by first|exact .inl rfl|exact .inr rfl|assumption):A1 M A (storeName X.env x u) Q E s:=by
 let⟨m,hn,hl⟩:=id I.loc;have hcls:(X.env.scope.kind==.class || (X.env.scope.kind==.module&&X.env.locals != X.env.globals))=false:=by rw[I.ok.kind];rfl
 have hiσ:i<σ.length:=by rw[I.len];exact(BK.mp hi).1
 have cne:=I.cne;have tracked:∀{a:AI} {h':BB},(∃o,s.heap.get? a=AA o/\H a=AD)->C0 a s.heap h'->HOk X.prog X.w H h':=λ{a h'} ha hs b ob e=>by
  let⟨_,_,hfree⟩:=ha;refine(I.hok b ob e).stay (λc w' hc q=>(hs.2 c ?_).trans q) (λ_ q=>q) λ_ _ q=>q
  rintro rfl
  rcases hc with rfl|hc
  .rw[hfree]at e;cases e
  .rw[hfree]at hc;cases hc
 rcases hx with hk|hk
 .refine wpAny_storeName_local hk hn (λh' hn' hs=>?_) hcls;let⟨oL,_,_,hoL,_⟩:=id hn;refine h _ ⟨I.ok,I.os,I.bare,⟨λb o e n hb hx=>?_,λb o e n hb hx=>?_,I.base.free,λb o e hx=>?_,I.base.tups,I.base.frzs,I.base.tbls⟩,⟨_,hn',λj y v' e1 e2 e3=>?_⟩,λy c e=>?_,I.free,I.freeC,λp hp=>?_,tracked ⟨oL,hoL,I.free⟩ hs,by simpa using I.len⟩ ⟨_,hs,.inl rfl⟩
  .exact(hs.2 b (Ak (A4 (AW e) I.ok.above))).trans (I.base.keep b o e n hb hx)
  .let⟨sl,e1⟩:=I.base.slot b o e n hb hx;exact⟨sl,(hs.2 b (Ak (A4 (AW e) I.ok.above))).trans e1⟩
  .let⟨o',e1⟩:=I.base.there b o e hx;exact⟨o',(hs.2 b (Ak (A4 (AW e) I.ok.above))).trans e1⟩
  .by_cases hj:j=i
   .subst hj;rw[hi]at e1;cases e1;rw[A9 hiσ]at e2
    cases e2
    exact⟨u,r,.inl ⟨hk,by simp⟩⟩
   .rw[AO (BL hj)]at e2;let⟨u',r',q⟩:=hl j y v' e1 e2 e3;refine⟨u',r',?_⟩;rcases q with⟨k,e⟩|⟨k,c,e,z⟩
    .refine .inl ⟨k,?_⟩;have:y≠x:=λe=>hj (zfP hN e1 (e ▸ hi));simp[this,e]
    .exact .inr ⟨k,c,e,z.sameBut hs (cne y c e)⟩
  .let⟨w',z⟩:=I.cell y c e;exact⟨w',z.sameBut hs (cne y c e)⟩
  .let⟨e,n,ne,nf,d⟩:=I.pin p hp;exact⟨(hs.2 p.1 ne).trans e,n,ne,nf,d⟩
 .have hfn:X.fn x=true:=by
   rcases hf with z|z
   .exact z
   .rw[z]at hk;cases hk
  let⟨c,hc⟩:=I.ok.has x (.inl hk);let⟨w',z⟩:=I.cell x c hc;refine wpAny_storeName_cell I.ok.kind hk hc z (λh' hc' hs=>?_);let⟨oc,hoc,hocd⟩:=id z;refine h {s with heap:=h'} ⟨I.ok,I.os,I.bare,⟨λb o e n hb hx=>?_,λb o e n hb hx=>?_,I.base.free,λb o e hx=>?_,I.base.tups,I.base.frzs,I.base.tbls⟩,⟨m,hn.sameBut hs (BL (cne x c hc)),λj y v' e1 e2 e3=>?_⟩,λy c' e=>?_,I.free,I.freeC,λp hp=>?_,tracked ⟨oc,hoc,I.freeC x c hc⟩ hs,by simpa using I.len⟩ ⟨c,hs,.inr hc⟩
  .exact(hs.2 b (Ak (A4 (AW e) (I.ok.cab x c hfn hc)))).trans (I.base.keep b o e n hb hx)
  .let⟨sl,e1⟩:=I.base.slot b o e n hb hx;exact⟨sl,(hs.2 b (Ak (A4 (AW e) (I.ok.cab x c hfn hc)))).trans e1⟩
  .let⟨o',e1⟩:=I.base.there b o e hx;exact⟨o',(hs.2 b (Ak (A4 (AW e) (I.ok.cab x c hfn hc)))).trans e1⟩
  .by_cases hj:j=i
   .subst hj;rw[hi]at e1;cases e1;rw[A9 hiσ]at e2
    cases e2
    exact⟨u,r,.inr ⟨.inl hk,c,hc,hc'⟩⟩
   .rw[AO (BL hj)]at e2;let⟨u',r',q⟩:=hl j y v' e1 e2 e3;refine⟨u',r',?_⟩;rcases q with q|⟨k,c',e,z'⟩
    .exact .inl q
    .refine .inr ⟨k,c',e,z'.sameBut hs ?_⟩
     rintro rfl
     exact hj (zfP hN e1 (I.ok.inj _ _ _ e hc ▸ hi))
  .by_cases hcc:c'=c
   .subst hcc;exact⟨_,hc'⟩
   .let⟨w2,z2⟩:=I.cell y c' e;exact⟨w2,z2.sameBut hs hcc⟩
  .let⟨e,n,ne,nf,d⟩:=I.pin p hp;refine⟨(hs.2 p.1 ?_).trans e,n,ne,nf,d⟩;intro q;rw[q,hoc]at e;have q':oc=p.2:=AY e;exact d w' (by rw[<-q'];exact hocd)
theorem zb1{M:Model}{A:Ao}{E:AG->AJ->Prop}{i:Nat}{x:AQ}{v:V}{u:AG}{Q:Unit->AJ->Prop}(I:Inv X pins σ H s)(hN:X.N.Nodup)(hi:X.N[i]?=AA x)(hx:Loc X.env.scope x)(r:RelV v u)
  (h:∀s',Inv X pins (σ.set i (AA v)) H s'->Q () s') (hf:X.fn x=AB \/ X.env.scope.names.lookup x=AA .local:=by first|exact .inl rfl|exact .inr rfl|assumption):A1 M A (storeName X.env x u) Q E s:=
 zhv I hN hi hx r (λs' I' _=>h s' I') hf
theorem Inv.call'{s':AJ}{ch:List AI}(I:Inv X pins σ H s)(ho:s'.os=s.os)(u:Un (frs X.stack) ch H H' s.heap s'.heap)(hok:HOk X.prog X.w H' s'.heap)(hg:DV s'.gens)
  (hch:∀b∈ch,(b∈X.ex \/ X.s₀.heap.objs.size<=b)/\b≠X.env.locals/\(∀x c,X.env.cells.lookup x=AA c->c≠b)/\∀p∈X.pn++pins,p.1≠b):Inv X pins σ H' s':=by
 let⟨h',g',d',t',o'⟩:=s';have e:o'=s.os:=ho;subst e;exact I.call (g':=g') (t':=t') (d':=d') u hok hg hch
end
abbrev XK:=AG->Option AI->Hp->Prop
abbrev St:=List (Option V)
abbrev VK:=V->Hp->Prop
abbrev TE:=St->Hp->VK->Prop
abbrev TT:=St->Hp->(Bool->Hp->Prop)->Prop
abbrev TA:=St->Hp->(List V->Hp->Prop)->Prop
structure Ends where
 nx:St->Hp->Prop
 rt:VK
 bk:St->Hp->Prop:=λ_ _=>False
 ct:St->Hp->Prop:=λ_ _=>False
abbrev TS:=Ends->St->Hp->Prop
def EP(X:Cx)(pins:List (AI×Bu))(σ:St)(Q:VK)(u:AG)(s':AJ):Prop:=∃v H',Inv X pins σ H' s'/\RelV v u/\Q v H'
def TP(X:Cx)(pins:List (AI×Bu))(σ:St)(Q:Bool->Hp->Prop)(b:Bool)(s':AJ):Prop:=∃H',Inv X pins σ H' s'/\Q b H'
def AP(X:Cx)(pins:List (AI×Bu))(σ:St)(Q:List V->Hp->Prop)(us:List AG)(s':AJ):Prop:=∃vs H',Inv X pins σ H' s'/\Vals vs us/\Q vs H'
def SP(X:Cx)(pins:List (AI×Bu))(D:Ends)(f:Flow)(s':AJ):Prop:=
 match f with
 |.next=>∃σ' H',Inv X pins σ' H' s'/\D.nx σ' H'
 |.brk=>∃σ' H',Inv X pins σ' H' s'/\D.bk σ' H'
 |.cont=>∃σ' H',Inv X pins σ' H' s'/\D.ct σ' H'
 |.ret u=>∃v σ' H',Inv X pins σ' H' s'/\RelV v u/\D.rt v H'
def PE(X:Cx)(e:AT)(t:TE):Prop:=
 ∀(pins:List (AI×Bu)) (s:AJ) (σ:St) (H:Hp) (Q:VK),Inv X pins σ H s->t σ H Q->A1 (model X.prog X.w) X.A (eval e X.env) (EP X pins σ Q) X.xe s
def PT(X:Cx)(e:AT)(t:TT):Prop:=
 ∀(pins:List (AI×Bu)) (s:AJ) (σ:St) (H:Hp) (Q:Bool->Hp->Prop),Inv X pins σ H s->t σ H Q->A1 (model X.prog X.w) X.A (isTrue e X.env (eval e X.env)) (TP X pins σ Q) X.xe s
def PW(X:Cx)(e:AT)(t:TT):Prop:=
 ∀(whole:Gp AG) (pins:List (AI×Bu)) (s:AJ) (σ:St) (H:Hp) (Q:Bool->Hp->Prop),Inv X pins σ H s->t σ H Q->A1 (model X.prog X.w) X.A (isTrue e X.env whole) (TP X pins σ Q) X.xe s
theorem PW.pt{X:Cx}{e:AT}{t:TT}(h:PW X e t):PT X e t:=h _
def PA(X:Cx)(es:List AT)(t:TA):Prop:=
 ∀(pos:CJ) (pins:List (AI×Bu)) (s:AJ) (σ:St) (H:Hp) (Q:List V->Hp->Prop),Inv X pins σ H s->t σ H Q->A1 (model X.prog X.w) X.A (spliced (backTo pos (starEach es X.env))) (AP X pins σ Q) X.xe s
def PS(X:Cx)(st:Bp)(t:TS):Prop:=
 ∀(pins:List (AI×Bu)) (s:AJ) (σ:St) (H:Hp) (D:Ends),Inv X pins σ H s->t D σ H->A1 (model X.prog X.w) X.A (exec st X.env) (SP X pins D) X.xe s
def PSs(X:Cx)(st:List Bp)(t:TS):Prop:=
 ∀(pins:List (AI×Bu)) (s:AJ) (σ:St) (H:Hp) (D:Ends),Inv X pins σ H s->t D σ H->A1 (model X.prog X.w) X.A (execs st X.env) (SP X pins D) X.xe s
theorem thn{α:Type}{t:Gp α}{Q Q':α->AJ->Prop}{M:Model}{A:Ao}{E:AG->AJ->Prop}{s:AJ}(h:A1 M A t Q E s)(hQ:∀a s,Q a s->Q' a s):A1 M A t Q' E s:=CM h hQ λ_ _ x=>x
section
variable {X:Cx}
theorem bin{a b:AT}{ta tb:TE}(ha:PE X a ta)(hb:PE X b tb){pins:List (AI×Bu)}{s:AJ}{σ:St}{H:Hp}{R:V->V->Hp->Prop}(I:Inv X pins σ H s)(h:ta σ H λx H1=>tb σ H1 λy H2=>R x y H2)
  {α:Type} {Q:α->AJ->Prop} {f:AG->AG->Gp α}
  (hf:∀v u s2 x y H2,Inv X pins σ H2 s2->RelV x v->RelV y u->R x y H2->A1 (model X.prog X.w) X.A (f v u) Q X.xe s2):
  A1 (model X.prog X.w) X.A (eval a X.env) (λv s₁=>A1 (model X.prog X.w) X.A (eval b X.env) (λu s₂=>A1 (model X.prog X.w) X.A (f v u) Q X.xe s₂) X.xe s₁) X.xe s:=by
 refine thn (ha pins s σ H _ I h) λv s1 kq=>?_;let⟨x,H1,I1,r1,q1⟩:=kq;refine thn (hb pins s1 σ H1 _ I1 q1) λu s2 kq=>?_;let⟨y,H2,I2,r2,q2⟩:=kq;exact hf v u s2 x y H2 I2 r1 r2 q2
def ygM(i:Nat):TE:=λσ H Q=>∃v,σ[i]?=AA (AA v)/\Q v H
def tC(v:V):TE:=λ_ H Q=>Q v H
theorem zkK{i:Nat}{x:AQ}{pos:CJ}(hN:X.N[i]?=AA x)(hv:Vis X.env.scope x)(hd:(x==("__debug__":AQ))=false:=by decide)(hcd:(x==("__classdict__":AQ))=false:=by decide):PE X (.Name x pos) (ygM i):=by
 intro pins s σ H Q I h;let⟨v,e,h⟩:=h;let⟨m,hn,hl⟩:=I.loc;let⟨u,r,l⟩:=hl i x v hN e hv;have fin:EP X pins σ Q u s:=⟨v,H,I,r,h⟩;rcases l with⟨hk,hm⟩|⟨hk,c,hc,hcell⟩
 .exact Gb (FF I.ok.kind hk hn hm fin) hd
 .rcases hk with hk|hk
  .exact Gb (FU I.ok.kind hk hc hcell fin) hd
  .exact Gb (wpAny_loadName_free I.ok.kind hk hc hcell fin hcd) hd
theorem ydq{i j pos}:PE X (.Constant (.int i) j pos) (tC (.int i)):=λ_ _ _ H _ I h=>wpAny_Constant_int ⟨.int i,H,I.tok _,⟨_,rfl⟩,h⟩
theorem yeg{b j pos}:PE X (.Constant (.bool b) j pos) (tC (.bl b)):=λ_ _ _ H _ I h=>Constant_bool ⟨.bl b,H,I,rfl,h⟩
theorem yds{j pos}:PE X (.Constant .none j pos) (tC .non):=λ_ _ _ H _ I h=>Constant_none ⟨.non,H,I,rfl,h⟩
theorem ydc{x j pos}:PE X (.Constant (.str x) j pos) (tC (.str x)):=λ_ _ _ H _ I h=>Calls.Constant_str ⟨.str x,H,I.tok _,⟨_,rfl⟩,h⟩
def Gl(X:Cx)(x:AQ):Prop:=X.env.kindOf x=AA .globalImplicit
theorem zc8{E:AG->AJ->Prop}{pins:List (AI×Bu)}{s:AJ}{σ:St}{H:Hp}{x:AQ}{u:AG}{pos:CJ}{Q:AG->AJ->Prop}(I:Inv X pins σ H s)(hg:Gl X x)(hm:X.mg x=AA u)(h:Q u s)
  (hd:(x==("__debug__":AQ))=false:=by decide):A1 (model X.prog X.w) X.A (eval (.Name x pos) X.env) Q E s:=
 Dq I.ok.kind hg (Calls.loadGlobal_global (by rw[I.ok.glob];exact I.mod.glob.keeps I.bk) hm h) hd
theorem zdJ{E:AG->AJ->Prop}{pins:List (AI×Bu)}{s:AJ}{σ:St}{H:Hp}{x:AQ}{u:AG}{pos:CJ}{Q:AG->AJ->Prop}(I:Inv X pins σ H s)(hg:Gl X x)(hm:X.mg x=AD)(hv:bootBuiltins x=AA u)(h:Q u s)
  (hn:x ≠ "__name__":=by decide) (hd:(x==("__debug__":AQ))=false:=by decide):A1 (model X.prog X.w) X.A (eval (.Name x pos) X.env) Q E s:=by
 let⟨mb,h1,h2⟩:=I.mod.blt;exact Dq I.ok.kind hg (Calls.loadGlobal_builtin (by rw[I.ok.glob];exact I.mod.glob.keeps I.bk) hm (by rw[I.ok.blt];exact h1.keeps I.bk) ((h2 x hn).trans hv) h) hd
theorem zcP{x:AQ}{v:V}{u:AG}{pos:CJ}(hg:Gl X x)(hm:X.mg x=AA u)(r:RelV v u)(hd:(x==("__debug__":AQ))=false:=by decide):PE X (.Name x pos) (tC v):=
 λ_ _ _ H _ I h=>zc8 I hg hm ⟨v,H,I,r,h⟩ hd
theorem zkR{x:AQ}{v:V}{u:AG}{pos:CJ}(hg:Gl X x)(hm:X.mg x=AD)(hv:bootBuiltins x=AA u)(r:RelV v u)(hn:x ≠ "__name__":=by decide)(hd:(x==("__debug__":AQ))=false:=by decide):PE X (.Name x pos) (tC v):=
 λ_ _ _ H _ I h=>zdJ I hg hm hv ⟨v,H,I,r,h⟩ hn hd
variable {a b:AT}{ta tb:TE}{pos:CJ}
variable {tA tB':TT}{rest:List AT}
def ygz(t u:TT):TT:=λσ H Q=>t σ H λc H1=>if c=AB then u σ H1 Q else Q AC H1
def tOr(t u:TT):TT:=λσ H Q=>t σ H λc H1=>if c=AB then Q AB H1 else u σ H1 Q
def ygJ(t:TT):TT:=λσ H Q=>t σ H λc H1=>Q (!c) H1
theorem zlZ(ha:PT X a tA):PW X (.BoolOp .And [a] pos) tA:=by
 intro wh pins s σ H Q I h;refine isTrue_and (thn (ha pins s σ H Q I h) λc s1 e=>?_)
 cases c with
 |true=>exact isTrue_and_nil e
 |false=>exact e
theorem zmW(ha:PT X a tA):PW X (.BoolOp .Or [a] pos) tA:=by
 intro wh pins s σ H Q I h;refine isTrue_or (thn (ha pins s σ H Q I h) λc s1 e=>?_)
 cases c with
 |false=>exact isTrue_or_nil e
 |true=>exact e
theorem zmZ(ha:PT X a tA)(hb:PW X (.BoolOp .And (b::rest) pos) tB'):PW X (.BoolOp .And (a::b::rest) pos) (ygz tA tB'):=by
 intro wh pins s σ H Q I h;refine isTrue_and (thn (ha pins s σ H _ I h) λc s1 kq=>?_);let⟨H1,I1,q1⟩:=kq
 cases c with
 |true=>exact hb wh pins s1 σ H1 Q I1 q1
 |false=>exact⟨H1,I1,q1⟩
theorem zo6(ha:PT X a tA)(hb:PW X (.BoolOp .Or (b::rest) pos) tB'):PW X (.BoolOp .Or (a::b::rest) pos) (tOr tA tB'):=by
 intro wh pins s σ H Q I h;refine isTrue_or (thn (ha pins s σ H _ I h) λc s1 kq=>?_);let⟨H1,I1,q1⟩:=kq
 cases c with
 |true=>exact⟨H1,I1,q1⟩
 |false=>exact hb wh pins s1 σ H1 Q I1 q1
theorem znb(ha:PT X a tA):PT X (.UnaryOp .Not a pos) (ygJ tA):=by
 intro pins s σ H Q I h;exact isTrue_not (ha pins s σ H (λc H1=>Q (!c) H1) I h)
def yeI(ta tb:TE):TE:=λσ H Q=>ta σ H λx H1=>∃c,x=.bl c/\if c=AB then tb σ H1 Q else Q (.bl AC) H1
def ygk(ta tb:TE):TE:=λσ H Q=>ta σ H λx H1=>∃c,x=.bl c/\if c=AB then Q (.bl AB) H1 else tb σ H1 Q
def yeV(ta:TE):TE:=λσ H Q=>ta σ H λx H1=>∃c,x=.bl c/\Q (.bl (!c)) H1
theorem znk{op}{t:TE}(h:PE X a t):PE X (.BoolOp op [a] pos) t:=λpins s σ H Q I hw=>BoolOp_one (h pins s σ H Q I hw)
theorem zoV(ha:PE X a ta)(hb:PE X (.BoolOp .And (b::rest) pos) tb):PE X (.BoolOp .And (a::b::rest) pos) (yeI ta tb):=by
 intro pins s σ H Q I h;refine BoolOp_and (thn (ha pins s σ H _ I h) λv s1 kq=>?_);let⟨x,H1,I1,r1,q1⟩:=kq;let⟨c,rfl,q1⟩:=q1
 cases r1
 refine BV ?_
 cases c with
 |true=>exact hb pins s1 σ H1 Q I1 q1
 |false=>exact⟨.bl AC,H1,I1,rfl,q1⟩
theorem zpF(ha:PE X a ta)(hb:PE X (.BoolOp .Or (b::rest) pos) tb):PE X (.BoolOp .Or (a::b::rest) pos) (ygk ta tb):=by
 intro pins s σ H Q I h;refine BoolOp_or (thn (ha pins s σ H _ I h) λv s1 kq=>?_);let⟨x,H1,I1,r1,q1⟩:=kq;let⟨c,rfl,q1⟩:=q1
 cases r1
 refine BV ?_
 cases c with
 |false=>exact hb pins s1 σ H1 Q I1 q1
 |true=>exact⟨.bl AB,H1,I1,rfl,q1⟩
theorem zoB(ha:PE X a ta):PE X (.UnaryOp .Not a pos) (yeV ta):=by
 intro pins s σ H Q I h;refine UnaryOp_ (thn (ha pins s σ H _ I h) λv s1 kq=>?_);let⟨x,H1,I1,r1,q1⟩:=kq;let⟨c,rfl,q1⟩:=q1
 cases r1
 exact not_of (BV ⟨.bl (!c),H1,I1,rfl,q1⟩)
def tIf(t:TT)(ta tb:TE):TE:=λσ H Q=>t σ H λc H1=>if c=AB then ta σ H1 Q else tb σ H1 Q
theorem zjz{c:AT}(hc:PT X c tA)(ha:PE X a ta)(hb:PE X b tb):PE X (.IfExp c a b pos) (tIf tA ta tb):=by
 intro pins s σ H Q I h;refine wpAny_IfExp (thn (hc pins s σ H _ I h) λd s1 kq=>?_);let⟨H1,I1,q1⟩:=kq
 cases d with
 |true=>exact ha pins s1 σ H1 Q I1 q1
 |false=>exact hb pins s1 σ H1 Q I1 q1
end
def SqL(K:AE)(H:Hp)(a:AI)(xs:List V):Prop:=
 Rd H a (.lst xs) \/
  ∃(o:Bu) (its:Array AG) (n:Nat),K.lookup a=AA o/\o.cls=.type "list"/\o.dict=AD/\o.data=.seq its n/\its.size<=sizeLine/\Vals xs its.toList
def SqT(K:AE)(H:Hp)(a:AI)(xs:List V):Prop:=
 Rd H a (.tup xs) \/
  ∃(o:Bu) (its:Array AG) (n:Nat),K.lookup a=AA o/\o.cls=.type "tuple"/\o.data=.seq its n/\its.size<=sizeLine/\Vals xs its.toList
def yfN:AG->Option V
 |.none=>AA .non
 |.bool b=>AA (.bl b)
 |.int i _=>AA (.int i)
 |.str x _=>AA (.str x)
 |.bytes b _=>AA (.byt b)
 |.float b _=>AA (.flt b)
 |.ref a=>AA (.ref a)
 |.type n=>AA (.ty n)
 |_=>AD
theorem RelV.abs{x:V}{u:AG}(r:RelV x u):yfN u=AA x:=by
 cases x with
 |non=>cases r;rfl
 |bl _=>cases r;rfl
 |int _=>let⟨t,rfl⟩:=r;rfl
 |str _=>let⟨t,rfl⟩:=r;rfl
 |byt _=>let⟨t,rfl⟩:=r;rfl
 |flt _=>let⟨t,rfl⟩:=r;rfl
 |ref _=>cases r;rfl
 |ty _=>cases r;rfl
theorem RelV.inj{x y:V}{u:AG}(r:RelV x u)(q:RelV y u):x=y:=AY (r.abs.symm.trans q.abs)
theorem Vals.inj:∀{xs ys:List V} {us:List AG},Vals xs us->Vals ys us->xs=ys
 |_,_,_,.nil,.nil=>rfl
 |_,_,_,.cons r t,.cons r' t'=>by rw[r.inj r',Vals.inj t t']
section
variable {X:Cx}{pins:List (AI×Bu)}{σ:St}{H:Hp}{s:AJ}{a:AI}{xs ys:List V}
theorem SqL.of{K:AE}(h:H a=AA (.lst xs)):SqL K H a xs:=.inl (.inl h)
theorem Inv.list(I:Inv X pins σ H s)(h:SqL X.K H a xs):∃its:List AG,Vals xs its/\PlainL s.heap a its.toArray/\xs.length<=sizeLine:=by
 rcases h with h|⟨o,its,n,hk,hc,hd,hs,hz,r⟩
 .let⟨z,its,n,r,e⟩:=h.ok I.hok;exact⟨its,r,⟨_,n,e,rfl,rfl,rfl⟩,z⟩
 .refine⟨its.toList,r,⟨o,n,I.kIn a o hk,hc,hd,by simpa using hs⟩,?_⟩;have e:=r.length;erw[Bv]at e;lia
theorem Inv.tuple(I:Inv X pins σ H s)(h:SqT X.K H a xs):∃its:List AG,Vals xs its/\HM s.heap a its.toArray/\xs.length<=sizeLine:=by
 rcases h with h|⟨o,its,n,hk,hc,hs,hz,r⟩
 .let⟨z,its,r,p⟩:=h.ok I.hok;exact⟨its,r,p,z⟩
 .refine⟨its.toList,r,⟨o,I.kIn a o hk,hc,n,by simpa using hs⟩,?_⟩;have e:=r.length;erw[Bv]at e;lia
theorem Inv.list_inj(I:Inv X pins σ H s)(h:SqL X.K H a xs)(h':SqL X.K H a ys):xs=ys:=by
 let⟨its,r,⟨o,n,e,_,_,d⟩,_⟩:=I.list h;let⟨its',r',⟨o',n',e',_,_,d'⟩,_⟩:=I.list h';rw[e]at e';cases e';rw[d]at d';injection d' with d1 _;have:its=its':=by simpa using congrArg Gy d1
 subst this;exact r.inj r'
theorem Inv.tuple_inj(I:Inv X pins σ H s)(h:SqT X.K H a xs)(h':SqT X.K H a ys):xs=ys:=by
 let⟨its,r,⟨o,e,_,n,d⟩,_⟩:=I.tuple h;let⟨its',r',⟨o',e',_,n',d'⟩,_⟩:=I.tuple h';rw[e]at e';cases e';rw[d]at d';injection d' with d1 _;have:its=its':=by simpa using congrArg Gy d1
 subst this;exact r.inj r'
end
section
variable {X:Cx}{pins:List (AI×Bu)}{σ:St}{H:Hp}{s:AJ}{E:AG->AJ->Prop}
end
section
variable {X:Cx}{st:Bp}{rest:List Bp}{t u:TS}{e:AT}{te:TE}{pos:CJ}
def yeu:TS:=λD σ H=>D.nx σ H
def ygS(t u:TS):TS:=λD σ H=>t {D with nx:=u D} σ H
theorem ycH:PSs X [] yeu:=λ_ _ σ H _ I h=>D2 ⟨σ,H,I,h⟩
theorem zfK(h1:PS X st t)(h2:PSs X rest u):PSs X (st::rest) (ygS t u):=by
 intro pins s σ H D I h;refine GI (thn (h1 pins s σ H {D with nx:=u D} I h) λf s1 q=>?_)
 cases f with
 |next=>
  let⟨σ',H',I',q⟩:=q;exact h2 pins s1 σ' H' D I' q
 |ret v=>exact q
 |brk=>exact q
 |cont=>exact q
theorem zmw(h1:PS X st t):PSs X [st] t:=by
 intro pins s σ H D I h;refine GI (thn (h1 pins s σ H D I h) λf s1 q=>?_)
 cases f with
 |next=>exact D2 q
 |ret v=>exact q
 |brk=>exact q
 |cont=>exact q
theorem Inv.quiet{pins:List (AI×Bu)}{σ:St}{H:Hp}{s:AJ}(I:Inv X pins σ H s):interactive X.env=false:=by simp[interactive,I.ok.kind]
def yd1(te:TE):TS:=λD σ H=>te σ H λ_ H1=>D.nx σ H1
theorem zlJ(he:PE X e te)(hs:swapsWith e AD pos.line X.env=pure false:=by rfl):PS X (.Expr e pos) (yd1 te):=by
 intro pins s σ H D I h;exact wpAny_Expr_any (thn (he pins s σ H _ I h) λv s1 ⟨x,H1,I1,r1,q1⟩=>⟨σ,H1,I1,q1⟩) I.quiet hs
def ygw(te:TE):TS:=λD σ H=>te σ H D.rt
theorem zkw(he:PE X e te):PS X (.Return (AA e) pos) (ygw te):=by
 intro pins s σ H D I h;exact wpAny_Return_some (thn (he pins s σ H _ I h) λv s1 ⟨x,H1,I1,r1,q1⟩=>⟨x,σ,H1,I1,r1,q1⟩)
def yeG:TS:=λD _ H=>D.rt .non H
theorem ycS:PS X (.Return AD pos) yeG:=λ_ _ σ H _ I h=>wpAny_Return_none ⟨.non,σ,H,I,rfl,h⟩
def yg1(c:TT)(t u:TS):TS:=λD σ H=>c σ H λb H1=>if b=AB then t D σ H1 else u D σ H1
theorem zpm{c:AT}{a b:List Bp}{tc:TT}(hc:PT X c tc)(ha:PSs X a t)(hb:PSs X b u):PS X (.If c a b pos) (yg1 tc t u):=by
 intro pins s σ H D I h;refine wpAny_If (thn (hc pins s σ H _ I h) λd s1 kq=>?_);let⟨H1,I1,q1⟩:=kq
 cases d with
 |true=>exact ha pins s1 σ H1 D I1 q1
 |false=>exact hb pins s1 σ H1 D I1 q1
end
abbrev TG:=V->St->Hp->(St->Hp->Prop)->Prop
abbrev TGs:=List V->St->Hp->(St->Hp->Prop)->Prop
def PG(X:Cx)(target:AT)(t:TG):Prop:=
 ∀(pins:List (AI×Bu)) (s:AJ) (σ:St) (H:Hp) (v:V) (u:AG) (Q:St->Hp->Prop),Inv X pins σ H s->RelV v u->t v σ H Q ->
  A1 (model X.prog X.w) X.A (assign target X.env u) (λ_ s'=>∃σ' H',Inv X pins σ' H' s'/\Q σ' H') X.xe s
def PGs(X:Cx)(ts:List AT)(t:TGs):Prop:=
 ∀(pins:List (AI×Bu)) (s:AJ) (σ:St) (H:Hp) (vs:List V) (us:List AG) (Q:St->Hp->Prop),Inv X pins σ H s->Vals vs us->t vs σ H Q ->
  A1 (model X.prog X.w) X.A (assignInOrder ((assignEach ts X.env).map (·.2)) us) (λ_ s'=>∃σ' H',Inv X pins σ' H' s'/\Q σ' H') X.xe s
abbrev yeb:=V->V->V->Hp->(Hp->Prop)->Prop
def ye1(X:Cx)(t:yeb):Prop:=
 ∀(pins:List (AI×Bu)) (s:AJ) (σ:St) (H:Hp) (o i v:V) (ov iv u:AG) (Q:Hp->Prop),Inv X pins σ H s->RelV o ov->RelV i iv->RelV v u->t o i v H Q ->
  A1 (model X.prog X.w) X.A (setItem ov iv u) (λ_ s'=>∃H',Inv X pins σ H' s'/\Q H') X.xe s
abbrev TIp:=V->V->Hp->VK->Prop
def PIp(X:Cx)(op:D0)(t:TIp):Prop:=
 ∀(pins:List (AI×Bu)) (s:AJ) (σ:St) (H:Hp) (x y:V) (v u:AG) (Q:VK),Inv X pins σ H s->RelV x v->RelV y u->t x y H Q ->
  A1 (model X.prog X.w) X.A (inplaceOp op v u) (EP X pins σ Q) X.xe s
section
variable {X:Cx}{pos:CJ}
def ydB(i:Nat):TG:=λv σ H Q=>Q (σ.set i (AA v)) H
theorem zhG{i:Nat}{x:AQ}(hN:X.N.Nodup)(hi:X.N[i]?=AA x)(hx:Loc X.env.scope x)(hf:X.fn x=AB \/ X.env.scope.names.lookup x=AA .local:=by first|exact .inl rfl|exact .inr rfl|assumption):PG X (.Name x pos) (ydB i):=by
 intro pins s σ H v u Q I r h;exact wpAny_assign_Name (zb1 I hN hi hx r (λs' I'=>⟨_,H,I',h⟩) hf)
def yfI:TGs:=λvs σ H Q=>vs=[]/\Q σ H
def yeJ(t:TG)(u:TGs):TGs:=λvs σ H Q=>∃v r,vs=v::r/\t v σ H λσ' H'=>u r σ' H' Q
theorem ycT:PGs X [] yfI:=by
 intro pins s σ H vs us Q I r h;let⟨e,h⟩:=h;subst e
 cases r
 exact Fg ⟨σ,H,I,h⟩
theorem zjK{e:AT}{es:List AT}{t:TG}{u:TGs}(h1:PG X e t)(h2:PGs X es u)
  (hs:(assignEach (e::es) X.env).map (·.2)=assign e X.env::(assignEach es X.env).map (·.2):=by rfl):PGs X (e::es) (yeJ t u):=by
 intro pins s σ H vs us Q I r h;let⟨v,vr,e1,h⟩:=h;subst e1
 cases r with
 |cons r rr=>
  rw[hs];refine Dr (thn (h1 pins s σ H _ _ _ I r h) λ_ s1 kq=>?_);let⟨σ1,H1,I1,q1⟩:=kq;exact h2 pins s1 σ1 H1 _ _ Q I1 rr q1
def yft(K:AE)(n:Nat)(t:TGs):TG:=λv σ H Q=>∃a xs,v=.ref a/\SqT K H a xs/\xs.length=n/\t xs σ H Q
theorem zoU{es:List AT}{k:Nat}{t:TGs}{n:Nat}(hc:X.calm=AB)(h:PGs X es t)
  (hn:(assignEach es X.env).length=n:=by rfl) (hst:(assignEach es X.env).findIdx? (·.1)=none:=by rfl):PG X (.Tuple es k pos) (yft X.K n t):=by
 intro pins s σ H v u Q I r hw;let⟨a,xs,e1,hq,hl,hw⟩:=hw;subst e1
 cases r
 let⟨its,rv,ht,hz⟩:=I.tuple hq;refine assign_Tuple_tuple (I.ok.hd hc) ht (by simp[hn,<-hl,rv.length]) hst λh' hx=>?_;have I1:Inv X pins σ H {s with heap:=h'}:=I.kept (t':=s.toks) λb o e=>hx b o (Ak (AW e)) e;exact h pins _ σ H xs _ Q I1 (by simpa using rv) hw
def yfn(to ti:TE)(t:yeb):TG:=λv σ H Q=>to σ H λo H1=>ti σ H1 λi H2=>t o i v H2 λH3=>Q σ H3
theorem zke{o i:AT}{to ti:TE}{t:yeb}(ho:PE X o to)(hi:PE X i ti)(hs:ye1 X t)
  (ha:∀v,assign (.Subscript o i pos) X.env v=(do
   let ov <-holding [v] (eval o X.env)
   let iv <-holding [v,ov] (eval i X.env)
   standAt pos
   holding [v,ov,iv] (setItem ov iv v)
   release [v,ov,iv] []):=by intro _;rfl):PG X (.Subscript o i pos) (yfn to ti t):=by
 intro pins s σ H v u Q I r h;rw[ha];refine AH (DW (thn (ho pins s σ H _ I h) λov s1 kq=>?_));let⟨x,H1,I1,r1,q1⟩:=kq;refine AH (DW (thn (hi pins s1 σ H1 _ I1 q1) λiv s2 kq=>?_));let⟨y,H2,I2,r2,q2⟩:=kq;refine AH (EW (AH (DW (thn (hs pins s2 σ H2 x y v ov iv u _ I2 r1 r2 r q2) λ_ s3 kq=>?_))));let⟨H3,I3,q3⟩:=kq;exact wpAny_release ⟨σ,H3,I3,q3⟩
def yfm(te:TE)(g:TG):TS:=λD σ H=>te σ H λx H1=>g x σ H1 D.nx
theorem zkF{tg e:AT}{te:TE}{g:TG}(he:PE X e te)(hg:PG X tg g)(hs:swapsWithSole [tg] e pos.line X.env=pure false:=by rfl)(hw:swappedStores [tg] e X.env=pure none:=by rfl)
  (h1:(assignEach [tg] X.env).map (·.2)=[assign tg X.env]:=by rfl):PS X (.Assign [tg] e pos) (yfm te g):=by
 intro pins s σ H D I h;refine wpAny_Assign_stores (thn (he pins s σ H _ I h) λv s1 kq=>?_) hs hw;let⟨x,H1,I1,r1,q1⟩:=kq;rw[h1];exact thn (hg pins s1 σ H1 x v _ I1 r1 q1) λ_ s2 q=>q
theorem zkz{i:Nat}{x:AQ}{e:AT}{te:TE}{pos':CJ}(hN:X.N.Nodup)(hi:X.N[i]?=AA x)(hx:Loc X.env.scope x)(he:PE X e te)(hs:swapsWith e (AA (.Name x pos')) pos.line X.env=pure false:=by rfl)(hf:X.fn x=AB \/ X.env.scope.names.lookup x=AA .local:=by first|exact .inl rfl|exact .inr rfl|assumption):
  PS X (.Assign [.Name x pos'] e pos) (yfm te (ydB i)):=by
 intro pins s σ H D I h;refine wpAny_Assign_Name (thn (he pins s σ H _ I h) λv s1 kq=>?_) hs;let⟨y,H1,I1,r1,q1⟩:=kq;exact zb1 I1 hN hi hx r1 (λs2 I2=>⟨_,H1,I2,q1⟩) hf
def yff(i j:Nat)(ta:TA):TS:=λD σ H=>ta σ H λvs H1=>∃v w,vs=[v,w]/\D.nx ((σ.set i (AA v)).set j (AA w)) H1
theorem zmP{i j:Nat}{x y:AQ}{a b:AT}{ta:TA}{px py pt:CJ}{kt k2 pt2}(hc:X.calm=AB)(hN:X.N.Nodup)(hi:X.N[i]?=AA x)(hj:X.N[j]?=AA y)(hij:i≠j)
  (hx:X.env.scope.names.lookup x=AA .local) (hy:X.env.scope.names.lookup y=AA .local) (ha:PA X [a,b] ta)
  (hw:swappedStores [.Tuple [.Name x px,.Name y py] kt pt] (.Tuple [a,b] k2 pt2) X.env=pure (AA [x,y]))
  (hs:swapsWithSole [.Tuple [.Name x px,.Name y py] kt pt] (.Tuple [a,b] k2 pt2) pos.line X.env=pure false:=by rfl):
  PS X (.Assign [.Tuple [.Name x px,.Name y py] kt pt] (.Tuple [a,b] k2 pt2) pos) (yff i j ta):=by
 intro pins s σ H D I h;rw[exec_Assign_arm];refine AH (EW ?_);rw[hs];refine AH (AV ?_);rw[if_neg (by decide)];refine AH (Tuple_ (thn (ha _ pins s σ H _ I h) λus s1 kq=>?_));let⟨vs,H1,I1,r1,q1⟩:=kq;let⟨v,w,e1,q1⟩:=q1;subst e1;obtain⟨u1,u2,rfl,rv,rw'⟩:∃u1 u2,us=[u1,u2]/\RelV v u1/\RelV w u2:=by
  cases r1 with
  |cons p q=>
   cases q with
   |cons p' q'=>
    cases q'
    exact⟨_,_,rfl,p,p'⟩
 refine Bk ?_ (by show 2<=sizeLine;decide);have I2:Inv X pins σ H1 {s1 with heap:=s1.heap.push {cls:=.type "tuple",data:=.seq [u1,u2].toArray} }:=I1.kept (t':=s1.toks) λb o e=>AR _ e;rw[hw];refine AH (AV ?_);show A1 (model X.prog X.w) X.A (do rule "assign.swapped-stores";let items <-unpackItems (.ref s1.heap.objs.size) 2 AD;assignInOrder [λv=>bindName X.env y v,λv=>bindName X.env x v] items.reverse;pure Flow.next) _ _ _;refine AH (Eh (AH (unpackItems_tuple (items:=#[u1,u2]) (I.ok.hd hc) (GJ s1.heap _) λh' hx'=>?_)));have I3:=I2.kept (h':=h') (t':=s1.toks) λb o e=>hx' b o (Ak (AW e)) e;show A1 _ _ (assignInOrder [λv=>bindName X.env y v,λv=>bindName X.env x v] [u2,u1] >>= λ_=>pure Flow.next) _ _ _;refine AH (Dr (wpAny_bindName (zb1 I3 hN hj (.inl hy) rw' (λs2 I4=>?_) (.inr hy))));refine Dr (wpAny_bindName (zb1 I4 hN hi (.inl hx) rv (λs3 I5=>Fg (AV ?_)) (.inr hx)));rw[Gq _ _ (BL hij)]at I5;exact⟨_,H1,I5,q1⟩
def yfP(i:Nat)(te:TE)(ti:TIp):TS:=λD σ H=>∃x,σ[i]?=AA (AA x)/\te σ H λy H1=>ti x y H1 λz H2=>D.nx (σ.set i (AA z)) H2
theorem zkN{i:Nat}{x:AQ}{e:AT}{te:TE}{op:D0}{ti:TIp}{pos':CJ}(hN:X.N.Nodup)(hi:X.N[i]?=AA x)(hx:Loc X.env.scope x)(he:PE X e te)(ho:PIp X op ti)(hf:X.fn x=AB \/ X.env.scope.names.lookup x=AA .local:=by first|exact .inl rfl|exact .inr rfl|assumption):
  PS X (.AugAssign (.Name x pos') op e pos) (yfP i te ti):=by
 intro pins s σ H D I h;let⟨v,e1,h⟩:=h;let⟨m,hn,hl⟩:=I.loc;have vis:Vis X.env.scope x:=by rcases hx with k|k;exact .inl k;exact .inr (.inl k)
 let⟨u,r,l⟩:=hl i x v hi e1 vis;refine wpAny_AugAssign_Name ?_;have go:A1 (model X.prog X.w) X.A (eval e X.env) (λw s₂=>A1 (model X.prog X.w) X.A (inplaceOp op u w) (λr s₃=>A1 (model X.prog X.w) X.A (storeName X.env x r) (λ_=>SP X pins D .next) X.xe s₃) X.xe s₂) X.xe s:=by
  refine thn (he pins s σ H _ I h) λw s1 kq=>?_;let⟨y,H1,I1,r1,q1⟩:=kq;refine thn (ho pins s1 σ H1 v y u w _ I1 r r1 q1) λz s2 kq=>?_;let⟨zv,H2,I2,r2,q2⟩:=kq;exact zb1 I2 hN hi hx r2 (λs3 I3=>⟨_,H2,I3,q2⟩) hf
 rcases l with⟨hk,hm⟩|⟨hk,c,hc,hcell⟩
 .exact FF I.ok.kind hk hn hm go
 .rcases hk with hk|hk
  .exact FU I.ok.kind hk hc hcell go
  .rcases hx with k|k
   .have:X.env.scope.names.lookup x=AA .free:=hk;rw[k]at this;cases this
   .have:X.env.scope.names.lookup x=AA .free:=hk;rw[k]at this;cases this
def ipI(f:Int->Int->Int):TIp:=λx y H Q=>∃i j,x=.int i/\y=.int j/\Q (.int (f i j)) H
theorem zoO:PIp X .Add (ipI λi j=>i+j):=by
 intro pins s σ H x y v u Q I r1 r2 h;let⟨i,j,e1,e2,q⟩:=h;subst e1;subst e2;let⟨t,rfl⟩:=r1;let⟨t',rfl⟩:=r2;exact G7 ⟨.int _,H,I.tok _,⟨_,rfl⟩,q⟩
end
section
variable {X:Cx}{pos:CJ}
def ydj(c:TT)(tb:TS):TS:=λD σ H=>∃W:Nat->St->Hp->Prop,(∃m,W m σ H)/\∀m σ H,W m σ H ->
 c σ H λb H1=>if b=AB then ∃N:St->Hp->Prop,(∀σ' H',N σ' H'->∃m',m' < m/\W m' σ' H')/\tb {D with nx:=N,ct:=N,bk:=D.nx} σ H1 else D.nx σ H1
theorem zjT{c:AT}{body:List Bp}{tc:TT}{tb:TS}(hp:E8 (model X.prog X.w) X.A X.env X.xe)(hc:PT X c tc)(hb:PSs X body tb):PS X (.While c body [] pos) (ydj tc tb):=by
 intro pins s σ H D I h;let⟨W,⟨m0,w0⟩,turn⟩:=h;refine wpAny_While (codeAny_whileLoop (λn s'=>∃σ' H',Inv X pins σ' H' s'/\W n σ' H') ?_ m0 ⟨σ,H,I,w0⟩)
 rintro n s1 ⟨σ1,H1,I1,w1⟩
 refine CG hp (thn (hc pins s1 σ1 H1 _ I1 (turn n σ1 H1 w1)) λb s2 kq=>?_);let⟨H2,I2,q2⟩:=kq
 cases b with
 |true=>
  let⟨N,hN,q2⟩:=q2;rw[if_pos rfl];refine CG hp (thn (hb pins s2 σ1 H2 _ I2 q2) λf s3 q3=>?_)
  cases f with
  |next=>
   let⟨σ3,H3,I3,n3⟩:=q3;let⟨m',hm,w3⟩:=hN σ3 H3 n3;exact⟨m',hm,σ3,H3,I3,w3⟩
  |cont=>
   let⟨σ3,H3,I3,n3⟩:=q3;let⟨m',hm,w3⟩:=hN σ3 H3 n3;exact⟨m',hm,σ3,H3,I3,w3⟩
  |brk=>exact q3
  |ret v=>exact q3
 |false=>
  rw[if_neg Az];exact D2 ⟨σ1,H2,I2,q2⟩
end
structure It where
 go:Nat->Hp->Prop
 yld:Nat->Hp->V->Hp->Prop
 stop:Nat->Hp->Prop
def ybs(X:Cx)(pins:List (AI×Bu))(H:Hp)(b:AI):Prop:=
 H b=AD/\b≠X.env.locals/\b∉X.fs/\(b∈X.ex \/ X.s₀.heap.objs.size<=b)/\(∀x c,X.env.cells.lookup x=AA c->c≠b)/\∀p∈X.pn++pins,p.1≠b
theorem Inv.fpOk{X:Cx}{pins:List (AI×Bu)}{σ:St}{H H':Hp}{s:AJ}{b:AI}(I:Inv X pins σ H s)(hb:s.heap.objs.size<=b)(hn:H' b=AD):ybs X pins H' b:=by
 refine⟨hn,Ei (A4 I.lt hb),I.nofs hb,.inr (BO I.sz hb),λx c e z=>?_,λp hp z=>?_⟩
 .let⟨v,q⟩:=I.cell x c e;exact absurd (A4 q.lt (by rw[z];exact hb)) (Cr _)
 .exact absurd (A4 (AW (I.pin p hp).1) (by rw[z];exact hb)) (Cr _)
structure Turn(P:A8)(w:Aj)(K:AE)(tg:AT)(J:It)(fp:List AI)(it:AI)(tn:Nat->BB->Prop):Prop where
 mem:it∈fp
 obj:∀i h,tn i h->∀b∈fp,∃o,h.get? b=AA o/\∀v,o.data ≠ .cell v
 keep:∀i h h',tn i h->(∀b∈fp,∀o,h.get? b=AA o->h'.get? b=AA o)->tn i h'
 item:∀(X:Cx),X.prog=P->X.w=w->X.K=K->X.calm=AB->∀(i:Nat) (pins:List (AI×Bu)) (s:AJ) (σ:St) (H:Hp) (E:AG->AJ->Prop),Inv X pins σ H s->(∀b∈fp,ybs X pins H b)->tn i s.heap->J.go i H ->
  A1 (model P w) X.A (pyNext (.ref it)) (λr s1=>∃u,r=AA u /\
   A1 (model P w) X.A (letOwnedTupleGo tg (.ref it) u) (λ_ s2=>∃x H',Inv X pins σ H' s2/\RelV x u/\J.yld i H x H'/\tn (i+1) s2.heap/\∀b∈fp,H' b=AD) E s1) E s
 done:∀(X:Cx),X.prog=P->X.w=w->X.K=K->X.calm=AB->∀(i:Nat) (pins:List (AI×Bu)) (s:AJ) (σ:St) (H:Hp) (E:AG->AJ->Prop),Inv X pins σ H s->(∀b∈fp,ybs X pins H b)->tn i s.heap->J.stop i H ->
  A1 (model P w) X.A (pyNext (.ref it)) (λr s1=>r=AD/\Inv X pins σ H s1) E s
 self:∀(A:Ao) (i:Nat) (s:AJ) (Q:AG->AJ->Prop) (E:AG->AJ->Prop),tn i s.heap->Q (.ref it) s->A1 (model P w) A (pyIter (.ref it)) Q E s
abbrev TI:=St->Hp->(It->Hp->Prop)->Prop
def PIE(X:Cx)(pins:List (AI×Bu))(σ:St)(tg:AT)(R:It->Hp->Prop)(itv:AG)(s2:AJ):Prop:=
 ∃(it:AI) (fp:List AI) (tn:Nat->BB->Prop) (J:It) (H':Hp),itv=.ref it/\Inv X pins σ H' s2/\Turn X.prog X.w X.K tg J fp it tn/\tn 0 s2.heap/\(∀b∈fp,ybs X pins H' b)/\R J H'
def PI(X:Cx)(tg iter:AT)(wi:TI):Prop:=
 ∀(pins:List (AI×Bu)) (s:AJ) (σ:St) (H:Hp) (R:It->Hp->Prop),Inv X pins σ H s->wi σ H R ->
  A1 (model X.prog X.w) X.A (eval iter X.env) (λv s1=>A1 (model X.prog X.w) X.A (pyIter v) (PIE X pins σ tg R) X.xe s1) X.xe s
theorem zl3{M:Model}{A:Ao}{E:AG->AJ->Prop}{s:AJ}{tg:AT}{it:AI}{u:AG}{o:Bu}{n:String}{vs:Array AG}{Q:Unit->AJ->Prop}(ho:s.heap.get? it=AA o)(hc:o.cls=.type n)(hd:o.data=.fields vs)
  (hn:["enumerate","zip","dict_itemiterator","dict_reverseitemiterator","odict_iterator","itertools.zip_longest","itertools.pairwise"].contains n=AC) (hQ:Q () s):A1 M A (letOwnedTupleGo tg (.ref it) u) Q E s:=by
 unfold letOwnedTupleGo
 cases tg<;>first
  |exact AV hQ
  | (cases u<;>first
    |exact AV hQ
    | (refine AH (wpAny_load ho ?_)
       rw[hc,hd];show A1 M A (if (["enumerate","zip","dict_itemiterator","dict_reverseitemiterator","odict_iterator","itertools.zip_longest","itertools.pairwise"].contains n&&vs[0]? == AA (rawInt _))=AB then _ else _) Q E s;rw[if_neg (by intro h;rw[hn,Gc]at h;cases h)];exact AV hQ))
def Itl(K:AE)(a:AI):It:=
 ⟨λi H=>∃xs x,SqL K H a xs/\xs[i]?=AA x,λi H x H'=>H'=H/\∀xs,SqL K H a xs->xs[i]?=AA x,λi H=>∃xs,SqL K H a xs/\xs.length<=i⟩
def Itt(K:AE)(a:AI):It:=
 ⟨λi H=>∃xs x,SqT K H a xs/\xs[i]?=AA x,λi H x H'=>H'=H/\∀xs,SqT K H a xs->xs[i]?=AA x,λi H=>∃xs,SqT K H a xs/\xs.length<=i⟩
def Itr(lo:Int)(n:Nat):It:=⟨λi _=>i<n,λi H x H'=>H'=H/\x=.int (lo+i),λi _=>n<=i⟩
theorem ziI{P:A8}{w:Aj}{K:AE}{tg:AT}(a it:AI):Turn P w K tg (Itl K a) [it] it (λi h=>h.IsListIter it a i) where
 mem:=by simp
 obj:=λi h st b hb=>by
  have e:b=it:=by simpa using hb
  subst e;let⟨o,e,c,d⟩:=st;exact⟨o,e,λv z=>by rw[d]at z;cases z⟩
 keep:=λi h h' st k=>st.at λo e=>k it (by simp) o e
 item:=by
  intro X hP hw hK hc i pins s σ H E I hf st hg;subst hP hw hK;let⟨xs,x,hq,hx⟩:=hg;let⟨its,rv,p,hz⟩:=I.list hq;let⟨u,hu,ru⟩:=rv.get hx;let⟨f0,f1,f2,f3,f4,f5⟩:=hf it (by simp);refine wpAny_pyNext_list_item st p.isList (x:=u) (by simpa using hu) λh' st' sb=>?_;have I1:Inv X pins σ H {s with heap:=h'}:=I.turned (t':=s.toks) (λb o hb e=>(sb.2 b hb).trans e) f0 f1 f3 f4 f5;let⟨o,e,c,d⟩:=id st';exact⟨u,rfl,zl3 (s:={s with heap:=h'}) e c d (by decide) ⟨x,H,I1,ru,⟨rfl,λys hy=>by rw[I.list_inj hy hq];exact hx⟩,st',λb hb=>(hf b hb).1⟩⟩
 done:=by
  intro X hP hw hK hc i pins s σ H E I hf st hg;subst hP hw hK;let⟨xs,hq,hx⟩:=hg;let⟨its,rv,p,hz⟩:=I.list hq;let⟨f0,f1,f2,f3,f4,f5⟩:=hf it (by simp);have hl:=rv.length;exact wpAny_pyNext_list_end (I.ok.hd hc) st p.isList (by simp;lia) λh' eb=>⟨rfl,I.turned (t':=s.toks) (λb o hb e=>eb b o hb e) f0 f1 f3 f4 f5⟩
 self:=λ_ _ _ _ _ st h=>wpAny_pyIter_listiter st h
theorem zgO{P:A8}{w:Aj}{K:AE}{tg:AT}(a it:AI):Turn P w K tg (Itt K a) [it] it (λi h=>h.IsTupleIter it a i) where
 mem:=by simp
 obj:=λi h st b hb=>by
  have e:b=it:=by simpa using hb
  subst e;let⟨o,e,c,d⟩:=st;exact⟨o,e,λv z=>by rw[d]at z;cases z⟩
 keep:=λi h h' st k=>st.at λo e=>k it (by simp) o e
 item:=by
  intro X hP hw hK hc i pins s σ H E I hf st hg;subst hP hw hK;let⟨xs,x,hq,hx⟩:=hg;let⟨its,rv,p,hz⟩:=I.tuple hq;let⟨u,hu,ru⟩:=rv.get hx;let⟨f0,f1,f2,f3,f4,f5⟩:=hf it (by simp);refine wpAny_pyNext_tuple_item st (show s.heap.IsTuple a its.toArray from p) (x:=u) (by simpa using hu) λh' st' sb=>?_;have I1:Inv X pins σ H {s with heap:=h'}:=I.turned (t':=s.toks) (λb o hb e=>(sb.2 b hb).trans e) f0 f1 f3 f4 f5;let⟨o,e,c,d⟩:=id st';exact⟨u,rfl,zl3 (s:={s with heap:=h'}) e c d (by decide) ⟨x,H,I1,ru,⟨rfl,λys hy=>by rw[I.tuple_inj hy hq];exact hx⟩,st',λb hb=>(hf b hb).1⟩⟩
 done:=by
  intro X hP hw hK hc i pins s σ H E I hf st hg;subst hP hw hK;let⟨xs,hq,hx⟩:=hg;let⟨its,rv,p,hz⟩:=I.tuple hq;let⟨f0,f1,f2,f3,f4,f5⟩:=hf it (by simp);have hl:=rv.length;exact wpAny_pyNext_tuple_end (I.ok.hd hc) st (show s.heap.IsTuple a its.toArray from p) (by simp;lia) λh' eb=>⟨rfl,I.turned (t':=s.toks) (λb o hb e=>eb b o hb e) f0 f1 f3 f4 f5⟩
 self:=λ_ _ _ _ _ st h=>wpAny_pyIter_tupleiter st h
theorem zgx{P:A8}{w:Aj}{K:AE}{tg:AT}(it:AI)(lo:Int)(n:Nat):Turn P w K tg (Itr lo n) [it] it (λi h=>IsRangeIter h it (lo+(i:Nat)*1) ((n:Int)-(i:Nat)) 1) where
 mem:=by simp
 obj:=λi h st b hb=>by
  have e:b=it:=by simpa using hb
  subst e;exact⟨_,st,λv z=>by
   have z':Data.fields _=Data.cell v:=z
   cases z'⟩
 keep:=λi h h' st k=>k it (by simp) _ st
 item:=by
  intro X hP hw hK hc i pins s σ H E I hf st hg;subst hP hw hK;let⟨f0,f1,f2,f3,f4,f5⟩:=hf it (by simp);have W:=Walks.range (prog:=X.prog) (w:=X.w) (I.ok.hd hc) it lo 1 n;refine W.item i s _ _ hg st λv h' tk hv st' kk=>?_;let⟨t,rfl⟩:=hv;have I1:Inv X pins σ H {s with heap:=h',toks:=tk}:=I.turned (λb o hb e=>kk b o (by simpa using hb) e) f0 f1 f3 f4 f5;refine⟨_,rfl,zl3 (s:={s with heap:=h',toks:=tk}) (n:="range_iterator") st' rfl rfl (by decide) ⟨.int (lo+i),H,I1,⟨t,?_⟩,⟨rfl,rfl⟩,st',λb hb=>(hf b hb).1⟩⟩;rw[CW]
 done:=by
  intro X hP hw hK hc i pins s σ H E I hf st hg;subst hP hw hK;let⟨f0,f1,f2,f3,f4,f5⟩:=hf it (by simp);exact wpAny_pyNext_range_end (I.ok.hd hc) st (by have:n<=i:=hg;lia) λh' eb=>⟨rfl,I.turned (t':=s.toks) (λb o hb e=>eb b o hb e) f0 f1 f3 f4 f5⟩
 self:=λ_ _ _ _ _ st h=>wpAny_pyIter_rangeiter st h
section
variable {X:Cx}{tg:AT}
theorem zjy{pins:List (AI×Bu)}{σ:St}{H:Hp}{s:AJ}{R:It->Hp->Prop}{E:AG->AJ->Prop}{lo hi:Int}{t u v:He}{tk:Nat}(I:Inv X pins σ H s)(h1:-(2^62)<=lo)(h2:lo<2^62)(h3:-(2^62)<=hi)(h4:hi<2^62)
  (q:R (Itr lo (hi-lo).toNat) H):A1 (model X.prog X.w) X.A (pyIter (.ref s.heap.objs.size)) (PIE X pins σ tg R) E {s with heap:=s.heap.push {cls:=.type "range",data:=.fields #[.int lo t,.int hi u,.int 1 v]},toks:=tk}:=by
 refine wpAny_pyIter_range (IsRange.new ..) (small_one h1 h2 h3 h4) ?_;have I1:Inv X pins σ H {s with heap:=s.heap.push {cls:=.type "range",data:=.fields #[.int lo t,.int hi u,.int 1 v]},toks:=tk}:=I.kept λb o e=>AR _ e;refine⟨(s.heap.push {cls:=.type "range",data:=.fields #[.int lo t,.int hi u,.int 1 v]}).objs.size,[(s.heap.push {cls:=.type "range",data:=.fields #[.int lo t,.int hi u,.int 1 v]}).objs.size],_,_,H,rfl,
  I1.kept (t':=tk) λb o e=>AR _ e,zgx _ lo (hi-lo).toNat,?_,λb hb=>?_,q⟩
 .have e1:lo+((0:Nat):Int)*1=lo:=by simp
  have e2:(((hi-lo).toNat:Nat):Int)-((0:Nat):Int)=Gv lo hi 1:=by rw[rangeSize_one];split<;>lia
  show IsRangeIter _ _ (lo+((0:Nat):Int)*1) ((((hi-lo).toNat:Nat):Int)-((0:Nat):Int)) 1;rw[e1,e2];exact A0 _ rfl
 .have e:b=(s.heap.push {cls:=.type "range",data:=.fields #[.int lo t,.int hi u,.int 1 v]}).objs.size:=by simpa using hb
  subst e;exact I1.fpOk (AU _) (I1.hok.fresh (AU _))
def yd8(ta:TA):TI:=λσ H R=>ta σ H λvs H1=>∃j:Int,vs=[.int j]/\-(2^62)<=j/\j<2^62/\R (Itr 0 j.toNat) H1
theorem zhn{a:AT}{ta:TA}{p pos:CJ}(hg:Gl X "range")(hm:X.mg "range"=AD)(ha:PA X [a] ta)(hs:starEach [a] X.env=[(AC,eval a X.env)]:=by rfl):PI X tg (.Call (.Name "range" p) [a] [] pos) (yd8 ta):=by
 intro pins s σ H R I h;refine Call_ (zdJ I hg hm boot_range (Bw (thn (ha pos pins s σ H _ I h) λus s1 kq=>?_) hs rfl));let⟨vs,H1,I1,r1,q1⟩:=kq;let⟨j,e,q1,q2,q⟩:=q1;subst e
 cases r1 with
 |cons r rr=>
  cases rr
  let⟨t,rfl⟩:=r;exact call_range_1 (zjy I1 (by lia) (by lia) q1 q2 (by simpa using q))
def ygd(wi:TI)(g:TG)(tb:TS):TS:=λD σ H=>wi σ H λJ H1=>∃W:Nat->Nat->St->Hp->Prop,(∃m,W 0 m σ H1)/\∀i m σ H,W i m σ H ->
 (J.stop i H/\D.nx σ H) \/ (J.go i H/\∃N:St->Hp->Prop,(∀σ' H',N σ' H'->∃m',m' < m/\W (i+1) m' σ' H')/\∀x H',J.yld i H x H'->g x σ H' λσ2 H2=>tb {D with nx:=N,ct:=N,bk:=D.nx} σ2 H2)
def ybk(fp:List AI)(h:BB):List (AI×Bu):=fp.filterMap λb=>(h.get? b).map λo=>(b,o)
theorem zbg{fp:List AI}{h:BB}{b:AI}{o:Bu}(hb:b∈fp)(e:h.get? b=AA o):(b,o)∈ybk fp h:=Ds.mpr ⟨b,hb,by rw[e];rfl⟩
theorem zg8{fp:List AI}{h:BB}{p:AI×Bu}(hp:p∈ybk fp h):p.1∈fp/\h.get? p.1=AA p.2:=by
 let⟨b,hb,e⟩:=Ds.mp hp
 cases q:h.get? b with
 |none=>rw[q]at e;cases e
 |some o=>
  rw[q]at e;have e':(b,o)=p:=AY e;subst e';exact⟨hb,q⟩
theorem Inv.pinned{pins:List (AI×Bu)}{σ:St}{H:Hp}{s:AJ}{fp:List AI}(I:Inv X pins σ H s)(hf:∀b∈fp,ybs X pins H b)(ho:∀b∈fp,∃o,s.heap.get? b=AA o/\∀v,o.data ≠ .cell v):Inv X (pins++ybk fp s.heap) σ H s:=
 I.pins_of λp hp=>(Bb.mp hp).elim (λz=>I.pin p (BI _ z)) λz=>by
  let⟨hb,e⟩:=zg8 z;let⟨f0,f1,f2,_⟩:=hf p.1 hb;let⟨o,e',d⟩:=ho p.1 hb;rw[e]at e';cases e';exact⟨e,f0,f1,f2,d⟩
theorem Inv.unpinned{pins pl:List (AI×Bu)}{σ:St}{H:Hp}{s:AJ}(I:Inv X (pins++pl) σ H s):Inv X pins σ H s:=I.pins_of λp hp=>I.pin p (BI _ (FE _ hp))
theorem zmT{iter:AT}{body:List Bp}{wi:TI}{g:TG}{tb:TS}{pos:CJ}(hp:E8 (model X.prog X.w) X.A X.env X.xe)(hc:X.calm=AB)(hi:PI X tg iter wi)(hg:PG X tg g)(hb:PSs X body tb)
  (hs:∀x,foldedSetIterable iter X.env x=pure x:=by intro _;rfl):PS X (.For tg iter body [] pos) (ygd wi g tb):=by
 intro pins s σ H D I h;refine wpAny_For (thn (hi pins s σ H _ I h) λv s1 h1=>thn h1 λitv s2 h2=>?_) hs;let⟨it,fp,tn,J,H2,e,I2,T,st2,f2,W,⟨m0,w0⟩,turn⟩:=h2;subst e;have stat:∀{H':Hp},(∀b∈fp,H' b=AD)->∀b∈fp,ybs X pins H' b:=λhn b hb=>⟨hn b hb,(f2 b hb).2⟩;refine codeAny_forLoop_any (λn s'=>∃i σ' H',Inv X pins σ' H' s'/\tn i s'.heap/\(∀b∈fp,H' b=AD)/\W i n σ' H') ?_ m0 ⟨0,σ,H2,I2,st2,λb hb=>(f2 b hb).1,w0⟩
 rintro n s3 ⟨i,σ3,H3,I3,st3,fr3,w3⟩
 rcases turn i n σ3 H3 w3 with⟨stop,qn⟩|⟨go,N,hN,step⟩
 .refine CG hp (thn (T.done X rfl rfl rfl hc i pins s3 σ3 H3 X.xe I3 (stat fr3) st3 stop) λr s4 kq=>?_);let⟨hr,I4⟩:=kq;subst hr;exact D2 ⟨σ3,H3,I4,qn⟩
 .refine CG hp (thn (T.item X rfl rfl rfl hc i pins s3 σ3 H3 X.xe I3 (stat fr3) st3 go) λr s4 kq=>?_);let⟨u,hr,h4⟩:=kq;subst hr;refine CG hp (thn h4 λ_ s5 kq=>?_);let⟨x,H5,I5,r5,y5,st5,fr5⟩:=kq;have I5':=I5.pinned (stat fr5) (T.obj _ _ st5);refine CG hp (thn (hg _ s5 σ3 H5 x u _ I5' r5 (step x H5 y5)) λ_ s6 kq=>?_);let⟨σ6,H6,I6,q6⟩:=kq;refine CG hp (thn (hb _ s6 σ6 H6 _ I6 q6) λf s7 q7=>?_);have again:∀{σ7:St} {H7:Hp},Inv X (pins++ybk fp s5.heap) σ7 H7 s7->N σ7 H7->∃m,m<n/\∃i σ' H',Inv X pins σ' H' s7/\tn i s7.heap/\(∀b∈fp,H' b=AD)/\W i m σ' H':=λ{σ7 H7} I7 n7=>by
   let⟨m',hm,w7⟩:=hN σ7 H7 n7;refine⟨m',hm,i+1,σ7,H7,I7.unpinned,T.keep _ _ _ st5 λb hb o e=>(I7.pin (b,o) (BI _ (BI _ (zbg hb e)))).1,λb hb=>?_,w7⟩;let⟨o,e,d⟩:=T.obj _ _ st5 b hb;exact(I7.pin (b,o) (BI _ (BI _ (zbg hb e)))).2.1
  cases f with
  |next=>let⟨σ7,H7,I7,n7⟩:=q7;exact again I7 n7
  |cont=>let⟨σ7,H7,I7,n7⟩:=q7;exact again I7 n7
  |brk=>let⟨σ7,H7,I7,q7⟩:=q7;exact⟨σ7,H7,I7.unpinned,q7⟩
  |ret v=>let⟨x7,σ7,H7,I7,r7,q7⟩:=q7;exact⟨x7,σ7,H7,I7.unpinned,r7,q7⟩
end
abbrev R2:=V->V->Hp->VK->Prop
def OpR(X:Cx)(f:AG->AG->Gp AG)(r:R2):Prop:=
 ∀(pins:List (AI×Bu)) (s:AJ) (σ:St) (H:Hp) (x y:V) (v u:AG) (Q:VK),Inv X pins σ H s->RelV x v->RelV y u->r x y H Q ->
  A1 (model X.prog X.w) X.A (f v u) (EP X pins σ Q) X.xe s
def UnR(X:Cx)(f:AG->Gp AG)(r:V->Hp->VK->Prop):Prop:=
 ∀(pins:List (AI×Bu)) (s:AJ) (σ:St) (H:Hp) (x:V) (v:AG) (Q:VK),Inv X pins σ H s->RelV x v->r x H Q ->
  A1 (model X.prog X.w) X.A (f v) (EP X pins σ Q) X.xe s
def yae(X:Cx)(f:AG)(r:List V->Hp->VK->Prop):Prop:=
 ∀(pins:List (AI×Bu)) (s:AJ) (σ:St) (H:Hp) (xs:List V) (us:List AG) (Q:VK),Inv X pins σ H s->Vals xs us->r xs H Q ->
  A1 (model X.prog X.w) X.A (call f us) (EP X pins σ Q) X.xe s
def yfF(X:Cx)(r:V->Hp->(Bool->Hp->Prop)->Prop):Prop:=
 ∀(pins:List (AI×Bu)) (s:AJ) (σ:St) (H:Hp) (x:V) (v:AG) (Q:Bool->Hp->Prop),Inv X pins σ H s->RelV x v->r x H Q ->
  A1 (model X.prog X.w) X.A (truthy v) (TP X pins σ Q) X.xe s
def tOp(r:R2)(ta tb:TE):TE:=λσ H Q=>ta σ H λx H1=>tb σ H1 λy H2=>r x y H2 Q
def tUn(r:V->Hp->VK->Prop)(ta:TE):TE:=λσ H Q=>ta σ H λx H1=>r x H1 Q
def rI(C:Int->Int->Prop)(g:Int->Int->V):R2:=λx y H Q=>∃i j,x=.int i/\y=.int j/\C i j/\Q (g i j) H
def rI0(g:Int->Int->V):R2:=λx y H Q=>∃i j,x=.int i/\y=.int j/\Q (g i j) H
def rU(g:Int->V):V->Hp->VK->Prop:=λx H Q=>∃i,x=.int i/\Q (g i) H
section
variable {X:Cx}{a b c:AT}{ta tb tc:TE}{pos:CJ}
theorem yeN(ha:PE X a ta)(hb:PE X b tb){pins:List (AI×Bu)}{s:AJ}{σ:St}{H:Hp}{R:V->V->Hp->Prop}(I:Inv X pins σ H s)
  (h:ta σ H λx H1=>tb σ H1 λy H2=>R x y H2) {Q:AG->AJ->Prop} {f:AG->AG->Gp AG}
  (hf:∀v u s2 x y H2,Inv X pins σ H2 s2->RelV x v->RelV y u->R x y H2->A1 (model X.prog X.w) X.A (f v u) Q X.xe s2):
  A1 (model X.prog X.w) X.A (eval a X.env) (λv s₁=>A1 (model X.prog X.w) X.A (eval b X.env) (λu s₂=>A1 (model X.prog X.w) X.A (f v u) Q X.xe s₂) X.xe s₁) X.xe s:=by
 refine thn (ha pins s σ H _ I h) λv s1 kq=>?_;let⟨x,H1,I1,r1,q1⟩:=kq;refine thn (hb pins s1 σ H1 _ I1 q1) λu s2 kq=>?_;let⟨y,H2,I2,r2,q2⟩:=kq;exact hf v u s2 x y H2 I2 r1 r2 q2
theorem zpB{op:D0}{r:R2}(ho:OpR X (binaryOp op) r)(ha:PE X a ta)(hb:PE X b tb):PE X (.BinOp a op b pos) (tOp r ta tb):=by
 intro pins s σ H Q I h;exact wpAny_BinOp (yeN ha hb I h λv u s2 x y H2 I2 rx ry q=>ho pins s2 σ H2 x y v u Q I2 rx ry q)
theorem zo5{op:UnaryOp}{r:V->Hp->VK->Prop}(ho:UnR X (unaryOp op) r)(ha:PE X a ta):PE X (.UnaryOp op a pos) (tUn r ta):=by
 intro pins s σ H Q I h;exact UnaryOp_ (thn (ha pins s σ H _ I h) λv s1 ⟨x,H1,I1,r1,q1⟩=>ho pins s1 σ H1 x v Q I1 r1 q1)
theorem opI{f:AG->AG->Gp AG}{C:Int->Int->Prop}{g:Int->Int->Int}
  (rule:∀(i j:Int) (t u:He) (s:AJ) (Q:AG->AJ->Prop) (E:AG->AJ->Prop),C i j->Q (.int (g i j) s.toks) {s with toks:=s.toks+1}->A1 (model X.prog X.w) X.A (f (.int i t) (.int j u)) Q E s):
  OpR X f (rI C λi j=>.int (g i j)):=by
 intro pins s σ H x y v u Q I rx ry h;let⟨i,j,rfl,rfl,hc,q⟩:=h;let⟨t,rfl⟩:=rx;let⟨t',rfl⟩:=ry;exact rule i j t t' s _ _ hc ⟨.int (g i j),H,I.tok _,⟨_,rfl⟩,q⟩
theorem ydv{f:AG->AG->Gp AG}{g:Int->Int->Int}
  (rule:∀(i j:Int) (t u:He) (s:AJ) (Q:AG->AJ->Prop) (E:AG->AJ->Prop),Q (.int (g i j) s.toks) {s with toks:=s.toks+1}->A1 (model X.prog X.w) X.A (f (.int i t) (.int j u)) Q E s):
  OpR X f (rI0 λi j=>.int (g i j)):=by
 intro pins s σ H x y v u Q I rx ry h;let⟨i,j,rfl,rfl,q⟩:=h;let⟨t,rfl⟩:=rx;let⟨t',rfl⟩:=ry;exact rule i j t t' s _ _ ⟨.int (g i j),H,I.tok _,⟨_,rfl⟩,q⟩
theorem ydQ{f:AG->AG->Gp AG}{g:Int->Int->Bool}
  (rule:∀(i j:Int) (t u:He) (s:AJ) (Q:AG->AJ->Prop) (E:AG->AJ->Prop),Q (.bool (g i j)) s->A1 (model X.prog X.w) X.A (f (.int i t) (.int j u)) Q E s):
  OpR X f (rI0 λi j=>.bl (g i j)):=by
 intro pins s σ H x y v u Q I rx ry h;let⟨i,j,rfl,rfl,q⟩:=h;let⟨t,rfl⟩:=rx;let⟨t',rfl⟩:=ry;exact rule i j t t' s _ _ ⟨.bl (g i j),H,I,rfl,q⟩
def ydW(i j:Int):Prop:=0<=j/\j<=1000000/\i.natAbs<2^64
def ydp(i j:Int):Prop:=(-(2^64)<i/\i<2^64) \/ (-(2^64)<j/\j<2^64)
theorem ydp.ok{i j:Int}(h:ydp i j):IntMulOk i j:=by
 rcases h with⟨h1,h2⟩|⟨h1,h2⟩
 .exact .of_left (intBits_le_64 h1 h2)
 .exact .of_right (intBits_le_64 h1 h2)
theorem zgV(k:Nat):(0:Int)<=2^k:=by
 rw[two_pow_cast];exact Int.natCast_nonneg _
theorem zoq:OpR X (binaryOp .Add) (rI0 λi j=>.int (i+j)):=ydv λ_ _ _ _ _ _ _ q=>add_int q
theorem zmY:OpR X (binaryOp .Sub) (rI0 λi j=>.int (i-j)):=ydv λ_ _ _ _ _ _ _ q=>sub_int q
theorem znd:OpR X (binaryOp .Mult) (rI ydp λi j=>.int (i*j)):=opI λ_ _ _ _ _ _ _ hc q=>mul_int q hc.ok
theorem znE:OpR X (binaryOp .Mod) (rI (λ_ j=>0<j) λi j=>.int (i%j)):=opI λi j _ _ _ _ _ hc q=>by
 have h1:(0:Int)<j:=hc;exact mod_int' (by lia) (by rw[Int.fmod_eq_emod_of_nonneg i (by lia)];exact q)
theorem zoo:OpR X (binaryOp .Pow) (rI ydW λi j=>.int (i^j.toNat)):=opI λ_ _ _ _ _ _ _ hc q=>pow_int_small hc.1 hc.2.1 hc.2.2 q
theorem zoP:OpR X (binaryOp .LShift) (rI ydW λi j=>.int (i*2^j.toNat)):=opI λ_ _ _ _ _ _ _ hc q=>lshift_int_small hc.1 hc.2.1 hc.2.2 q
theorem zok:OpR X (binaryOp .RShift) (rI (λ_ j=>0<=j) λi j=>.int (i/2^j.toNat)):=opI λi j _ _ _ _ _ hc q=>
 rshift_int hc (by rw[Dt i (zgV _)];exact q)
theorem znq:OpR X (binaryOp .BitAnd) (rI0 λi j=>.int (Al i j)):=ydv λ_ _ _ _ _ _ _ q=>and_int q
theorem zpc:OpR X (binaryOp .BitOr) (rI0 λi j=>.int (B0 i j)):=ydv λ_ _ _ _ _ _ _ q=>or_int q
theorem zoy:OpR X (binaryOp .BitXor) (rI0 λi j=>.int (Bl i j)):=ydv λ_ _ _ _ _ _ _ q=>xor_int q
theorem unI{f:AG->Gp AG}{g:Int->Int}
  (rule:∀(i:Int) (t:He) (s:AJ) (Q:AG->AJ->Prop) (E:AG->AJ->Prop),Q (.int (g i) s.toks) {s with toks:=s.toks+1}->A1 (model X.prog X.w) X.A (f (.int i t)) Q E s):
  UnR X f (rU λi=>.int (g i)):=by
 intro pins s σ H x v Q I rx h;let⟨i,rfl,q⟩:=h;let⟨t,rfl⟩:=rx;exact rule i t s _ _ ⟨.int (g i),H,I.tok _,⟨_,rfl⟩,q⟩
theorem zmO:UnR X (unaryOp .USub) (rU λi=>.int (-i)):=unI λ_ _ _ _ _ q=>neg_int q
theorem zik:OpR X (binaryOp .Add) (λx y H Q=>∃i k,x=.int i/\y=.bl k/\Q (.int (i+b2i k)) H):=by
 intro pins s σ H x y v u Q I rx ry h;let⟨i,k,rfl,rfl,q⟩:=h;let⟨t,rfl⟩:=rx
 cases ry
 exact add_int_bool ⟨.int (i+b2i k),H,I.tok _,⟨_,rfl⟩,q⟩
end
section
variable {X:Cx}{a b c:AT}{ta tb tc:TE}{pos:CJ}
theorem zgX{pins:List (AI×Bu)}{σ:St}{H:Hp}{s:AJ}{Q:VK}{k k':Bool}(I:Inv X pins σ H s)(q:Q (.bl k) H)(e:k=k'):EP X pins σ Q (.bool k') s:=by
 subst e;exact⟨.bl k,H,I,rfl,q⟩
theorem zpo:OpR X (compareOp .Lt) (rI0 λi j=>.bl (decide (i<j))):=ydQ λ_ _ _ _ _ _ _ q=>lt_int q
theorem zpy:OpR X (compareOp .LtE) (rI0 λi j=>.bl (decide (i<=j))):=ydQ λ_ _ _ _ _ _ _ q=>le_int q
theorem zo2:OpR X (compareOp .Gt) (rI0 λi j=>.bl (decide (j<i))):=ydQ λ_ _ _ _ _ _ _ q=>gt_int q
theorem zpl:OpR X (compareOp .GtE) (rI0 λi j=>.bl (decide (j<=i))):=ydQ λ_ _ _ _ _ _ _ q=>ge_int q
theorem zhE:OpR X (compareOp .Lt) (λx y H Q=>∃i j,x=.str i/\y=.str j/\Q (.bl (decide (i.cps.toList<j.cps.toList))) H):=by
 intro pins s σ H x y v u Q I rx ry h;let⟨i,j,rfl,rfl,q⟩:=h;let⟨t,rfl⟩:=rx;let⟨t',rfl⟩:=ry;exact lt_str (zgX I q rfl)
theorem ziK:OpR X (compareOp .In) (λx y H Q=>∃i j,x=.str i/\y=.str j/\Q (.bl (!(E9 j i 0 j.length 1).isEmpty)) H):=by
 intro pins s σ H x y v u Q I rx ry h;let⟨i,j,rfl,rfl,q⟩:=h;let⟨t,rfl⟩:=rx;let⟨t',rfl⟩:=ry;exact in_str (zgX I q rfl)
theorem zg1{op:FZ}{r:R2}(ho:OpR X (compareOp op) r)(ha:PE X a ta)(hb:PE X b tb)(hm:behindInMarks op b=AC):PE X (.Compare a [op] [b] pos) (tOp r ta tb):=by
 intro pins s σ H Q I h;exact wpAny_Compare1 (yeN ha hb I h λv u s2 x y H2 I2 rx ry q=>ho pins s2 σ H2 x y v u Q I2 rx ry q) hm
def yc9(t:TE):TT:=λσ H Q=>t σ H λx H'=>∃k,x=.bl k/\Q k H'
theorem zl4{op:FZ}{r:R2}(ho:OpR X (compareOp op) r)(ha:PE X a ta)(hb:PE X b tb)(hm:behindInMarks op b=AC):PT X (.Compare a [op] [b] pos) (yc9 (tOp r ta tb)):=by
 intro pins s σ H Q I h;refine wpAny_isTrue_Compare1 (thn (ha pins s σ H _ I h) λv s1 ⟨x,H1,I1,r1,q1⟩=>thn (hb pins s1 σ H1 _ I1 q1) λu s2 ⟨y,H2,I2,r2,q2⟩=>
  thn (ho pins s2 σ H2 x y v u _ I2 r1 r2 q2) λc s3 ⟨z,H3,I3,r3,k,e,q3⟩=>?_) hm
 subst e
 cases r3
 exact BV ⟨H3,I3,q3⟩
def ycp(r r':R2)(ta tb tc:TE):TE:=λσ H Q=>ta σ H λx H1=>tb σ H1 λy H2=>r x y H2 λz H3=>∃k,z=.bl k /\
 (if k=AB then tc σ H3 λw' H4=>r' y w' H4 Q else Q (.bl AC) H3)
theorem zjp{op op':FZ}{r r':R2}(ho:OpR X (compareOp op) r)(ho':OpR X (compareOp op') r')(ha:PE X a ta)(hb:PE X b tb)(hc:PE X c tc)
  (hm:lastMarks [op,op'] [b,c]=false:=by ac_rfl):PE X (.Compare a [op,op'] [b,c] pos) (ycp r r' ta tb tc):=by
 intro pins s σ H Q I h;refine Compare_chain (thn (ha pins s σ H _ I h) λv s1 ⟨x,H1,I1,r1,q1⟩=>chain_link (thn (hb pins s1 σ H1 _ I1 q1) λu s2 ⟨y,H2,I2,r2,q2⟩=>
  thn (ho pins s2 σ H2 x y v u _ I2 r1 r2 q2) λd s3 ⟨z,H3,I3,r3,k,e,q3⟩=>?_)) hm
 subst e
 cases r3
 refine BV ?_
 cases k with
 |false=>exact ite_ff ⟨.bl AC,H3,I3,rfl,q3⟩
 |true=>exact ite_tt (chain_last (thn (hc pins s3 σ H3 _ I3 q3) λw' s4 ⟨z',H4,I4,r4,q4⟩=>ho' pins s4 σ H4 y z' u w' Q I4 r2 r4 q4))
theorem zjI{op op':FZ}{r r':R2}(ho:OpR X (compareOp op) r)(ho':OpR X (compareOp op') r')(ha:PE X a ta)(hb:PE X b tb)(hc:PE X c tc)
  (hm:lastMarks [op,op'] [b,c]=false:=by ac_rfl):PT X (.Compare a [op,op'] [b,c] pos) (yc9 (ycp r r' ta tb tc)):=by
 intro pins s σ H Q I h;refine isTrue_chain (thn (ha pins s σ H _ I h) λv s1 ⟨x,H1,I1,r1,q1⟩=>test_link (thn (hb pins s1 σ H1 _ I1 q1) λu s2 ⟨y,H2,I2,r2,q2⟩=>
  thn (ho pins s2 σ H2 x y v u _ I2 r1 r2 q2) λd s3 ⟨z,H3,I3,r3,k,e,q3⟩=>?_)) hm
 subst e
 cases r3
 refine BV ?_
 cases k with
 |false=>
  let⟨k',e',q'⟩:=q3
  cases e'
  exact ite_ff ⟨H3,I3,q'⟩
 |true=>
  refine ite_tt (test_last (thn (hc pins s3 σ H3 _ I3 q3) λw' s4 kq=>?_));let⟨z',H4,I4,r4,q4⟩:=kq;refine thn (ho' pins s4 σ H4 y z' u w' _ I4 r2 r4 q4) λd' s5 kq=>?_;let⟨z2,H5,I5,r5,k2,e2,q5⟩:=kq;subst e2
  cases r5
  exact BV ⟨H5,I5,q5⟩
def yea(K:AE)(x:V)(H:Hp)(k:Bool):Prop:=
 match x with
 |.non=>k=AC
 |.bl b=>k=b
 |.int i=>k=(i != 0)
 |.str y=>y.length<=sizeLine/\k=((y.length:Int) != 0)
 |.byt y=>y.size<=sizeLine/\k=((y.size:Int) != 0)
 |.ref p=>(∃xs,SqL K H p xs/\k=!xs.isEmpty) \/ (∃xs,SqT K H p xs/\k=!xs.isEmpty) \/ ∃kvs,H p=AA (.dK kvs)/\k=!kvs.isEmpty
 |_=>False
theorem zgE{κ:Type}{kvs:List (κ×V)}{vs:List (κ×AG)}(r:KV kvs vs):(!vs.isEmpty)=!kvs.isEmpty:=by
 cases r<;>rfl
theorem zdx{xs:List V}{its:List AG}(r:Vals xs its):(!its.toArray.isEmpty)=!xs.isEmpty:=by
 cases r<;>simp
theorem yaV:(sizeLine:Nat)<2^63:=by rw[D1];decide
theorem zoQ:yfF X (λx H Q=>∃k,yea X.K x H k/\Q k H):=by
 intro pins s σ H x v Q I rx h;let⟨k,e,q⟩:=h;have hl:=yaV;have hs:sizeLine=16777216:=D1
 cases x with
 |non=>
  cases rx
  have e':k=false:=e;subst e';exact truthy_none ⟨H,I,q⟩
 |bl b=>
  cases rx
  have e':k=b:=e;subst e';exact BV ⟨H,I,q⟩
 |int i=>
  let⟨t,rfl⟩:=rx;have e':k=(i != 0):=e;subst e';exact PySem.P.truthy_int ⟨H,I,q⟩
 |str y=>
  let⟨t,rfl⟩:=rx;obtain⟨hy,e'⟩:y.length<=sizeLine/\k=((y.length:Int) != 0):=e;subst e';exact PySem.P.truthy_str (by lia) ⟨H,I.tok _,q⟩
 |byt y=>
  let⟨t,rfl⟩:=rx;obtain⟨hy,e'⟩:y.size<=sizeLine/\k=((y.size:Int) != 0):=e;subst e';exact PySem.W.truthy_bytes (by lia) ⟨H,I.tok _,q⟩
 |ref p=>
  cases rx
  have e':(∃xs,SqL X.K H p xs/\k=!xs.isEmpty) \/ (∃xs,SqT X.K H p xs/\k=!xs.isEmpty) \/ ∃kvs,H p=AA (.dK kvs)/\k=!kvs.isEmpty:=e;rcases e' with⟨xs,hx,e'⟩|⟨xs,hx,e'⟩|⟨kvs,hx,e'⟩
  .subst e';let⟨its,r,pl,hz⟩:=I.list hx;have hlen:=r.length;exact wpAny_truthy_list pl.isList (by erw[AZ];lia) ⟨H,I.tok _,by rw[zdx r];exact q⟩
  .subst e';let⟨its,r,pl,hz⟩:=I.tuple hx;have hlen:=r.length;exact truthy_tuple pl (by erw[AZ];lia) ⟨H,I.tok _,by rw[zdx r];exact q⟩
  .subst e';obtain⟨hz,hS,vs,r,m⟩:kvs.length<=sizeLine/\(p==sysModules)=AC/\∃vs,KV kvs vs/\s.heap.DictOf (yN X.prog X.w) p vs:=I.hok p _ hx;have hlen:kvs.length=vs.length:=EV r;exact wpAny_truthy_dict hS m (by lia) ⟨H,I.tok _,by rw[zgE r];exact q⟩
 |_=>exact(show False from e).elim
theorem zjv(ha:PE X a ta)(he:∀whole,isTrue a X.env whole=(do let v <-whole;standAt a.pos;holding [v] (truthy v))):
  PT X a (λσ H Q=>ta σ H λx H'=>∃k,yea X.K x H' k/\Q k H'):=by
 intro pins s σ H Q I h;exact isTrue_plain (thn (ha pins s σ H _ I h) λv s1 ⟨x,H1,I1,r1,q1⟩=>zoQ pins s1 σ H1 x v Q I1 r1 q1) (he _)
theorem zgz:OpR X (binaryOp .Add) (λx y H Q=>∃i j,x=.str i/\y=.str j/\i.length+j.length<=sizeLine/\Q (.str (i++j)) H):=by
 intro pins s σ H x y v u Q I rx ry h;let⟨i,j,rfl,rfl,hz,q⟩:=h;let⟨t,rfl⟩:=rx;let⟨t',rfl⟩:=ry;exact add_str (λt' tk=>⟨.str (i++j),H,I.tok _,⟨_,rfl⟩,q⟩) hz
theorem vals1{x:V}{us:List AG}(r:Vals [x] us):∃u,us=[u]/\RelV x u:=by
 cases r with
 |cons r1 r2=>cases r2;exact⟨_,rfl,r1⟩
theorem vals2{x y:V}{us:List AG}(r:Vals [x,y] us):∃u w',us=[u,w']/\RelV x u/\RelV y w':=by
 cases r with
 |cons r1 r2=>
  cases r2 with
  |cons r3 r4=>cases r4;exact⟨_,_,rfl,r1,r3⟩
theorem ziW:yae X (.builtin "abs") (λxs H Q=>∃i,xs=[.int i]/\Q (.int (if i<0 then -i else i)) H):=by
 intro pins s σ H xs us Q I r h;let⟨i,rfl,q⟩:=h;let⟨u,rfl,t,rfl⟩:=vals1 r;exact call_abs_int λu tk=>⟨.int (if i<0 then -i else i),H,I.tok _,⟨_,rfl⟩,q⟩
theorem ziM(hc:X.calm=AB):yae X (.builtin "max") (λxs H Q=>∃i j,xs=[.int i,.int j]/\Q (.int (if j > i then j else i)) H):=by
 intro pins s σ H xs us Q I r h;let⟨i,j,rfl,q⟩:=h;let⟨u,w',rfl,⟨t,rfl⟩,⟨t',rfl⟩⟩:=vals2 r;refine max_two_ints (I.ok.hd hc) λh' tk k=>⟨_,H,I.kept k,?_,q⟩
 by_cases hj:j > i
 .rw[if_pos hj,if_pos hj];exact⟨_,rfl⟩
 .rw[if_neg hj,if_neg hj];exact⟨_,rfl⟩
theorem ziN(hc:X.calm=AB):yae X (.builtin "min") (λxs H Q=>∃i j,xs=[.int i,.int j]/\Q (.int (if j<i then j else i)) H):=by
 intro pins s σ H xs us Q I r h;let⟨i,j,rfl,q⟩:=h;let⟨u,w',rfl,⟨t,rfl⟩,⟨t',rfl⟩⟩:=vals2 r;refine min_two_ints (I.ok.hd hc) λh' tk k=>⟨_,H,I.kept k,?_,q⟩
 by_cases hj:j<i
 .rw[if_pos hj,if_pos hj];exact⟨_,rfl⟩
 .rw[if_neg hj,if_neg hj];exact⟨_,rfl⟩
theorem zfe:yae X (.type "int") (λxs H Q=>(∃i,xs=[.int i]/\Q (.int i) H) \/ ∃k,xs=[.bl k]/\Q (.int (if k then 1 else 0)) H):=by
 intro pins s σ H xs us Q I r h;rcases h with⟨i,rfl,q⟩|⟨k,rfl,q⟩
 .let⟨u,rfl,t,rfl⟩:=vals1 r;exact call_int_int ⟨.int i,H,I,⟨_,rfl⟩,q⟩
 .let⟨u,rfl,r1⟩:=vals1 r
  cases r1
  exact call_int_bool ⟨.int (if k then 1 else 0),H,I.tok _,⟨_,rfl⟩,q⟩
end
structure ycO(h:BB)(x dx C:AI)(mA:AQ->Option AG):Prop where
 obj:h.get? x=AA (Bs C dx)
 ns:h.Ns1 dx mA
 ne:dx≠x
theorem zif{h:BB}{dx:AI}{mA:AQ->Option AG}(n:h.Ns1 dx mA):∃od,h.get? dx=AA od/\∀name,Du name od=AA (mA name):=by
 let⟨o,es,ep,ho,hd,hk,_,hm⟩:=n;refine⟨o,ho,λname=>?_⟩;have e:=hm name;unfold nsFind findBy at e;rw[<-Array.find?_toList]at e;unfold Du;rw[hd];dsimp only;split
 .rename_i y q;rw[q]at e;exact congrArg AA e
 .rename_i q;rw[q]at e;have a:es.toList.any (·.refKey)=false:=by
   rw[List.any_eq_false];intro y hy;let⟨z,t,hkey⟩:=hk y (Array.mem_toList_iff.mp hy);simp[DictEntry.refKey,hkey]
  have a':¬es.toList.any (·.refKey)=true:=by rw[a];exact Az
  rw[if_neg a'];exact congrArg AA e
theorem ycO.look{h:BB}{x dx C:AI}{mA:AQ->Option AG}(I:ycO h x dx C mA):∃od,PySem.W.InstAt h x (Bs C dx) C (AA od)/\∀name,Du name od=AA (mA name):=
 let ⟨od,ho,hl⟩:=zif I.ns
 ⟨od,⟨I.obj,rfl,rfl,ho⟩,hl⟩
section
variable {prog:A8}{w:Aj}{A:Ao}{E:AG->AJ->Prop}{s:AJ}{K:AE}{x dx C f:AI}{mA:AQ->Option AG}{name:AQ}{v:AG}
theorem zlE{expr:Bool}{Q:AG->AJ->Prop}(X:K.In s.heap)(I:ycO s.heap x dx C mA)(hg:Cj K C name=AB)(hh:DC K C=AB)
  (ha:Av K (.ref C) name=AA AD) (hv:mA name=AA v) (hv':GL v=AB) (h:Q v {s with toks:=s.toks+1}):
  A1 (model prog w) A (getAttr (.ref x) name expr) Q E s:=by
 let⟨od,J,hl⟩:=I.look;exact PySem.W.get_value X J (Db hg).1 (PySem.W.findObj_own hh ha rfl (by rw[hl,hv])) hv' h
theorem zi6{pl:Gp Bool}{Q:AG×List AG->AJ->Prop}(X:K.In s.heap)(I:ycO s.heap x dx C mA)(hg:Cj K C name=AB)
  (hf:Av K (.ref C) name=AA (AA (.ref f))) (ht:Ck K (.ref f)=AB) (hv:mA name=AD) (h:Q (.ref f,[.ref x]) s):
  A1 (model prog w) A (getMethod (.ref x) name pl) Q E s:=by
 let⟨od,J,hl⟩:=I.look;exact PySem.W.method_fn X J (Db hg).1 (Db hg).2 hf (beq_iff_eq.mp ht) (by show (Du name od).map (·.isSome)=AA AC;rw[hl,hv];rfl) h
theorem zmy{ns:List AQ}{Q:Unit->AJ->Prop}(X:K.In s.heap)(I:ycO s.heap x dx C mA)
  (hs:Av K (.ref C) "__setattr__"=AA (AA (.builtin "object.__setattr__"))) (hp:EL K C=AB) (ht:Ew K C name=AA AD) (hh:DC K C=AB)
  (hw:Ff mA ns) (hsz:ns.length<=sizeLine)
  (h:∀h',ycO h' x dx C (λy=>if y=name then AA v else mA y)->C0 dx s.heap h'->Q () {s with heap:=h',toks:=s.toks+2}):
  A1 (model prog w) A (setAttr (.ref x) name v) Q E s:=by
 let⟨od,J,hl⟩:=I.look;refine PySem.W.set_plain X J hs (PySem.W.osa_open (s:={s with toks:=s.toks+1}) (r:=AD) X J hp ht λb=>?_);let⟨cd,hc,hd'⟩:=PySem.W.any_some hh;have hx:s.heap.get? x=AA ⟨.ref C,AA dx,.plain,#[]⟩:=I.obj;refine AH (AV (AH (AH (wpAny_loadPart hx (AH (HX (s:={s with toks:=s.toks+1}) (PySem.W.looks_clsIn X hc) ?_))))));rw[hd'];refine AV (a:=AA dx) (AH (AV (AH ?_)));refine wpAny_nsSet1 (s:={s with toks:=s.toks+1}) I.ns λh' hn2 hs2=>?_;let⟨oD,esD,epD,hoD,hdD,hcD⟩:=hn2.count (Hc name v hw);refine AH (wpAny_lookBehind hoD (by rw[hdD];exact pastItsLine_dict (BO hcD (by rw[AS];lia))) ?_);exact AV (h _ ⟨(hs2.2 _ (BL I.ne)).trans I.obj,hn2,I.ne⟩ hs2)
theorem zjg{R:Gd->AJ->Prop}{vs:List AG}{kw:List (AQ×AG)}(X:K.In s.heap)(hm:D3 K C=AB)
  (hi:Av K (.ref C) "__init__"=AA (AA (.ref f))) (hf:PySem.W.typeIn K (.ref f)=AA (.type "function"))
  (h:codeAny (model prog w) (A.under (.builtin "type.__call__" ⟨.ref C::vs,kw⟩)) (.call (.ref f) ⟨.ref (s.heap.objs.size+1)::vs,kw⟩) (PySem.W.InitBack (s.heap.objs.size+1) R)
   {s with heap:=(s.heap.push B5).push (Bs C s.heap.objs.size)}):
  codeAny (model prog w) A (.call (.ref C) ⟨vs,kw⟩) R s:=by
 let⟨hh,g,d,t,os⟩:=s;exact PySem.W.make_core (PySem.W.makes_of X hm) (PySem.W.looks_findIn X hi) (λself=>PySem.W.bind_fn X self hf) (.inl rfl) h
end
def ya0(f:AQ)(v:V):List (AQ×V)->List (AQ×V)
 |[]=>[(f,v)]
 |(g,x)::r=>if g=f then(g,v)::r else(g,x)::ya0 f v r
theorem zc2(f g:AQ)(v:V):∀fs:List (AQ×V),(ya0 f v fs).lookup g=if g=f then AA v else fs.lookup g
 |[]=>by
  show Bn g [(f,v)]=_
  by_cases h:g=f
  .have hb:(g==f)=true:=beq_iff_eq.mpr h;erw[Bn,hb,if_pos h]
  .have hb:(g==f)=false:=beq_eq_false_iff_ne.mpr h;erw[Bn,hb,if_neg h]
 |(k,x)::r=>by
  have ih:=zc2 f g v r;rw[show ya0 f v ((k,x)::r)=(if k=f then(k,v)::r else(k,x)::ya0 f v r)from rfl]
  by_cases hk:k=f
  .rw[if_pos hk]
   by_cases h:g=k
   .have hb:(g==k)=true:=beq_iff_eq.mpr h;erw[Bn,hb,if_pos (h.trans hk)]
   .have hb:(g==k)=false:=beq_eq_false_iff_ne.mpr h;erw[Bn,hb,if_neg (λe:g=f=>h (e.trans hk.symm))]
  .rw[if_neg hk]
   by_cases h:g=k
   .have hb:(g==k)=true:=beq_iff_eq.mpr h;erw[Bn,hb,if_neg (λe:g=f=>hk (h.symm.trans e))]
   .have hb:(g==k)=false:=beq_eq_false_iff_ne.mpr h;erw[Bn,hb];exact ih
theorem zdf(f:AQ)(v:V):∀fs:List (AQ×V),f∈(ya0 f v fs).map (·.1)/\∀g,g∈fs.map (·.1)->g∈(ya0 f v fs).map (·.1)
 |[]=>⟨by simp[ya0],λg h=>by simp at h⟩
 |(k,x)::r=>by
  let⟨i1,i2⟩:=zdf f v r;rw[show ya0 f v ((k,x)::r)=(if k=f then(k,v)::r else(k,x)::ya0 f v r)from rfl]
  by_cases hk:k=f
  .rw[if_pos hk];subst hk;exact⟨by simp,λg h=>by simpa using h⟩
  .rw[if_neg hk];refine⟨?_,λg h=>?_⟩
   .rw[AL];exact AX _ i1
   .rw[AL]at h ⊢;rcases A3.mp h with e|e
    .exact A3.mpr (.inl e)
    .exact AX _ (i2 g e)
theorem zdk(f:AQ)(v:V):∀fs:List (AQ×V),(ya0 f v fs).length<=fs.length+1
 |[]=>by simp[ya0]
 |(k,x)::r=>by
  have ih:=zdk f v r;rw[show ya0 f v ((k,x)::r)=(if k=f then(k,v)::r else(k,x)::ya0 f v r)from rfl]
  by_cases hk:k=f
  .rw[if_pos hk,AS,AS];lia
  .rw[if_neg hk,AS,AS];lia
theorem ybp.some_of{v:V}{o:Option AG}(r:ybp (AA v) o):∃u,o=AA u/\RelV v u:=by
 cases o with
 |none=>exact(show False from r).elim
 |some u=>exact⟨u,rfl,r⟩
theorem ybp.none_of{o:Option AG}(r:ybp AD o):o=none:=by
 cases o with
 |none=>rfl
 |some u=>exact(show False from r).elim
theorem ziE{v:V}{u:AG}(r:RelV v u):GL u=true:=by
 cases v with
 |non=>cases (show u=Bz from r);rfl
 |bl b=>cases (show u=Do b from r);rfl
 |int i=>let⟨t,e⟩:=(show ∃t,u=EZ i t from r);cases e;rfl
 |str x=>let⟨t,e⟩:=(show ∃t,u=GH x t from r);cases e;rfl
 |byt b=>let⟨t,e⟩:=(show ∃t,u=HK b t from r);cases e;rfl
 |flt b=>let⟨t,e⟩:=(show ∃t,u=HL b t from r);cases e;rfl
 |ref a=>cases (show u=Ah a from r);rfl
 |ty n=>cases (show u=F8 n from r);rfl
section
variable {P:A8}{w:Aj}{H H':Hp}{h h':BB}{a C dx:AI}{fs fs':List (AQ×V)}
theorem zfv(hok:HOk P w H h)(e:H a=AA (.ins C dx fs)):∃mA,ycO h a dx C mA/\(∀f,ybp (fs.lookup f) (mA f))/\Ff mA (fs.map (·.1))/\fs.length<=1000/\H dx=AA (.own a):=by
 let⟨d,z,ne,ob,mA,n,r,q⟩:=(show yV P w H h a (.ins C dx fs)from hok a _ e);exact⟨mA,⟨ob,n,ne⟩,r,q,z,d⟩
end
structure Cls(K:AE)(C:AI):Prop where
 pg:Cj K C GM=AB
 hd:DC K C=AB
 po:EL K C=AB
 sa:Av K (.ref C) "__setattr__"=AA (AA (.builtin "object.__setattr__"))
theorem Cls.get{K:AE}{C:AI}(c:Cls K C)(f:AQ):Cj K C f=true:=c.pg
def yau(K:AE)(C:AI)(f:AQ):Prop:=Av K (.ref C) f=AA AD
theorem yau.taker{K:AE}{C:AI}{f:AQ}(n:yau K C f):Ew K C f=AA none:=by
 unfold Ew;rw[show Av K (.ref C) f=AA AD from n];rfl
structure Con(K:AE)(C:AI)(f:AQ)(v:V)(u:AG):Prop where
 at_:Av K (.ref C) f=AA (AA u)
 rel:RelV v u
 get:PySem.W.specialIn K u "__get__"=AA AD
 cp:PySem.W.copiedNames.contains f=AC
structure Meth(K:AE)(C:AI)(m:AQ)(f:AI):Prop where
 at_:Av K (.ref C) m=AA (AA (.ref f))
 fn:Ck K (.ref f)=AB
 kp:Ap K (.ref f)=AB
section
variable {X:Cx}{pins:List (AI×Bu)}{σ:St}{H:Hp}{s:AJ}{a C dx:AI}{fs:List (AQ×V)}{f:AQ}{v:V}{A:Ao}{E:AG->AJ->Prop}
theorem zdt{b:Bool}{Q:AG->AJ->Prop}(I:Inv X pins σ H s)(e:H a=AA (.ins C dx fs))(c:Cls X.K C)(n:yau X.K C f)(l:fs.lookup f=AA v)
  (h:∀u s',Inv X pins σ H s'->RelV v u->Q u s'):A1 (model X.prog X.w) A (getAttr (.ref a) f b) Q E s:=by
 let⟨mA,O,r,_,_,_⟩:=zfv I.hok e;let⟨u,hu,ru⟩:=ybp.some_of (v:=v) (o:=mA f) (by rw[<-l];exact r f);exact zlE I.kIn O (c.get f) c.hd n hu (ziE ru) (h u _ (I.tok _) ru)
theorem zdM{m:AQ}{g:AI}{pl:Gp Bool}{Q:AG×List AG->AJ->Prop}(I:Inv X pins σ H s)(e:H a=AA (.ins C dx fs))(c:Cls X.K C)(k:Meth X.K C m g)(l:fs.lookup m=AD)
  (h:Q (.ref g,[.ref a]) s):A1 (model X.prog X.w) A (getMethod (.ref a) m pl) Q E s:=by
 let⟨mA,O,r,_,_,_⟩:=zfv I.hok e;have hn:mA m=none:=ybp.none_of (by rw[<-l];exact r m);exact zi6 I.kIn O (c.get m) k.at_ k.fn hn h
theorem zdP{y:V}{u:AG}{Q:Unit->AJ->Prop}(I:Inv X pins σ H s)(e:H a=AA (.ins C dx fs))(c:Cls X.K C)(n:yau X.K C f)(hl:fs.length<1000)(ry:RelV y u)
  (h:∀s',Inv X pins σ (upd H a (.ins C dx (ya0 f y fs))) s'->Q () s'):A1 (model X.prog X.w) A (setAttr (.ref a) f u) Q E s:=by
 let⟨mA,O,r,wi,_,ho⟩:=zfv I.hok e;have hz:(fs.map (·.1)).length<=sizeLine:=by rw[BD,D1];lia
 refine zmy I.kIn O c.sa c.po n.taker c.hd wi hz λh' O' sb=>h _ ?_;have hd:∃o,h'.get? dx=AA o:=let ⟨o,_,_,e',_⟩:=O'.ns;⟨o,e'⟩
 refine I.write (x:=a) (e:=dx) (by rw[e];exact C1) (.inr ho) (λb q hb z=>(sb.2 b hb).trans z) hd ?_;refine⟨by rw[zh O.ne];exact ho,?_,O.ne,O'.obj,_,O'.ns,λg=>?_,λg hg=>?_⟩
 .have:=zdk f y fs;lia
 .show ybp ((ya0 f y fs).lookup g) (if g=f then AA u else mA g);rw[zc2]
  by_cases q:g=f
  .rw[if_pos q,if_pos q];exact ry
  .rw[if_neg q,if_neg q];exact r g
 .by_cases q:g=f
  .rw[q];exact(zdf f y fs).1
  .refine(zdf f y fs).2 g (wi g λz=>hg ?_);show (if g=f then AA u else mA g)=AD;rw[if_neg q];exact z
theorem Inv.made(I:Inv X pins σ H s):Inv X pins σ (upd (upd H s.heap.objs.size (.own (s.heap.objs.size+1))) (s.heap.objs.size+1) (.ins C s.heap.objs.size []))
  {s with heap:=(s.heap.push B5).push (Bs C s.heap.objs.size)}:=by
 have e1:(s.heap.push B5).get? s.heap.objs.size=AA B5:=A0 s.heap rfl;have e2:((s.heap.push B5).push (Bs C s.heap.objs.size)).get? (s.heap.objs.size+1)=AA (Bs C s.heap.objs.size):=by
  have:=A0 (s.heap.push B5) (o:=Bs C s.heap.objs.size) rfl
  rwa [Bo]at this
 have e3:(s.heap.push B5).Ns s.heap.objs.size (λ_=>AD):=⟨B5,#[],_,e1,rfl,(λe he=>absurd he (by simp)),λ_=>rfl⟩;have I1:=I.laid (a:=s.heap.objs.size) (o:=.own (s.heap.objs.size+1)) (h':=s.heap.push B5) (t':=s.toks) (λb u q=>AR _ q) (AU _) ⟨_,e1⟩;refine I1.laid (a:=s.heap.objs.size+1) (o:=.ins C s.heap.objs.size []) (t':=s.toks) (λb u q=>AR _ q) (Gz (Bo _ _)) ?_;have ne:s.heap.objs.size≠s.heap.objs.size+1:=Ak (GN _);refine⟨by rw[zh ne,zr],DA _,ne,e2,λ_=>AD,(Heap.Ns1.of_empty e3).at λo q=>AR _ q,λ_=>C1,λy hy=>absurd rfl hy⟩
theorem zlU{prog:A8}{w:Aj}{env:Env}{e:AT}{f:AQ}{pos:CJ}{s:AJ}{Q:AG->AJ->Prop}(hb:attributeBase e f env (eval e env)=eval e env)
  (h:A1 (model prog w) A (eval e env) (λo s₁=>A1 (model prog w) A (getAttr o f AB) Q E s₁) E s):A1 (model prog w) A (eval (.Attribute e f pos) env) Q E s:=
 Attribute_any_ h (by rw[arm_eval_Attribute,hb])
end
def yfM(K:AE)(ta:TE)(f:AQ):TE:=λσ H Q=>ta σ H λx H1=>∃a C dx fs v,x=.ref a/\H1 a=AA (.ins C dx fs)/\Cls K C/\yau K C f/\fs.lookup f=AA v/\Q v H1
def yfK(K:AE)(ta tv:TE)(f:AQ):TS:=λD σ H=>tv σ H λy H1=>ta σ H1 λx H2=>∃a C dx fs,x=.ref a/\H2 a=AA (.ins C dx fs)/\Cls K C/\yau K C f/\fs.length<1000 /\
 D.nx σ (upd H2 a (.ins C dx (ya0 f y fs)))
def yeX(X:Cx)(op:D0)(rd:V->V->Hp->VK->Prop):Prop:=
 ∀(pins:List (AI×Bu)) (s:AJ) (σ:St) (H:Hp) (x y:V) (u v:AG) (Q:VK),Inv X pins σ H s->RelV x u->RelV y v->rd x y H Q->A1 (model X.prog X.w) X.A (inplaceOp op u v) (EP X pins σ Q) X.xe s
def ycW(K:AE)(ta tv:TE)(rd:V->V->Hp->VK->Prop)(f:AQ):TS:=λD σ H=>ta σ H λx H1=>∃a C dx fs v,x=.ref a/\H1 a=AA (.ins C dx fs)/\Cls K C/\yau K C f/\fs.lookup f=AA v /\
 tv σ H1 λy H2=>rd v y H2 λz H3=>∃dx' fs',H3 a=AA (.ins C dx' fs')/\fs'.length<1000/\D.nx σ (upd H3 a (.ins C dx' (ya0 f z fs')))
section
variable {X:Cx}{o e value:AT}{f:AQ}{pos pos' tpos:CJ}{ta tv:TE}
theorem zmN(he:PE X e ta)(hb:attributeBase e f X.env (eval e X.env)=eval e X.env):PE X (.Attribute e f pos) (yfM X.K ta f):=by
 intro pins s σ H Q I h;refine zlU hb (thn (he pins s σ H _ I h) λu s1 kq=>?_);let⟨x,H1,I1,rx,a,C,dx,fs,v,ex,ea,c,n,l,q⟩:=kq;subst ex;obtain rfl:u=Ah a:=rx;exact zdt I1 ea c n l λu' s2 I2 ru=>⟨v,H1,I2,ru,q⟩
theorem znM(ha:PE X o ta)(hv:PE X value tv)(hs:swapsWith value (AA (.Attribute o f pos')) pos.line X.env=pure AC):PS X (.Assign [.Attribute o f pos'] value pos) (yfK X.K ta tv f):=by
 intro pins s σ H D I h;refine plainObj_wpAny_Assign_Attribute (thn (hv pins s σ H _ I h) λu s1 kq=>?_) hs;let⟨y,H1,I1,ry,q⟩:=kq;refine thn (ha pins s1 σ H1 _ I1 q) λov s2 kq=>?_;let⟨x,H2,I2,rx,a,C,dx,fs,ex,ea,c,n,l,q2⟩:=kq;subst ex;obtain rfl:ov=Ah a:=rx;exact zdP I2 ea c n l ry λs3 I3=>⟨σ,_,I3,q2⟩
theorem zhZ{op:D0}{rd:V->V->Hp->VK->Prop}(ha:PE X o ta)(hv:PE X value tv)(hop:yeX X op rd):PS X (.AugAssign (.Attribute o f tpos) op value pos) (ycW X.K ta tv rd f):=by
 intro pins s σ H D I h;refine wpAny_AugAssign_AttributeAny (thn (ha pins s σ H _ I h) λov s1 kq=>?_);let⟨x,H1,I1,rx,a,C,dx,fs,v,ex,ea,c,n,l,q⟩:=kq;subst ex;obtain rfl:ov=Ah a:=rx;refine zdt I1 ea c n l λu s2 I2 ru=>thn (hv pins s2 σ H1 _ I2 q) λw3 s3 kq=>?_;let⟨y,H2,I3,ry,q3⟩:=kq;refine thn (hop pins s3 σ H2 v y u w3 _ I3 ru ry q3) λw4 s4 kq=>?_;let⟨z,H3,I4,rz,dx',fs',ea',l',q4⟩:=kq;exact zdP I4 ea' c n l' rz λs5 I5=>⟨σ,_,I5,q4⟩
def ygb:V->V->Hp->VK->Prop:=λx y H Q=>∃i j,x=.int i/\y=.int j/\Q (.int (i+j)) H
theorem znR:yeX X .Add ygb:=by
 rintro pins s σ H x y u v Q I rx ry ⟨i,j,rfl,rfl,q⟩
 let⟨t,rfl⟩:=(show ∃t,u=EZ i t from rx);let⟨t',rfl⟩:=(show ∃t',v=EZ j t' from ry);exact G7 ⟨.int (i+j),H,I.tok _,⟨_,rfl⟩,q⟩
end
section
variable {X:Cx}{pins:List (AI×Bu)}{σ:St}{H:Hp}{s:AJ}{A:Ao}{E:AG->AJ->Prop}{Q:AG->AJ->Prop}{c:AG}{b:Bool}
end
structure yav(k:Nat)(A:Ao):Prop where
 hd:A.handled=AD
 dp:A.depth+3*k+5<recursionLimit
 un:A.units+16*k+200<cLine
theorem yav.mono{j k:Nat}{A:Ao}(r:yav k A)(h:j<=k):yav j A:=⟨r.hd,by have:=r.dp;lia,by have:=r.un;lia⟩
theorem yav.deeper{k:Nat}{A:Ao}(r:yav (k+1) A)(env:Env):yav k (A.deeper env):=
 ⟨r.hd,by have:=r.dp;show A.depth+1+3*k+5<_;lia,by have:=r.un;show A.units+3+16*k+200<_;lia⟩
theorem zgR{A:Ao}{C:AI}{us:List AG}{kw:List (AQ×AG)}:(A.under (.builtin "type.__call__" ⟨.ref C::us,kw⟩)).depth=A.depth+1:=by
 first|rfl|simp[Fh,Code.weight,Code.isCreation,Code.isGuard,Code.isCaller,HN,Fi,guardIds]
theorem zgF{A:Ao}{C:AI}{us:List AG}{kw:List (AQ×AG)}:(A.under (.builtin "type.__call__" ⟨.ref C::us,kw⟩)).units=A.units+1:=by
 first|rfl|simp[Fh,Code.cUnits,HN,Fi]
theorem yav.make{k:Nat}{A:Ao}(r:yav (k+1) A)(C:AI)(us:List AG)(kw:List (AQ×AG)):yav k (A.under (.builtin "type.__call__" ⟨.ref C::us,kw⟩)):=
 ⟨r.hd,by have:=r.dp;rw[zgR];lia,by have:=r.un;rw[zgF];lia⟩
theorem yav.depth{k:Nat}{A:Ao}(r:yav k A):A.depth<recursionLimit:=by have:=r.dp;lia
theorem yav.units{k:Nat}{A:Ao}(r:yav k A):A.units+64<cLine:=by have:=r.un;lia
def yda:TA:=λ_ H Q=>Q [] H
def yc5(ta:TE)(tr:TA):TA:=λσ H Q=>ta σ H λx H1=>tr σ H1 λxs H2=>Q (x::xs) H2
section
variable {X:Cx}{e:AT}{es:List AT}{te:TE}{t:TA}{pos:CJ}
theorem ybm:PA X [] yda:=λ_ _ _ _ H Q I h=>Fj ⟨[],H,I,.nil,h⟩
theorem zby(ha:PE X e te)(hr:PA X es t)(hs:starEach (e::es) X.env=(AC,eval e X.env)::starEach es X.env:=by rfl):PA X (e::es) (yc5 te t):=by
 intro pos pins s σ H Q I h;rw[hs];show A1 _ _ (spliced ((AC,eval e X.env)::backTo pos (starEach es X.env))) _ _ s;refine Dv (thn (ha pins s σ H _ I h) λu s1 kq=>?_);let⟨x,H1,I1,r1,q1⟩:=kq;exact thn (hr pos pins s1 σ H1 _ I1 q1) λus s2 ⟨xs,H2,I2,r2,q2⟩=>⟨x::xs,H2,I2,.cons r1 r2,q2⟩
def yf4(t:TA):TE:=λσ H Q=>t σ H λxs H1=>xs.length<=sizeLine/\∀p,H1 p=AD->Q (.ref p) (upd H1 p (.tup xs))
def yfA(t:TA):TE:=λσ H Q=>t σ H λxs H1=>xs.length<=sizeLine/\∀p,H1 p=AD->Q (.ref p) (upd H1 p (.lst xs))
theorem znS{x1}(h:PA X es t):PE X (.Tuple es x1 pos) (yf4 t):=by
 intro pins s σ H Q I hq;refine wpAny_Tuple_spliced (thn (h pos pins s σ H _ I hq) λus s1 kq=>?_);let⟨xs,H1,I1,r,z,q⟩:=kq;refine ⟨by rw[<-r.length];exact z,?_⟩;have hf:H1 s1.heap.objs.size=none:=I1.hok.fresh (AU _);refine⟨.ref s1.heap.objs.size,upd H1 s1.heap.objs.size (.tup xs),I1.laid (t':=s1.toks) (λb u e=>AR _ e) (AU _) ?_,rfl,q _ hf⟩;exact⟨z,us,r,⟨_,A0 _ rfl,rfl,_,rfl⟩⟩
theorem zkp(h:PA X es t):PE X (.List es pos) (yfA t):=by
 intro pins s σ H Q I hq;refine wpAny_List_spliced (thn (h pos pins s σ H _ I hq) λus s1 kq=>?_);let⟨xs,H1,I1,r,z,q⟩:=kq;refine ⟨by rw[<-r.length];exact z,?_⟩;have hf:H1 s1.heap.objs.size=none:=I1.hok.fresh (AU _);refine⟨.ref s1.heap.objs.size,upd H1 s1.heap.objs.size (.lst xs),I1.laid (t':=s1.toks) (λb u e=>AR _ e) (AU _) ?_,rfl,q _ hf⟩;exact⟨z,us,0,r,A0 _ rfl⟩
end
abbrev Sp:=List V->Hp->VK->XK->Prop
abbrev CXT:=List Env->Hp->AJ->XK->AG->AJ->Prop
structure ycC(P:A8)(w:Aj)(K:AE)(mg:AQ->Option AG)(base:BB)(A:Ao)(outer:List Env)(s:AJ)(H:Hp):Prop where
 frames:A.frames=AA outer
 mod:Mod K mg base
 bs:∀b o,base.get? b=AA o->s.heap.get? b=AA o/\H b=AD
 bsz:base.objs.size<=s.heap.objs.size
 funs:s.heap.FunFrames base outer
 frf:∀b∈frs outer,H b=AD
 hok:HOk P w H s.heap
 bare:DV s.gens
def CE(outer:List Env)(P:A8)(w:Aj)(H:Hp)(s:AJ)(Q:VK)(u:AG)(s':AJ):Prop:=
 ∃v H',s'.os=s.os/\DV s'.gens/\Un (frs outer) [] H H' s.heap s'.heap/\HOk P w H' s'.heap/\RelV v u/\Q v H'
def CR(CX:CXT)(outer:List Env)(P:A8)(w:Aj)(H:Hp)(s:AJ)(Q:VK)(E:XK)(r:Gd)(s':AJ):Prop:=
 match r with
 |.ok (.ret u)=>CE outer P w H s Q u s'
 |.ok _=>False
 |.error e=>CX outer H s E e s'
structure yaJ(P:A8)(w:Aj)(K:AE)(mg:AQ->Option AG)(base:BB)(CX:CXT)(k:Nat)(f:AI)(fd:BC)(ps:List AQ)(sp:Sp):Prop where
 len:∀vs H Q E,sp vs H Q E->vs.length=ps.length
 run:∀(A:Ao) (outer:List Env) (s:AJ) (H:Hp) (args:Args) (us:List AG) (vs:List V) (Q:VK) (E:XK),yav k A->ycC P w K mg base A outer s H->FP s fd args (ps.zip us)->Vals vs us->sp vs H Q E ->
  codeAny (model P w) A (.call (.ref f) args) (CR CX outer P w H s Q E) s
theorem yaJ.imp{P:A8}{w:Aj}{K:AE}{mg:AQ->Option AG}{base:BB}{CX:CXT}{k:Nat}{f:AI}{fd:BC}{ps:List AQ}{sp sp':Sp}(F:yaJ P w K mg base CX k f fd ps sp)
  (h:∀vs H Q E,sp' vs H Q E->sp vs H Q E):yaJ P w K mg base CX k f fd ps sp':=
 ⟨λvs H Q E q=>F.len vs H Q E (h _ _ _ _ q),λA outer s H args us vs Q E hr he hb hv hs=>F.run A outer s H args us vs Q E hr he hb hv (h _ _ _ _ hs)⟩
theorem ycC.make{P:A8}{w:Aj}{K:AE}{mg:AQ->Option AG}{base:BB}{A:Ao}{outer:List Env}{s:AJ}{H:Hp}(e:ycC P w K mg base A outer s H)(C:AI)(us:List AG)(kw:List (AQ×AG)):
  ycC P w K mg base (A.under (.builtin "type.__call__" ⟨.ref C::us,kw⟩)) outer s H:=⟨by first|exact e.frames|(simpa [Fh,Code.envs,Fi,pushEnvs] using e.frames),e.mod,e.bs,e.bsz,e.funs,e.frf,e.hok,e.bare⟩
section
variable {X:Cx}{pins:List (AI×Bu)}{σ:St}{H:Hp}{s s':AJ}
theorem Inv.env0(I:Inv X pins σ H s):ycC X.prog X.w X.K X.mg X.base X.A X.stack s H:=
 ⟨I.ok.frames,I.ok.mod,I.bs,BO I.ok.bsz I.sz,I.stack,I.stkFree,I.hok,I.bare⟩
theorem Inv.after{Q:VK}{u:AG}(I:Inv X pins σ H s)(h:CE X.stack X.prog X.w H s Q u s'):EP X pins σ Q u s':=by
 let⟨v,H',os,bare,un,hok,r,q⟩:=h;let⟨hh,g,d,t,os'⟩:=s';obtain rfl:os'=s.os:=os;exact⟨v,H',I.call (h':=hh) (g':=g) (d':=d) (t':=t) (ch:=[]) un hok bare (λb z=>absurd z (by simp)),r,q⟩
end
def yej(C:AI)(sp:Sp)(dvs:List V)(E:XK)(t:TA):TE:=λσ H Q=>t σ H λvs H1=>∀x dx,H1 x=AD->H1 dx=AD->dx≠x ->
 sp (.ref x::(vs++dvs)) (upd (upd H1 dx (.own x)) x (.ins C dx [])) (λv H2=>v=.non/\Q (.ref x) H2) E
def Binds(K:AE)(fd:BC)(ps:List AQ)(ds:List AG):Prop:=
 ∀(s:AJ) (us:List AG),K.In s.heap->(us++ds).length=ps.length->FP s fd ⟨us,[]⟩ (ps.zip (us++ds))
theorem Binds.all{K:AE}{fd:BC}{ps:List AQ}(h:∀us:List AG,us.length=ps.length->bindArgs fd ⟨us,[]⟩=pure (ps.zip us)):Binds K fd ps []:=λs us _ hl=>by
 rw[BE]at hl ⊢;exact .of_eq (h us hl)
def ybJ(CX:CXT)(X:Cx)(E:XK):Prop:=∀(pins:List (AI×Bu)) (σ:St) (H:Hp) (s:AJ) (e:AG) (s':AJ),Inv X pins σ H s->CX X.stack H s E e s'->X.xe e s'
section
variable {X:Cx}{CX:CXT}{k:Nat}{f C:AI}{fd:BC}{ps:List AQ}{sp:Sp}{dvs:List V}{ds:List AG}{E:XK}{x m:AQ}{p pos apos:CJ}{e o:AT}{es:List AT}{ta:TE}{t:TA}
structure Mk(K:AE)(C f:AI):Prop where
 makes:D3 K C=AB
 init:Av K (.ref C) "__init__"=AA (AA (.ref f))
 fn:Ck K (.ref f)=AB
 kp:Ap K (.ref C)=AB
theorem zjP{pins:List (AI×Bu)}{σ:St}{H:Hp}{s:AJ}{Q:VK}{us:List AG}{vs:List V}(M:Mk X.K C f)(F:yaJ X.prog X.w X.K X.mg X.base CX k f fd ps sp)(hr:yav (k+1) X.A)(hb:Binds X.K fd ps ds)(hd:Vals dvs ds)
  (hx:ybJ CX X E) (I:Inv X pins σ H s) (r:Vals vs us)
  (h:∀x dx,H x=AD->H dx=AD->dx≠x->sp (.ref x::(vs++dvs)) (upd (upd H dx (.own x)) x (.ins C dx [])) (λv H2=>v=.non/\Q (.ref x) H2) E):
  A1 (model X.prog X.w) X.A (call (.ref C) us) (EP X pins σ Q) X.xe s:=by
 have hq:=h (s.heap.objs.size+1) s.heap.objs.size (I.hok.fresh (Cb _)) (I.hok.fresh (AU _)) (Ak (GN _));have I2:=Inv.made (C:=C) I;have r2:Vals (V.ref (s.heap.objs.size+1)::(vs++dvs)) (Ah (s.heap.objs.size+1)::(us++ds)):=.cons rfl (r.append hd);have hl:(Ah (s.heap.objs.size+1)::us++ds).length=ps.length:=by
  have e:=r2.length;rw[F.len _ _ _ _ hq]at e;exact e.symm
 refine Ge (zjg (f:=f) I.kIn M.makes M.init (beq_iff_eq.mp M.fn) (De (F.run _ X.stack _ _ ⟨Ah (s.heap.objs.size+1)::us,[]⟩ (Ah (s.heap.objs.size+1)::(us++ds)) _ _ E (hr.make C us [])
  (I2.env0.make C us []) (hb _ (Ah (s.heap.objs.size+1)::us) I2.kIn hl) r2 hq) λr s' hq'=>?_))
 cases r with
 |error e=>exact hx pins σ _ _ e s' I2 hq'
 |ok fl=>
  cases fl with
  |ret u=>
   let⟨v,H',I3,rv,ev,q3⟩:=I2.after hq';subst ev;exact⟨rv,⟨V.ref (s.heap.objs.size+1),H',I3,rfl,q3⟩⟩
  |next=>exact Bc hq'
  |brk=>exact Bc hq'
  |cont=>exact Bc hq'
theorem zk8(M:Mk X.K C f)(F:yaJ X.prog X.w X.K X.mg X.base CX k f fd ps sp)(hr:yav (k+1) X.A)(hg:Gl X x)(hm:X.mg x=AA (.ref C))(hb:Binds X.K fd ps ds)(hd:Vals dvs ds)(hx:ybJ CX X E)
  (ha:PA X (e::es) t) (hdb:(x==("__debug__":AQ))=false:=by decide) (he:starEach (e::es) X.env=(AC,eval e X.env)::starEach es X.env:=by rfl) (hpl:(backTo pos (starEach es X.env)).any (·.1)=false:=by rfl):
  PE X (.Call (.Name x p) (e::es) [] pos) (yej C sp dvs E t):=by
 intro pins s σ H Q I h;refine BY (zc8 I hg hm ?_ hdb);refine Cz (h₀:=X.base) I.ok.mod.kin M.kp (thn (ha pos pins s σ H _ I h) λus s1 kq=>?_) he hpl;let⟨vs,H1,I1,r,q⟩:=kq;refine ⟨I1.kIn,?_⟩;exact zjP M F hr hb hd hx I1 r q
end
def PK(X:Cx)(kws:List CQ)(t:TA):Prop:=
 ∀(pos:CJ) (pins:List (AI×Bu)) (s:AJ) (σ:St) (H:Hp) (Q:List V->Hp->Prop),Inv X pins σ H s->t σ H Q->A1 (model X.prog X.w) X.A (evalAll ((backToKw pos (keywordEach kws X.env)).map (·.2))) (AP X pins σ Q) X.xe s
section
variable {X:Cx}{CX:CXT}{k:Nat}{f C:AI}{fd:BC}{ps ks:List AQ}{sp:Sp}{E:XK}{x m:AQ}{p pos apos kpos:CJ}{e o:AT}{es:List AT}{kws:List CQ}{te ta:TE}{t tk:TA}{nm:Option AQ}
theorem ydD:PK X [] yda:=λ_ _ _ _ H Q I h=>wpAny_evalAll_nil ⟨[],H,I,.nil,h⟩
theorem zlp(ha:PE X e te)(hr:PK X kws t):PK X (⟨nm,e,kpos⟩ :: kws) (yc5 te t):=by
 intro pos pins s σ H Q I h;show A1 _ _ (evalAll ((do let v <-eval e X.env;standAt pos;pure v)::(backToKw pos (keywordEach kws X.env)).map (·.2))) _ _ s;refine wpAny_evalAll_cons (AH (thn (ha pins s σ H _ I h) λu s1 kq=>?_));let⟨x,H1,I1,r1,q1⟩:=kq;refine AH (EW (AV ?_));exact thn (hr pos pins s1 σ H1 _ I1 q1) λus s2 ⟨xs,H2,I2,r2,q2⟩=>⟨x::xs,H2,I2,.cons r1 r2,q2⟩
structure ybD(K:AE)(fd:BC)(ps ks:List AQ)(g:List AG->List AG->List AG)(gV:List V->List V->List V):Prop where
 to:∀(s:AJ) (us ws:List AG),K.In s.heap->(g us ws).length=ps.length->FP s fd ⟨us,ks.zip ws⟩ (ps.zip (g us ws))
 rel:∀{vs:List V} {us:List AG} {zs:List V} {ws:List AG},Vals vs us->Vals zs ws->Vals (gV vs zs) (g us ws)
variable {g:List AG->List AG->List AG}{gV:List V->List V->List V}
end
structure yba(N P:List AQ)(sc:Bi):Prop where
 kind:sc.kind=.function
 co:sc.isCoroutine=AC
 gen:sc.isGenerator=AC
 nd:N.Nodup
 pre:N.take P.length=P
 par:∀x∈P,sc.names.lookup x=AA .local \/ sc.names.lookup x=AA .cell
 nofree:∀y∈sc.names,y.2 ≠ .free
theorem zeK{kindOf:AQ->Option DD}{x:AQ}:∀{binds:List (AQ×AG)} {m:AQ->Option AG},(∀v,(x,v)∉binds)->bindL kindOf binds m x=m x
 |[],_,_=>rfl
 |(n,v)::r,m,h=>by
  unfold bindL;rw[zeK λw hw=>h w (AX _ hw)];split
  .have:x≠n:=by rintro rfl;exact h v BG
   simp[this]
  .rfl
theorem zfi{kindOf:AQ->Option DD}{x:AQ}:∀{binds:List (AQ×AG)} {m:AQ->Option AG},(∀v,(x,v)∉binds)->bindC kindOf binds m x=m x
 |[],_,_=>rfl
 |(n,v)::r,m,h=>by
  unfold bindC;rw[zfi λw hw=>h w (AX _ hw)];split
  .rfl
  .have:x≠n:=by rintro rfl;exact h v BG
   simp[this]
theorem zeE{kindOf:AQ->Option DD}{x:AQ}{v:AG}:∀{P:List AQ} {vs:List AG} {i:Nat} {m:AQ->Option AG},P.Nodup->P[i]?=AA x->vs[i]?=AA v->kindOf x=AA .local ->
  bindL kindOf (P.zip vs) m x=AA v
 |[],_,_,_,_,h,_,_=>by simp at h
 |_::_,[],_,_,_,_,h,_=>by simp at h
 |p::P,w::vs,0,m,nd,h1,h2,hk=>by
  simp at h1 h2;subst h1;subst h2;show bindL kindOf ((p,w)::P.zip vs) m p=_;unfold bindL;rw[zeK λv hv=>(D4.mp nd).1 (Ex hv).1,if_pos hk];simp
 |p::P,w::vs,i+1,m,nd,h1,h2,hk=>by
  show bindL kindOf ((p,w)::P.zip vs) m x=_;unfold bindL;exact zeE (i:=i) (D4.mp nd).2 (by simpa using h1) (by simpa using h2) hk
theorem zeC{kindOf:AQ->Option DD}{x:AQ}{v:AG}:∀{P:List AQ} {vs:List AG} {i:Nat} {m:AQ->Option AG},P.Nodup->P[i]?=AA x->vs[i]?=AA v->kindOf x≠AA .local ->
  bindC kindOf (P.zip vs) m x=AA v
 |[],_,_,_,_,h,_,_=>by simp at h
 |_::_,[],_,_,_,_,h,_=>by simp at h
 |p::P,w::vs,0,m,nd,h1,h2,hk=>by
  simp at h1 h2;subst h1;subst h2;show bindC kindOf ((p,w)::P.zip vs) m p=_;unfold bindC;rw[zfi λv hv=>(D4.mp nd).1 (Ex hv).1,if_neg hk];simp
 |p::P,w::vs,i+1,m,nd,h1,h2,hk=>by
  show bindC kindOf ((p,w)::P.zip vs) m x=_;unfold bindC;exact zeC (i:=i) (D4.mp nd).2 (by simpa using h1) (by simpa using h2) hk
def start(N:List AQ)(vs:List V):St:=vs.map AA++Ae (N.length-vs.length) AD
def yaX(CX:CXT)(P:A8)(w:Aj)(K:AE)(mg:AQ->Option AG)(base:BB)(N:List AQ)(qual:AQ)(scope:Bi)(f:AI)(cd:AG)(A:Ao)(outer:List Env)(s:AJ)(H:Hp)(E:XK):Cx where
 prog:=P
 w:=w
 K:=K
 mg:=mg
 base:=base
 A:=A.deeper (envOfC qual scope s.heap.objs.size f cd)
 N:=N
 s₀:=s
 H₀:=H
 env:=envOfC qual scope s.heap.objs.size f cd
 outer:=outer
 stack:=envOfC qual scope s.heap.objs.size f cd::outer
 ex:=[]
 calm:=AB
 fn:=λ_=>AB
 pn:=[]
 xe:=λe s'=>A1 (model P w) (A.deeper (envOfC qual scope s.heap.objs.size f cd)) («leaving» (envOfC qual scope s.heap.objs.size f cd) e) (λ_ s''=>CX outer H s E e s'') (λe' s''=>CX outer H s E e' s'') s'
theorem zfY{sc:Bi}{n:Nat}{x:AQ}(h:sc.names.lookup x=AA .cell):∃c,(cellsFrom n sc.names []).lookup x=AA c:=by
 have q:=Ej sc.names n [] (.inl h);exact Au.mp q
theorem zhY{CX:CXT}{P:A8}{w:Aj}{K:AE}{mg:AQ->Option AG}{base:BB}{N ps:List AQ}{qual:AQ}{scope:Bi}{f:AI}{cd:AG}{A:Ao}{outer:List Env}{s s1:AJ}{H:Hp}{E:XK}{us:List AG}{vs:List V}
  (S:yba N ps scope) (hd:A.handled=AD) (e0:ycC P w K mg base A outer s H) (hl:vs.length=ps.length) (r:Vals vs us)
  (x:InCallC s s.heap.objs.size (bindL (envOfC qual scope s.heap.objs.size f cd).kindOf (ps.zip us) λ_=>AD) (cellsFrom (s.heap.objs.size+1) scope.names []) (bindC (envOfC qual scope s.heap.objs.size f cd).kindOf (ps.zip us) λ_=>AD) s1):
  Inv (yaX CX P w K mg base N qual scope f cd A outer s H E) [] (start N vs) H s1:=by
 have hpl:ps.length<=N.length:=by have:=congrArg CY S.pre;rw[Ea]at this;lia
 let⟨h1,tk,rfl,hk⟩:=x.done;have noA:∀b:AI,b∉(yaX CX P w K mg base N qual scope f cd A outer s H E).ex:=λb z=>absurd (show b∈([]:List AI)from z) (by simp);refine⟨⟨e0.mod,S.kind,rfl,rfl,AU _,λy z c h1 h2=>?_,λy hy=>?_,λy c _ h=>?_,λ_=>hd,Around.frames_deeper e0.frames,.inr ⟨rfl,rfl⟩,λb z=>absurd z (noA b),e0.bs,e0.bsz,λb _ _=>noA b,λb z=>absurd z (noA b),e0.funs,e0.frf⟩,
  rfl,e0.bare,Un.kept hk,⟨_,x.toInCall.ns,λi y v h1 h2 h3=>?_⟩,λy c h=>⟨_,x.cell y c h⟩,e0.hok.fresh (AU _),λy c h=>?_,λp hp=>absurd (show p∈([]:List (AI×Bu))from hp) (by simp),e0.hok.kept hk,?_⟩
 .exact name_of_addr x.apart (CS h1) (CS h2)
 .have hy:scope.names.lookup y=AA .cell \/ scope.names.lookup y=AA .free:=hy;rcases hy with hy|hy
  .exact zfY hy
  .exact absurd rfl (S.nofree _ (CS hy))
 .exact Eg (x.above y c (CS h))
 .have hi:i<vs.length:=by
   unfold start at h2
   by_cases hi:i<vs.length
   .exact hi
   .rw[Am (by simpa using hi)]at h2;rw[Eb]at h2;split at h2<;>cases h2
  have ha:vs[i]?=AA v:=by
   unfold start at h2;rw[Ag (by simpa using hi),Bq]at h2
   cases e:vs[i]? with
   |none=>rw[e]at h2;cases h2
   |some a=>rw[e]at h2;cases h2;rfl
  let⟨u,hu,rv⟩:=r.get ha;have hp:ps[i]?=AA y:=by
   rw[<-S.pre,List.getElem?_take_of_lt (by lia)];exact h1
  have ndP:ps.Nodup:=by rw[<-S.pre];exact S.nd.sublist (List.take_sublist _ _)
  refine⟨u,rv,?_⟩;rcases S.par y (A2 hp)with k|k
  .exact .inl ⟨k,zeE ndP hp hu k⟩
  .let⟨c,e⟩:=zfY (n:=s.heap.objs.size+1) k;refine .inr ⟨.inl k,c,e,?_⟩;have q:=x.cell y c e;rw[zeC ndP hp hu (by show scope.names.lookup y≠_;rw[k];decide)]at q;exact q
 .exact e0.hok.fresh (Eg (x.above y c (CS h)))
 .unfold start;show _=N.length;rw[Af,BD,List.length_replicate];lia
theorem zpw{CX:CXT}{P:A8}{w:Aj}{K:AE}{mg:AQ->Option AG}{base:BB}{k:Nat}{f:AI}{name qual:AQ}{params:Arguments}{body:List Bp}{scope:Bi}{dV kV doc pm cdv ct oc:AG}{an od:Option AI}
  {osl:Array (Option AG)} {N ps:List AQ} {sp:Sp} (lk:K.lookup f=AA ⟨oc,od,.func (B2 name qual params body scope dV kV doc pm an cdv ct),osl⟩) (hcd:CA K cdv qual=AB) (S:yba N ps scope)
  (len:∀vs H Q E,sp vs H Q E->vs.length=ps.length)
  (hbody:∀(A:Ao) (outer:List Env) (s:AJ) (H:Hp) (vs:List V) (Q:VK) (E:XK),yav k (A.deeper (envOfC qual scope s.heap.objs.size f cdv))->sp vs H Q E ->
   ∃t,PSs (yaX CX P w K mg base N qual scope f cdv A outer s H E) body t/\t {nx:=λ_ H'=>Q .non H',rt:=Q} (start N vs) H):
  yaJ P w K mg base CX (k+1) f (B2 name qual params body scope dV kV doc pm an cdv ct) ps sp:=by
 refine⟨len,λA outer s H args us vs Q E hr e0 hb r hsp=>?_⟩;have hl:=len _ _ _ _ hsp;have KX:K.In s.heap:=e0.mod.kin.keeps λb o e=>(e0.bs b o e).1;have lim:s.heap.NoLimit:=e0.mod.nolimit.keeps λb o e=>(e0.bs b o e).1;have hkind:∀y∈ps.zip us,scope.names.lookup y.1=AA .local \/ (scope.names.lookup y.1=AA .cell/\((cellsFrom (s.heap.objs.size+1) scope.names []).lookup y.1).isSome=AB):=λ⟨n,v⟩ hy=>by
  rcases S.par n (Ex hy).1 with q|q
  .exact .inl q
  .exact .inr ⟨q,Ej _ _ _ (.inl q)⟩
 refine codeAny_call_function hr.depth (KX _ _ lk) rfl S.co S.gen rfl (PySem.W.codeRec_of KX hcd) (hb _ _ _ _ ?_);refine wpAny_newFunctionEnv_cells S.kind hkind λenv he s1 x=>?_;subst he;refine⟨lim.keeps x.toInCall.keep,codeAny_func ?_⟩;let⟨t,ht,hq⟩:=hbody A outer s H vs Q E (hr.deeper _) hsp;have I:Inv (yaX CX P w K mg base N qual scope f cdv A outer s H E) [] (start N vs) H s1:=zhY S hr.hd e0 hl r x;refine CM (ht [] s1 (start N vs) H _ I hq) (λfl s' hs=>?_) λe s' hs=>hs;have fin:∀{σ':St} {H':Hp} {v:V} {u:AG},Inv (yaX CX P w K mg base N qual scope f cdv A outer s H E) [] σ' H' s'->RelV v u->Q v H'->CE outer P w H s Q u s':=
  λ{σ' H' v u} J rv q=>⟨v,H',J.os,J.bare,J.base,J.hok,rv,q⟩
 cases fl with
 |ret u=>
  let⟨v,σ',H',J,rv,q⟩:=hs;exact fin J rv q
 |next=>
  let⟨σ',H',J,q⟩:=hs;exact fin (v:=V.non) (u:=Bz) J rfl q
 |brk=>
  let⟨_,_,_,q⟩:=hs;exact Bc q
 |cont=>
  let⟨_,_,_,q⟩:=hs;exact Bc q
section
variable {X:Cx}{x:AQ}{p pos:CJ}{e:AT}{es:List AT}{t:TA}{id T:String}{r:List V->Hp->VK->Prop}
def tCB(r:List V->Hp->VK->Prop)(t:TA):TE:=λσ H Q=>t σ H λvs H1=>r vs H1 Q
theorem zfJ(hc:yae X (.builtin id) r)(hg:Gl X x)(hm:X.mg x=AD)(hv:bootBuiltins x=AA (.builtin id))(ha:PA X (e::es) t)(hn:x ≠ "__name__":=by decide)(hdb:(x==("__debug__":AQ))=false:=by decide)
  (he:starEach (e::es) X.env=(AC,eval e X.env)::starEach es X.env:=by rfl) (hpl:(backTo pos (starEach es X.env)).any (·.1)=false:=by rfl):PE X (.Call (.Name x p) (e::es) [] pos) (tCB r t):=by
 intro pins s σ H Q I h;refine BY (zdJ I hg hm hv ?_ hn hdb);exact GO (thn (ha pos pins s σ H _ I h) λus s1 ⟨vs,H1,I1,r1,q1⟩=>hc pins s1 σ H1 vs us Q I1 r1 q1) he hpl
theorem zhP(hc:yae X (.type T) r)(hg:Gl X x)(hm:X.mg x=AD)(hv:bootBuiltins x=AA (.type T))(ha:PA X (e::es) t)(hn:x ≠ "__name__":=by decide)(hdb:(x==("__debug__":AQ))=false:=by decide)
  (he:starEach (e::es) X.env=(AC,eval e X.env)::starEach es X.env:=by rfl) (hpl:(backTo pos (starEach es X.env)).any (·.1)=false:=by rfl):PE X (.Call (.Name x p) (e::es) [] pos) (tCB r t):=by
 intro pins s σ H Q I h;refine BY (zdJ I hg hm hv ?_ hn hdb);exact Bw (thn (ha pos pins s σ H _ I h) λus s1 ⟨vs,H1,I1,r1,q1⟩=>hc pins s1 σ H1 vs us Q I1 r1 q1) he hpl
end
end L2
namespace HT
open PySem PyProof.Rows
section
open PySem.SeqAt
open PySem.AutoSeq1 (wpAny_loadPart')
open PySem.MeetsSeq PySem.MeetsSeq2 PySem.MeetsSeq3
end
section
variable {prog:A8}{w:Aj}{A:Ao}{E:AG->AJ->Prop}{s:AJ}
theorem cat_tup{t b:AI}{vs ws:List AG}{Q:AG->AJ->Prop}(ht:HM s.heap t vs.toArray)(hb:HM s.heap b ws.toArray)(hv:vs≠[])
  (h1:ws=[]->Q (.ref t) s) (h2:ws≠[]->Q (.ref s.heap.objs.size) {s with heap:=s.heap.push {cls:=.type "tuple",data:=.seq (vs++ws).toArray} })
  (hsz:vs.length+ws.length<=sizeLine):A1 (model prog w) A (binaryOp .Add (.ref t) (.ref b)) Q E s:=by
 let⟨⟨cls,dd,data,sl⟩,ho,hc,n,hd⟩:=id ht;let⟨⟨cls2,dd2,data2,sl2⟩,ho2,hc2,n2,hd2⟩:=id hb;simp only at hc hd hc2 hd2;subst hc hd hc2 hd2;have e:vs.toArray++ws.toArray=(vs++ws).toArray:=by simp
 by_cases hw:ws=[]
 .exact Fk ⟨_,ho,rfl⟩ ⟨_,ho2,rfl⟩ Ec F0 DE DB (Ct _ _)
   (tuple_addW1 t b vs.toArray ws.toArray n n2 dd dd2 sl sl2 (by simpa using hv) (by simp[hw])) ⟨ho,ho2,h1 hw⟩
 .refine Fk ⟨_,ho,rfl⟩ ⟨_,ho2,rfl⟩ Ec F0 DE DB (Ct _ _)
   (tuple_addW2 t b vs.toArray ws.toArray n n2 dd dd2 sl sl2 (by simpa using hv) (by simpa using hw) (by rw[AZ,AZ];exact hsz)) ⟨ho,ho2,?_⟩
  rw[e];exact h2 hw
def sIx(n d:Nat):Option Int->Nat
 |none=>d
 |some v=>if v<0 then(v+(n:Int)).toNat else min v.toNat n
theorem sIx_le(n d:Nat)(hd:d<=n)(o:Option Int):sIx n d o<=n:=by
 cases o with
 |none=>exact hd
 |some v=>
  show (if v<0 then(v+(n:Int)).toNat else min v.toNat n)<=n
  by_cases hv:v<0
  .rw[if_pos hv];lia
  .rw[if_neg hv];exact Nat.min_le_right _ _
theorem zhK(v:Int)(n d:Nat):(if v<0 then max (v+(n:Int)) 0 else min v (n:Int))=((sIx n d (AA v):Nat):Int):=by
 show (if v<0 then max (v+(n:Int)) 0 else min v (n:Int))=(((if v<0 then(v+(n:Int)).toNat else min v.toNat n):Nat):Int)
 by_cases hv:v<0
 .simp only[if_pos hv];lia
 .simp only[if_neg hv];lia
theorem zgC(lo hi:Option Int)(n:Nat):Cp lo hi 1 (n:Int)=(((sIx n 0 lo:Nat):Int),((sIx n n hi:Nat):Int)):=by
 have h1:¬((1:Int)<0):=by lia
 unfold Cp;erw[h1,if_false];refine Prod.ext ?_ ?_
 .cases lo with
  |none=>rfl
  |some v=>exact zhK v n 0
 .cases hi with
  |none=>rfl
  |some v=>exact zhK v n n
theorem zgU(i j:Nat):CD (i:Int) (j:Int) 1=j-i:=by
 unfold CD;have h1:(1:Int) > 0:=by lia
 erw[h1,if_true,Dh];split<;>lia
theorem zdy{v:AG}{o:Option Int}{Q:Option Int->AJ->Prop}(p:Ek v o)(h:Q o s):A1 (model prog w) A (G3 v) Q E s:=by
 cases p with
 |none=>exact slicePart_none h
 |int i t=>exact slicePart_int h
theorem sliceApplied_gen{sl:AI}{vl vu:AG}{lo hi:Option Int}{n:Nat}{Q:Int×Int×Nat->AJ->Prop}(hs:s.heap.IsSliceOf sl vl vu .none)(pl:Ek vl lo)(pu:Ek vu hi)
  (h:Q (((sIx n 0 lo:Nat):Int),1,sIx n n hi-sIx n 0 lo) s):A1 (model prog w) A (Dw (.ref sl) (pure (n:Int))) Q E s:=by
 let⟨os,hos,hcs,hds⟩:=id hs;unfold Dw Gn;refine AH (AH (BT hos hds (x:=vl) rfl (AH (BT hos hds (x:=vu) rfl (AH (BT hos hds (x:=.none) rfl (AV ?_)))))));refine AH (slicePart_none ?_);show A1 _ _ (if ((1:Int)==0)=AB then _ else _) _ _ s;rw[if_neg (by decide)];refine AH (zdy pl (AH (zdy pu (AH (AV ?_)))));show A1 _ _ (match Cp lo hi 1 (n:Int)with|(lo,hi)=>pure (lo,(1:Int),CD lo hi 1)) _ _ s;rw[zgC lo hi n];show A1 _ _ (pure (((sIx n 0 lo:Nat):Int),(1:Int),CD ((sIx n 0 lo:Nat):Int) ((sIx n n hi:Nat):Int) 1)) _ _ s;rw[zgU];exact AV h
theorem zjb(xs:Array AG)(i k:Nat):((CL k).filterMap λ(m:Nat)=>xs[((i:Int)+(m:Int)*1).toNat]?).toArray=((xs.toList.drop i).take k).toArray:=by
 have e:(λ(m:Nat)=>xs[((i:Int)+(m:Int)*1).toNat]?)=λm=>xs[i+m]?:=by
  funext m
  have:((i:Int)+(m:Int)*1).toNat=i+m:=by lia
  rw[this]
 rw[e];have:=pick_run xs i k;rw[List.filterMap_map]at this;have e2:((λx=>xs[x]?) ∘ λx=>i+x)=λm=>xs[i+m]?:=rfl;rw[e2]at this;rw[this]
theorem getItem_tuple_cut{t sl:AI}{items:Array AG}{vl vu:AG}{lo hi:Option Int}{Q:AG->AJ->Prop}(ht:HM s.heap t items)(hs:s.heap.IsSliceOf sl vl vu .none)(pl:Ek vl lo)(pu:Ek vu hi)
  (hw:¬(sIx items.size 0 lo=0/\sIx items.size items.size hi=items.size))
  (h:Q (.ref s.heap.objs.size) {s with heap:=s.heap.push {cls:=.type "tuple",data:=.seq ((items.toList.drop (sIx items.size 0 lo)).take (sIx items.size items.size hi-sIx items.size 0 lo)).toArray} })
  (hsz:items.size<=sizeLine):A1 (model prog w) A (getItem (.ref t) (.ref sl)) Q E s:=by
 have htake:sizeOk (.seq ((items.toList.drop (sIx items.size 0 lo)).take (sIx items.size items.size hi-sIx items.size 0 lo)).toArray):=by
  show ((items.toList.drop (sIx items.size 0 lo)).take (sIx items.size items.size hi-sIx items.size 0 lo)).toArray.size<=sizeLine;rw[AZ,Ea,GP,Bv];lia
 have hj:sIx items.size items.size hi<=items.size:=sIx_le _ _ (AU _) hi;let⟨os,hos,hcs,hds⟩:=id hs;have hTs:s.TypeIs (.ref sl) "slice":=⟨os,hos,hcs⟩;unfold getItem
 try with_reducible refine DW ?_
 first|refine AH (AV ?_)|skip
 refine AH (Fm ht.typeIs (by decide) ?_);refine AH (Bd (name:=AF "__getitem__") ht.typeIs BJ
  (CT BJ ht.typeIs FV ?_ (Fa _ _)))
 show A1 _ _ (Dx (.ref t) >>= _) _ _ s;refine AH (FQ ht ?_);refine AH (Fp hTs ?_);rw[if_pos (by decide)];refine AH (sliceApplied_gen hs pl pu ?_);have hno:¬((((sIx items.size 0 lo:Nat):Int)==0&&(1:Int)==1&&(sIx items.size items.size hi-sIx items.size 0 lo)==items.size)=AB):=by
  intro q;rw[AK,AK]at q;have q1:((sIx items.size 0 lo:Nat):Int)=0:=eq_of_beq q.1.1;have q2:sIx items.size items.size hi-sIx items.size 0 lo=items.size:=eq_of_beq q.2;exact hw ⟨by lia,by lia⟩
 show A1 _ _ (if (((sIx items.size 0 lo:Nat):Int)==0&&(1:Int)==1&&(sIx items.size items.size hi-sIx items.size 0 lo)==items.size)=AB then _ else _) _ _ s;rw[if_neg hno,zjb]
 first
  |exact AH (m:=CN _) (Bk (AV ⟨_,rfl,AV h⟩) htake)
  |exact AH (m:=CN _) (Bk (AH (AV (AV ⟨_,rfl,AV h⟩))) htake)
  |exact AH (AH (m:=CN _) (Bk (AV (AV ⟨_,rfl,AV h⟩)) htake))
  |exact AH (AH (m:=CN _) (Bk (AV ⟨_,rfl,AV h⟩) htake))
end
end HT
namespace L2
open PySem PySem.Spec PyProof.Rows
abbrev TO:=St->Hp->(Option Int->Hp->Prop)->Prop
def PO(X:Cx)(e:Option AT)(t:TO):Prop:=
 ∀(pins:List (AI×Bu)) (s:AJ) (σ:St) (H:Hp) (Q:Option Int->Hp->Prop),Inv X pins σ H s->t σ H Q ->
  A1 (model X.prog X.w) X.A (evalPart e X.env) (λu s'=>∃o H',Inv X pins σ H' s'/\Ek u o/\Q o H') X.xe s
def ycP:TO:=λ_ H Q=>Q AD H
theorem zgB{ns:List Int}:∀{us:List AG},Vals (ns.map V.int) us->FR us ns:=by
 induction ns with
 |nil=>intro us r;rw[Aa]at r;cases r;exact .nil
 |cons n ns ih=>
  intro us r;rw[AL]at r
  cases r with
  |cons r1 r2=>
   let⟨t,e⟩:=r1;subst e;exact .cons n t (ih r2)
section
variable {X:Cx}{e:AT}{te:TE}{lo hi:Option AT}{tl th:TO}{pos p2:CJ}
theorem zlo:PO X AD ycP:=by
 intro pins s σ H Q I h;rw[evalPart_none];exact AV ⟨AD,H,I,.none,h⟩
def SlR(X:Cx)(r:V->Option Int->Option Int->Hp->VK->Prop):Prop:=
 ∀(pins:List (AI×Bu)) (s:AJ) (σ:St) (H:Hp) (x:V) (v vl vu:AG) (lo hi:Option Int) (sl:AI) (Q:VK),Inv X pins σ H s->RelV x v->s.heap.IsSliceOf sl vl vu .none->Ek vl lo->Ek vu hi->r x lo hi H Q ->
  ∃T id,typeLookup (.type T) "__getitem__"=pure (AA (.builtin id))/\s.TypeIs v T/\A1 (model X.prog X.w) X.A (getItem v (.ref sl)) (EP X pins σ Q) X.xe s
def tSl(r:V->Option Int->Option Int->Hp->VK->Prop)(te:TE)(tl th:TO):TE:=λσ H Q=>te σ H λx H1=>tl σ H1 λl H2=>th σ H2 λu H3=>r x l u H3 Q
theorem zka{r:V->Option Int->Option Int->Hp->VK->Prop}(hr:SlR X r)(he:PE X e te)(hl:PO X lo tl)(hu:PO X hi th):PE X (.Subscript e (.Slice lo hi AD p2) pos) (tSl r te tl th):=by
 intro pins s σ H Q I h;refine Gf (thn (he pins s σ H _ I h) λv s1 kq=>?_);let⟨x,H1,I1,r1,q1⟩:=kq;refine wpAny_Slice (thn (hl pins s1 σ H1 _ I1 q1) λvl s2 kq=>?_);let⟨l,H2,I2,pl,q2⟩:=kq;refine thn (hu pins s2 σ H2 _ I2 q2) λvu s3 kq=>?_;let⟨u,H3,I3,pu,q3⟩:=kq;rw[evalPart_none];refine AV ?_;have I4:Inv X pins σ H3 {s3 with heap:=s3.heap.push {cls:=.type "slice",data:=.fields #[vl,vu,.none]} }:=I3.kept (t':=s3.toks) λb ob q=>AR _ q;let⟨T,id,hT,ht,hg⟩:=hr pins {s3 with heap:=s3.heap.push {cls:=.type "slice",data:=.fields #[vl,vu,.none]} } σ H3 x v vl vu l u s3.heap.objs.size Q I4 r1 (HY ..) pl pu q3;show A1 (model X.prog X.w) X.A (subscriptTail e (.Slice lo hi AD p2) v (.ref s3.heap.objs.size)) (EP X pins σ Q) X.xe {s3 with heap:=s3.heap.push {cls:=.type "slice",data:=.fields #[vl,vu,.none]} };exact tail_any (ops:=[.ref s3.heap.objs.size,v]) ht hT hg (by ac_rfl)
def ycq(xs:List V)(lo hi:Option Int):List V:=(xs.drop (HT.sIx xs.length 0 lo)).take (HT.sIx xs.length xs.length hi-HT.sIx xs.length 0 lo)
theorem zcW(xs:List V)(lo hi:Option Int):(ycq xs lo hi).length<=xs.length:=by
 unfold ycq;rw[Ea,GP];lia
def yf9(K:AE):V->Option Int->Option Int->Hp->VK->Prop:=λx lo hi H Q=>∃a xs,x=.ref a/\SqT K H a xs /\
 ¬(HT.sIx xs.length 0 lo=0/\HT.sIx xs.length xs.length hi=xs.length)/\∀p,H p=AD->Q (.ref p) (upd H p (.tup (ycq xs lo hi)))
theorem zn2:SlR X (yf9 X.K):=by
 intro pins s σ H x v vl vu lo hi sl Q I rx hs pl pu h;let⟨a,xs,rfl,hx,hw,q⟩:=h
 cases rx
 let⟨its,r,ht,hz⟩:=I.tuple hx;have hlen:its.toArray.size=xs.length:=by rw[AZ];exact r.length.symm
 refine⟨"tuple",_,BJ.lookup,ht.typeIs,?_⟩;refine HT.getItem_tuple_cut ht hs pl pu (by rw[hlen];exact hw) ?_ (by rw[hlen];exact hz);rw[hlen];refine⟨.ref s.heap.objs.size,_,I.laid (t':=s.toks) (o:=.tup (ycq xs lo hi)) (λb ob q=>AR _ q) (AU _) ?_,rfl,q _ (I.hok.fresh (AU _))⟩;exact⟨BO (zcW xs lo hi) hz,_,(r.drop (HT.sIx xs.length 0 lo)).take (HT.sIx xs.length xs.length hi-HT.sIx xs.length 0 lo),GJ _ _⟩
def yd4(K:AE):R2:=λx y H Q=>∃a b xs ys,x=.ref a/\y=.ref b/\SqT K H a xs/\SqT K H b ys/\xs≠[]/\xs.length+ys.length<=sizeLine /\
 (ys=[]->Q (.ref a) H)/\(ys≠[]->∀p,H p=AD->Q (.ref p) (upd H p (.tup (xs++ys))))
theorem Vals.nil_iff{xs:List V}{us:List AG}(r:Vals xs us):us=[] ↔ xs=[]:=by
 cases r with
 |nil=>simp
 |cons _ _=>simp
theorem zme:OpR X (binaryOp .Add) (yd4 X.K):=by
 intro pins s σ H x y v u Q I rx ry h;let⟨a,b,xs,ys,rfl,rfl,ha,hb,hx,hz,q1,q2⟩:=h
 cases rx
 cases ry
 let⟨its,r1,p1,_⟩:=I.tuple ha;let⟨its2,r2,p2,_⟩:=I.tuple hb;refine HT.cat_tup p1 p2 (λz=>hx (r1.nil_iff.mp z)) (λz=>⟨.ref a,H,I,rfl,q1 (r2.nil_iff.mp z)⟩) (λz=>?_) (by rw[<-r1.length,<-r2.length];exact hz);refine⟨.ref s.heap.objs.size,_,I.laid (t':=s.toks) (o:=.tup (xs++ys)) (λb ob q=>AR _ q) (AU _) ?_,rfl,q2 (λw=>z (r2.nil_iff.mpr w)) _ (I.hok.fresh (AU _))⟩;exact⟨by rw[Af];exact hz,_,r1.append r2,GJ _ _⟩
end
def ixN(n:Nat)(i:Int):Option Nat:=if 0<=i then(if i<n then AA i.toNat else AD)else if -(n:Int)<=i then AA (i+n).toNat else AD
def atI{α:Type}(xs:List α)(i:Int):Option α:=(ixN xs.length i).bind λj=>xs[j]?
theorem zij{n:Nat}{i:Int}{j:Nat}(h:ixN n i=AA j):seqIndex? i n=AA j/\j<n/\-(n:Int)<=i/\i<n:=by
 unfold ixN at h
 by_cases h0:0<=i
 .rw[if_pos h0]at h
  by_cases h1:i<n
  .rw[if_pos h1]at h;have e:i.toNat=j:=AY h;exact⟨by rw[GY h0 h1,e],by lia,by lia,h1⟩
  .rw[if_neg h1]at h;cases h
 .rw[if_neg h0]at h
  by_cases h1:-(n:Int)<=i
  .rw[if_pos h1]at h;have e:(i+n).toNat=j:=AY h;exact⟨by rw[seqIndex_neg (by lia) h1,e],by lia,h1,by lia⟩
  .rw[if_neg h1]at h;cases h
theorem zfy{α:Type}{xs:List α}{i:Int}{v:α}(h:atI xs i=AA v):∃j,seqIndex? i xs.length=AA j/\xs[j]?=AA v/\j<xs.length/\-(xs.length:Int)<=i/\i<xs.length:=by
 unfold atI at h
 cases e:ixN xs.length i with
 |none=>rw[e]at h;cases h
 |some j=>
  rw[e]at h;let⟨h1,h2,h3,h4⟩:=zij e;exact⟨j,h1,h,h2,h3,h4⟩
def ybv(b:AT):Prop:=∀o i,subscripted b AC o i=operate [o,i] (getItem o i)
def IxR(X:Cx)(r:R2):Prop:=
 ∀(value slice:AT) (pins:List (AI×Bu)) (s:AJ) (σ:St) (H:Hp) (x y:V) (v u:AG) (Q:VK),Inv X pins σ H s->RelV x v->RelV y u->r x y H Q ->
  subscripted slice AC v u=operate [v,u] (getItem v u)->A1 (model X.prog X.w) X.A (subscriptTail value slice v u) (EP X pins σ Q) X.xe s
def MtR(X:Cx)(id:String)(r:V->List V->Hp->VK->Prop):Prop:=
 ∀(pins:List (AI×Bu)) (s:AJ) (σ:St) (H:Hp) (x:V) (xs:List V) (v:AG) (us:List AG) (Q:VK),Inv X pins σ H s->RelV x v->Vals xs us->r x xs H Q ->
  A1 (model X.prog X.w) X.A (call (.builtin id) (v::us)) (EP X pins σ Q) X.xe s
section
variable {X:Cx}{a b:AT}{ta tb:TE}{pos:CJ}
theorem IxR.or{r r':R2}(h:IxR X r)(h':IxR X r'):IxR X (λx y H Q=>r x y H Q \/ r' x y H Q):=by
 intro value slice pins s σ H x y v u Q I rx ry q hs;rcases q with q|q
 .exact h value slice pins s σ H x y v u Q I rx ry q hs
 .exact h' value slice pins s σ H x y v u Q I rx ry q hs
theorem zpf{r:R2}(hr:IxR X r)(ha:PE X a ta)(hb:PE X b tb)(hs:ybv b):PE X (.Subscript a b pos) (tOp r ta tb):=by
 intro pins s σ H Q I h;exact Gf (yeN ha hb I h λv u s2 x y H2 I2 rx ry q=>hr a b pins s2 σ H2 x y v u Q I2 rx ry q (hs _ _))
def yfj(K:AE):R2:=λx y H Q=>∃p xs i v,x=.ref p/\y=.int i/\SqL K H p xs/\atI xs i=AA v/\Q v H
def ye9(K:AE):R2:=λx y H Q=>∃p xs i v,x=.ref p/\y=.int i/\SqT K H p xs/\atI xs i=AA v/\Q v H
def yeZ:R2:=λx y H Q=>∃z i c,x=.str z/\y=.int i/\z.length<=sizeLine/\atI z.cps.toList i=AA c/\Q (.str ⟨#[c]⟩) H
theorem ycA:IxR X (yfj X.K):=by
 intro value slice pins s σ H x y v u Q I rx ry h hs;let⟨p,xs,i,z,rfl,rfl,hq,he,q⟩:=h
 cases rx
 let⟨t,rfl⟩:=ry;let⟨its,r,pl,hz⟩:=I.list hq;let⟨j,h1,h2,h3,h4,h5⟩:=zfy he;let⟨w,ew,rw'⟩:=r.get h2;have hl:=r.length;have hn:=yaV;have fin:EP X pins σ Q w s:=⟨z,H,I,rw',q⟩
 by_cases h0:0<=i
 .have hj:i.toNat=j:=by
   rw[GY h0 h5]at h1;exact AY h1
  exact item_listR pl.isList h0 (by lia) (by rw[hj];simpa using ew) fin hs
 .have hj:(i+(its.toArray.size:Int)).toNat=j:=by
   rw[seqIndex_neg (by lia) h4]at h1;rw[AZ,<-hl];exact AY h1
  exact El (x:=w) pl.isList.typeIs Fq.lookup
   (wpAny_getItem_list_neg (Q:=λr s'=>r=w/\EP X pins σ Q r s') pl.isList (by lia) (by rw[AZ]<;>lia) (by lia) (by rw[hj];simpa using ew) ⟨rfl,fin⟩) hs
theorem ydw:IxR X (ye9 X.K):=by
 intro value slice pins s σ H x y v u Q I rx ry h hs;let⟨p,xs,i,z,rfl,rfl,hq,he,q⟩:=h
 cases rx
 let⟨t,rfl⟩:=ry;let⟨its,r,pl,hz⟩:=I.tuple hq;let⟨j,h1,h2,h3,h4,h5⟩:=zfy he;let⟨w,ew,rw'⟩:=r.get h2;have hl:=r.length;have hn:=yaV;have fin:EP X pins σ Q w s:=⟨z,H,I,rw',q⟩;exact El (x:=w) pl.typeIs BJ.lookup
  (getItem_tuple (j:=j) (Q:=λr s'=>r=w/\EP X pins σ Q r s') pl (by lia) (by lia) (by rw[AZ,<-hl];exact h1) (by simpa using ew) ⟨rfl,fin⟩) hs
theorem zoX:IxR X yeZ:=by
 intro value slice pins s σ H x y v u Q I rx ry h hs;let⟨z,i,c,rfl,rfl,hz,he,q⟩:=h;let⟨t,rfl⟩:=rx;let⟨t',rfl⟩:=ry;let⟨j,h1,h2,h3,h4,h5⟩:=zfy he;have hl:z.cps.toList.length=z.length:=by simp[Str.length]
 rw[hl]at h1 h4 h5;have hn:=yaV;exact tail_any (Gg s z t) slot_str_getitem.lookup (getItem_str (c:=c) (by
  have e1:decide (i < -(2^63:Int))=false:=decide_eq_false (by lia);have e2:decide (i ≥ 2^63)=false:=decide_eq_false (by lia);rw[e1,e2,Gr]) (by rw[h1];simpa using h2) ⟨.str ⟨#[c]⟩,H,I.tok _,⟨_,rfl⟩,q⟩) hs
def rIx(K:AE):R2:=λx y H Q=>yfj K x y H Q \/ ye9 K x y H Q \/ yeZ x y H Q
theorem zgc:IxR X (rIx X.K):=ycA.or (ydw.or zoX)
theorem zgQ(its:List AG)(n j:Nat)(u:AG):Em (·.setIfInBounds j u) {cls:=.type "list",data:=.seq its.toArray n}={cls:=.type "list",data:=.seq (its.set j u).toArray n}:=by
 simp[Em]
theorem Inv.lst{pins:List (AI×Bu)}{σ:St}{H:Hp}{s:AJ}{p:AI}{xs:List V}(I:Inv X pins σ H s)(h:H p=AA (.lst xs)):
  ∃(its:List AG) (n:Nat),Vals xs its/\s.heap.get? p=AA {cls:=.type "list",data:=.seq its.toArray n}/\xs.length<=sizeLine:=by
 let⟨z,its,n,r,e⟩:=I.hok p _ h;exact⟨its,n,r,e,z⟩
theorem Inv.lstUpd{pins:List (AI×Bu)}{σ:St}{H:Hp}{s:AJ}{p:AI}{xs ys:List V}{its its':List AG}{n n':Nat}{f:Bu->Bu}(I:Inv X pins σ H s)(h:H p=AA (.lst xs))
  (ho:s.heap.get? p=AA {cls:=.type "list",data:=.seq its.toArray n}) (hf:f {cls:=.type "list",data:=.seq its.toArray n}={cls:=.type "list",data:=.seq its'.toArray n'}) (r:Vals ys its') (hz:ys.length<=sizeLine) (t:Nat):
  Inv X pins σ (upd H p (.lst ys)) {s with heap:=s.heap.update p f,toks:=t}:=by
 have e:(s.heap.update p f).get? p=AA {cls:=.type "list",data:=.seq its'.toArray n'}:=by
  rw[FB f ho (by rw[hf]<;>rfl),hf]
 refine I.write (x:=p) (e:=p) (by rw[h];trivial) (.inl rfl) (λb u hb q=>(DF _ _ (BL hb)).trans q) ⟨_,e⟩ ?_;exact⟨hz,its',n',r,e⟩
def ydy:V->V->V->Hp->(Hp->Prop)->Prop:=λo i v H Q=>∃p xs k j,o=.ref p/\i=.int k/\H p=AA (.lst xs)/\ixN xs.length k=AA j/\Q (upd H p (.lst (xs.set j v)))
theorem zgk:ye1 X ydy:=by
 intro pins s σ H o i v ov iv u Q I ro ri rv h;let⟨p,xs,k,j,rfl,rfl,hp,hj,q⟩:=h
 cases ro
 let⟨t,rfl⟩:=ri;let⟨its,n,r,ho,hz⟩:=I.lst hp;let⟨h1,h2,h3,h4⟩:=zij hj;have hl:=r.length;have hn:=yaV;have I':Inv X pins σ (upd H p (.lst (xs.set j v))) {s with heap:=s.heap.update p (Em (·.setIfInBounds j u))}:=
  I.lstUpd hp ho (zgQ its n j u) (r.set rv j) (by rw[B1];exact hz) s.toks
 by_cases h0:0<=k
 .have hk:k.toNat=j:=by
   rw[GY h0 h4]at h1;exact AY h1
  exact PySem.W.ki_setAt ho h0 (by lia) (by rw[AZ,<-hl];exact h4) (by rw[hk];exact⟨_,I',q⟩)
 .have hk:(k+(its.toArray.size:Int)).toNat=j:=by
   rw[seqIndex_neg (by lia) h3]at h1;rw[AZ,<-hl];exact AY h1
  exact PySem.W.ki_setBack ho (by lia) (by rw[AZ,<-hl];exact h3) (by lia) (by rw[hk];exact⟨_,I',q⟩)
theorem zfa(lo hi:Option Int)(n:Nat):(sliceBounds lo hi AD n).1=((HT.sIx n 0 lo:Nat):Int)/\(sliceBounds lo hi AD n).2.1=((HT.sIx n n hi:Nat):Int)/\(sliceBounds lo hi AD n).2.2=1:=by
 refine⟨?_,?_,rfl⟩
 .cases lo with
  |none=>simp[sliceBounds,HT.sIx]
  |some i=>
   erw[sliceBounds,HT.sIx,GQ,show (1:Int) > 0 by decide,if_true]
   by_cases h:i<0
   .simp only[h,if_true]<;>lia
   .simp only[h,if_false]<;>lia
 .cases hi with
  |none=>simp[sliceBounds,HT.sIx]
  |some i=>
   erw[sliceBounds,HT.sIx,GQ,show (1:Int) > 0 by decide,if_true]
   by_cases h:i<0
   .simp only[h,if_true]<;>lia
   .simp only[h,if_false]<;>lia
theorem zet(its:List AG)(lo hi:Option Int):slicePick its.toArray lo hi AD=((its.drop (HT.sIx its.length 0 lo)).take (HT.sIx its.length its.length hi-HT.sIx its.length 0 lo)).toArray:=by
 let⟨h1,h2,h3⟩:=zfa lo hi its.toArray.size;unfold slicePick;rw[h1,h2,h3];erw[sliceRange_one,pick_run,AZ]<;>rfl
def ygg(K:AE):V->Option Int->Option Int->Hp->VK->Prop:=λx lo hi H Q=>∃a xs,x=.ref a/\SqL K H a xs/\∀p,H p=AD->Q (.ref p) (upd H p (.lst (ycq xs lo hi)))
theorem zin:SlR X (ygg X.K):=by
 intro pins s σ H x v vl vu lo hi sl Q I rx hs pl pu h;let⟨a,xs,rfl,hx,q⟩:=h
 cases rx
 let⟨its,r,ht,hz⟩:=I.list hx;have hlen:=r.length;refine⟨"list",_,Fq.lookup,ht.isList.typeIs,?_⟩;refine wpAny_getItem_list_slice ht.isList hs pl pu .none (by simp) ?_ (by rw[AZ]<;>lia);rw[zet,<-hlen];refine⟨.ref s.heap.objs.size,_,I.laid (t':=s.toks) (o:=.lst (ycq xs lo hi)) (λb ob q=>AR _ q) (AU _) ?_,rfl,q _ (I.hok.fresh (AU _))⟩;exact⟨BO (zcW xs lo hi) hz,_,0,(r.drop (HT.sIx xs.length 0 lo)).take (HT.sIx xs.length xs.length hi-HT.sIx xs.length 0 lo),A0 _ rfl⟩
def ya3:V->Bool
 |.non=>AB
 |.bl _=>AB
 |.int _=>AB
 |.str _=>AB
 |_=>AC
def eqV:V->V->Bool
 |.non,.non=>AB
 |.bl a,.bl b=>a==b
 |.bl a,.int b=>(if a then 1 else 0)==b
 |.int a,.bl b=>a==(if b then 1 else 0)
 |.int a,.int b=>a==b
 |.str a,.str b=>a==b
 |_,_=>AC
theorem zoH{A:Ao}{s:AJ}{y x:V}{u v:AG}(ry:RelV y u)(rx:RelV x v)(fy:ya3 y=AB)(fx:ya3 x=AB):HZ A s u v (eqV y x):=by
 cases y with
 |non=>
  cases ry
  cases x with
  |non=>cases rx;exact SeqAt.EqAt.same _
  |bl b=>cases rx;exact SeqAt.EqAt.none_bool b
  |int b=>let⟨t,rfl⟩:=rx;exact SeqAt.EqAt.none_int b t
  |str b=>let⟨t,rfl⟩:=rx;exact SeqAt.EqAt.none_str b t
  |_=>exact absurd (show AC=AB from fx) Az
 |bl a=>
  cases ry
  cases x with
  |non=>cases rx;exact SeqAt.EqAt.bool_none a
  |bl b=>cases rx;exact SeqAt.EqAt.bool_bool a b
  |int b=>let⟨t,rfl⟩:=rx;exact SeqAt.EqAt.bool_int a b t
  |str b=>let⟨t,rfl⟩:=rx;exact SeqAt.EqAt.bool_str a b t
  |_=>exact absurd (show AC=AB from fx) Az
 |int a=>
  let⟨t',rfl⟩:=ry
  cases x with
  |non=>cases rx;exact SeqAt.EqAt.int_none a t'
  |bl b=>cases rx;exact SeqAt.EqAt.int_bool a t' b
  |int b=>let⟨t,rfl⟩:=rx;exact SeqAt.EqAt.int_int a t' b t
  |str b=>let⟨t,rfl⟩:=rx;exact F6 a t' b t
  |_=>exact absurd (show AC=AB from fx) Az
 |str a=>
  let⟨t',rfl⟩:=ry
  cases x with
  |non=>cases rx;exact SeqAt.EqAt.str_none a t'
  |bl b=>cases rx;exact SeqAt.EqAt.str_bool a t' b
  |int b=>let⟨t,rfl⟩:=rx;exact F7 a t' b t
  |str b=>let⟨t,rfl⟩:=rx;exact SeqAt.EqAt.str_str a t' b t
  |_=>exact absurd (show AC=AB from fx) Az
 |_=>exact absurd (show AC=AB from fy) Az
def eqU(x:V)(u:AG):Bool:=match u with
 |.none=>eqV .non x
 |.bool b=>eqV (.bl b) x
 |.int i _=>eqV (.int i) x
 |.str z _=>eqV (.str z) x
 |_=>AC
theorem zki{x y:V}{u:AG}(r:RelV y u)(f:ya3 y=AB):eqU x u=eqV y x:=by
 cases y with
 |non=>cases r;rfl
 |bl b=>cases r;rfl
 |int i=>let⟨t,rfl⟩:=r;rfl
 |str z=>let⟨t,rfl⟩:=r;rfl
 |_=>exact absurd (show AC=AB from f) Az
theorem zfz{x:V}:∀{xs:List V} {us:List AG},Vals xs us->xs.all ya3=AB->us.any (eqU x)=xs.any λy=>eqV y x
 |_,_,.nil,_=>rfl
 |y::xs,u::us,.cons r t,f=>by
  rw[B8,AK]at f;rw[BN,BN,zki r f.1,zfz t f.2]
theorem zd6{A:Ao}{s:AJ}{x:V}{v:AG}(rx:RelV x v)(fx:ya3 x=AB):∀{xs:List V} {us:List AG},Vals xs us->xs.all ya3=AB->∀u∈us,HZ A s u v (eqU x u)
 |_,_,.nil,_=>λu hu=>by cases hu
 |y::xs,u::us,.cons r t,f=>λu' hu=>by
  rw[B8,AK]at f;rcases A3.mp hu with rfl|hu
  .rw[zki r f.1];exact zoH r rx f.1 fx
  .exact zd6 rx fx t f.2 u' hu
def inV(x:V)(xs:List V):Bool:=xs.any λy=>eqV y x
def rIn(K:AE)(neg:Bool):R2:=λx y H Q=>∃p xs,y=.ref p/\(SqL K H p xs \/ SqT K H p xs)/\ya3 x=AB/\xs.all ya3=AB/\Q (.bl (if neg then !inV x xs else inV x xs)) H
theorem zfj:OpR X (compareOp .In) (rIn X.K AC):=by
 intro pins s σ H x y v u Q I rx ry h;let⟨p,xs,rfl,hq,fx,fs,q⟩:=h
 cases ry
 rcases hq with hq|hq
 .let⟨its,r,pl,hz⟩:=I.list hq;refine SeqAt.in_listAt (eqU x) pl.isList (λw hw=>zd6 rx fx r fs w (by simpa using hw)) ⟨.bl _,H,I,rfl,?_⟩;rw[show its.toArray.any (eqU x)=its.any (eqU x)by simp,zfz r fs];exact q
 .let⟨its,r,pl,hz⟩:=I.tuple hq;refine SeqAt.in_tupleAt (eqU x) pl (λw hw=>zd6 rx fx r fs w (by simpa using hw)) ⟨.bl _,H,I,rfl,?_⟩;rw[show its.toArray.any (eqU x)=its.any (eqU x)by simp,zfz r fs];exact q
theorem zeQ:yae X (.builtin "len") (λxs H Q=>∃p ys,xs=[.ref p]/\(SqL X.K H p ys \/ SqT X.K H p ys)/\Q (.int ys.length) H):=by
 intro pins s σ H xs us Q I r h;let⟨p,ys,rfl,hq,q⟩:=h;let⟨u,rfl,rx⟩:=vals1 r
 cases rx
 have hn:=yaV;rcases hq with hq|hq
 .let⟨its,r',pl,hz⟩:=I.list hq;have hlen:=r'.length;exact Calls.call_len_list pl.isList (by erw[AZ]<;>lia) ⟨.int ys.length,H,I.tok _,⟨s.toks+1,by rw[AZ,hlen]⟩,q⟩
 .let⟨its,r',pl,hz⟩:=I.tuple hq;have hlen:=r'.length;exact len_tuple pl (by erw[AZ]<;>lia) ⟨.int ys.length,H,I.tok _,⟨s.toks+1,by rw[AZ,hlen]⟩,q⟩
theorem zeJ:yae X (.builtin "len") (λxs H Q=>∃z,xs=[.str z]/\z.length<=sizeLine/\Q (.int z.length) H):=by
 intro pins s σ H xs us Q I r h;let⟨z,rfl,hz,q⟩:=h;let⟨u,rfl,t,rfl⟩:=vals1 r;have hn:=yaV;exact len_str (by lia) ⟨.int z.length,H,I.tok _,⟨_,rfl⟩,q⟩
theorem zcd:yae X (.type "tuple") (λxs H Q=>∃p ys,xs=[.ref p]/\((SqL X.K H p ys/\∀l,H l=AD->Q (.ref l) (upd H l (.tup ys))) \/ (SqT X.K H p ys/\Q (.ref p) H))):=by
 intro pins s σ H xs us Q I r h;let⟨p,ys,rfl,h⟩:=h;let⟨u,rfl,rx⟩:=vals1 r
 cases rx
 rcases h with⟨hq,q⟩|⟨hq,q⟩
 .let⟨its,r',pl,hz⟩:=I.list hq;have hlen:=r'.length;refine call_tuple_list pl.isList (λh' kp=>?_) (by erw[AZ]<;>lia);have I1:Inv X pins σ H {s with heap:=h'}:=I.kept (t':=s.toks) kp;have I2:Inv X pins σ (upd H h'.objs.size (.tup ys)) {s with heap:=h'.push {cls:=.type "tuple",data:=.seq its.toArray} }:=
   I1.laid (t':=s.toks) (λb o e=>AR _ e) (AU _) (show yV X.prog X.w _ _ _ (.tup ys)from ⟨hz,its,r',GJ _ _⟩)
  exact⟨.ref h'.objs.size,_,I2,rfl,q _ (I1.hok.fresh (AU _))⟩
 .let⟨its,r',pl,hz⟩:=I.tuple hq;exact call_tuple_same pl ⟨.ref p,H,I,rfl,q⟩
def tyV(K:AE)(T:String)(x:V)(H:Hp):Prop:=match x with
 |.str _=>T="str"
 |.int _=>T="int"
 |.ref p=>(T="list"/\∃xs,SqL K H p xs) \/ (T="tuple"/\∃o,K.lookup p=AA o/\o.cls=.type "tuple"/\o.dict=AD) \/
   (T="dict"/\((∃kvs,H p=AA (.dK kvs)) \/ ∃kvs,H p=AA (.dT kvs))) \/ (T="set"/\∃S n,H p=AA (.set S n))
 |_=>False
theorem zoS{pins:List (AI×Bu)}{σ:St}{H:Hp}{s:AJ}{T:String}{x:V}{v:AG}(I:Inv X pins σ H s)(r:RelV x v)(ty:tyV X.K T x H):
  s.TypeIs v T/\∀a,v=.ref a->∃ob,s.heap.get? a=AA ob/\ob.dict=none:=by
 cases x with
 |str z=>
  let⟨t,rfl⟩:=r
  cases (show T="str" from ty)
  exact⟨Gg s z t,λ_ e=>nomatch e⟩
 |int i=>
  let⟨t,rfl⟩:=r
  cases (show T="int" from ty)
  exact⟨typeIs_int s i t,λ_ e=>nomatch e⟩
 |ref p=>
  cases r
  rcases ty with⟨rfl,xs,hq⟩|⟨rfl,o,hk,hc,hd⟩|⟨rfl,hk⟩|⟨rfl,S,n,hk⟩
  .let⟨its,_,pl,_⟩:=I.list hq;refine⟨pl.isList.typeIs,λa e=>?_⟩
   cases e
   let⟨o,n,e,c,hd,_⟩:=pl;exact⟨o,e,hd⟩
  .refine⟨⟨o,I.kIn p o hk,hc⟩,λa e=>?_⟩
   cases e
   exact⟨o,I.kIn _ o hk,hd⟩
  .have z:∃o,s.heap.get? p=AA o/\o.ExactDict:=by
    rcases hk with⟨kvs,hk⟩|⟨kvs,hk⟩
    .let⟨_,_,_,_,o,_,_,e,ex,_⟩:=I.hok p _ hk;exact⟨o,e,ex⟩
    .let⟨_,_,_,_,o,_,_,e,ex,_⟩:=I.hok p _ hk;exact⟨o,e,ex⟩
   let⟨o,e,ex⟩:=z;refine⟨⟨o,e,ex.1⟩,λa e2=>?_⟩
   cases e2
   exact⟨o,e,ex.2.1⟩
  .let⟨o,_,_,_,e,ex,_⟩:=I.hok p _ hk;refine⟨⟨o,e,ex.1⟩,λa e2=>?_⟩
   cases e2
   exact⟨o,e,ex.2.1⟩
 |_=>exact Bc ty
def tBM(K:AE)(T:String)(r:V->List V->Hp->VK->Prop)(to:TE)(t:TA):TE:=λσ H Q=>to σ H λx H1=>tyV K T x H1/\t σ H1 λxs H2=>r x xs H2 Q
variable {o e:AT}{es:List AT}{to:TE}{t:TA}{name:AQ}{apos cpos:CJ}{T id:String}{r:V->List V->Hp->VK->Prop}
theorem zpp(pa:PlainAttrs T)(slot:Slot T name id)(hty:typeOf (.builtin id)=pure (.type "method_descriptor"))(hm:MtR X id r)(ho:PE X o to)(ha:PA X (e::es) t)
  (hbase:attributeBase o name X.env (eval o X.env)=eval o X.env:=by rfl)
  (hfew:((backTo cpos (starEach (e::es) X.env)).all (λx=>!x.1)&&(backToKw cpos (keywordEach [] X.env)).all (λx=>x.1.isSome)
   && decide ((e::es).length+([]:List CQ).length+(if ([]:List CQ).isEmpty then 0 else 1)<30))=true:=by rfl)
  (hline:(apos.endLine==cpos.line)=true:=by rfl) (hs:starEach (e::es) X.env=(AC,eval e X.env)::starEach es X.env:=by rfl) (hplain:(backTo cpos (starEach es X.env)).any (·.1)=false:=by rfl):
  PE X (.Call (.Attribute o name apos) (e::es) [] cpos) (tBM X.K T r to t):=by
 intro pins s σ H Q I h;refine wpAny_Call_method_late hbase hfew hline rfl (thn (ho pins s σ H _ I h) λv s1 kq=>?_);let⟨x,H1,I1,r1,ty,q1⟩:=kq;let⟨h1,h2⟩:=zoS I1 r1 ty;refine⟨T,id,pa,slot,hty,h1,h2,?_⟩;have hA:=ha cpos pins s1 σ H1 _ I1 q1;rw[hs]at hA ⊢;refine En (by show (AC || (backTo cpos (starEach es X.env)).any (·.1))=AC;rw[hplain]<;>rfl) (FG ?_);exact thn hA λus s2 ⟨vs,H2,I2,r2,q2⟩=>hm pins s2 σ H2 x vs v us Q I2 r1 r2 q2
/- xs.append(e),list.index on a module's tuple .. are MtR facts of 06m -/
end
def MtM(X:Cx)(id:String)(r:V->List V->Hp->VK->Prop):Prop:=
 ∀(pins:List (AI×Bu)) (s:AJ) (σ:St) (H:Hp) (x:V) (xs:List V) (v:AG) (us:List AG) (Q:VK),Inv X pins σ H s->RelV x v->Vals xs us->r x xs H Q ->
  A1 (model X.prog X.w) X.A (call (.builtin id) (v::us)) (EP X pins σ Q) X.xe s
theorem Vals.one:∀{x:V} {us:List AG},Vals [x] us->∃u,us=[u]/\RelV x u
 |_,_,.cons r .nil=>⟨_,rfl,r⟩
theorem Vals.reverse{xs:List V}{us:List AG}(h:Vals xs us):Vals xs.reverse us.reverse:=by
 induction h with
 |nil=>exact .nil
 |cons r t ih=>rw[DG,DG];exact Vals.append ih (.cons r .nil)
section
variable {X:Cx}{pins:List (AI×Bu)}{σ:St}{H:Hp}{s:AJ}{l b:AI}{xs ys zs:List V}
theorem Inv.lset{its its':List AG}{n:Nat}{f:Array AG->Array AG}{t':Nat}(I:Inv X pins σ H s)(hH:H l=AA (.lst xs))
  (e:s.heap.get? l=AA {cls:=.type "list",data:=.seq its.toArray n}) (hf:f its.toArray=its'.toArray) (hv:Vals ys its') (hz:ys.length<=sizeLine):
  Inv X pins σ (upd H l (.lst ys)) {s with heap:=s.heap.update l (Em f),toks:=t'}:=by
 have q:=PySem.IsL.update e f;rw[hf]at q;refine I.write (x:=l) (e:=l) (by rw[hH];exact trivial) (.inl rfl) (λb' u hb hu=>(DF s.heap (Em f) (BL hb)).trans hu) ⟨_,q⟩ ?_;exact⟨hz,its',_,hv,q⟩
theorem Inv.lnew{its:List AG}{t':Nat}(I:Inv X pins σ H s)(hv:Vals ys its)(hz:ys.length<=sizeLine):
  Inv X pins σ (upd H s.heap.objs.size (.lst ys)) {s with heap:=s.heap.push {cls:=.type "list",data:=.seq its.toArray},toks:=t'}:=
 I.laid (λ_ _ q=>AR _ q) (AU _) ⟨hz,its,0,hv,A0 _ rfl⟩
theorem Inv.fresh(I:Inv X pins σ H s):H s.heap.objs.size=none:=I.hok.fresh (AU _)
theorem Inv.lstM(I:Inv X pins σ H s)(hH:H l=AA (.lst xs)):xs.length<=sizeLine/\∃(its:List AG) (n:Nat),Vals xs its/\xs.length=its.length/\s.heap.get? l=AA {cls:=.type "list",data:=.seq its.toArray n}:=by
 let⟨z,its,n,r,e⟩:=I.hok l _ hH;exact⟨z,its,n,r,r.length,e⟩
end
section
variable {X:Cx}
def ycG:V->List V->Hp->VK->Prop:=λx vs H Q=>∃l xs y,x=.ref l/\vs=[y]/\H l=AA (.lst xs)/\xs.length<sizeLine/\Q .non (upd H l (.lst (xs++[y])))
theorem ze9:MtM X "list.append" ycG:=by
 intro pins s σ H x vs v us Q I rx rv h;let⟨l,xs,y,rfl,rfl,hH,hz,q⟩:=h
 cases rx
 let⟨u,rfl,ru⟩:=rv.one;let⟨z,its,n,r,hl,e⟩:=I.lstM hH;refine call_meets FC ⟨_,e,rfl⟩ F.entry_list_append (F.args_list_append_2 _ _) (PySem.list_append l its.toArray n u (by rw[AZ];lia)) ⟨e,?_⟩;refine⟨.non,_,I.lset (its':=its++[u]) hH e (by simp) (r.append (.cons ru .nil)) ?_,rfl,q⟩;rw[Af,DN];lia
def ygQ:R2:=λx y H Q=>∃l b xs zs,x=.ref l/\y=.ref b/\H l=AA (.lst xs)/\H b=AA (.lst zs)/\xs.length+zs.length<=sizeLine/\∀p,H p=AD->Q (.ref p) (upd H p (.lst (xs++zs)))
theorem zmF:OpR X (binaryOp .Add) ygQ:=by
 intro pins s σ H x y v u Q I rx ry h;let⟨l,b,xs,zs,rfl,rfl,hH,hB,hz,q⟩:=h
 cases rx
 cases ry
 let⟨z,its,n,r,hl,e⟩:=I.lstM hH;let⟨z2,its2,n2,r2,hl2,e2⟩:=I.lstM hB;refine PySem.P.add_list e e2 ?_ (by rw[AZ,AZ];lia);have ea:its.toArray++its2.toArray=(its++its2).toArray:=by simp
 rw[ea];exact⟨.ref _,_,I.lnew (t':=s.toks) (r.append r2) (by rw[Af];lia),rfl,q _ I.fresh⟩
end
section
variable {prog:A8}{w:Aj}{A:Ao}{E:AG->AJ->Prop}{s:AJ}
end
section
variable {X:Cx}
end
end L2
namespace Att
open PySem PySem.W PySem.Calls PyProof.Rows
theorem zcN{P:Params}{h:BB}:∀(ns:List Int) (vs:List AG),WellAll P h vs (ns.map Hf)->FR vs ns:=by
 intro ns
 induction ns with
 |nil=>
  intro vs w;rw[Aa]at w
  cases w
  exact .nil
 |cons n ns ih=>
  intro vs w;rw[AL]at w
  cases w with
  |cons a b=>
   cases a
   exact .cons _ _ (ih _ b)
theorem ziJ{l:Ef}{n:Nat}(hn:l.most=AA n){P:Params}{h:BB}{args:List WData}{vals:List AG}
  (hpre:l.row.toRowW.claim.pre args=AB) (hwl:WellAll P h vals args):
  ∃a vs ns,vals=[Ah a]/\args=[WData.list (ns.map Hf)]/\h.get? a=AA {cls:=.type "list",data:=.seq vs.toArray}/\FR vs ns/\ns.length<=n:=by
 have hsh:WShape.hasAll [] args [.list .int]=true:=(pre_splitW hpre).1;have hc:l.pre.holds [] {args:=args}=true:=(pre_splitW hpre).2;let⟨d,r,rfl,h1,h2⟩:=hasAllW_cons hsh;obtain rfl:=hasAllW_nil h2;let⟨xs,rfl,h3⟩:=hasW_list h1;let⟨ns,rfl⟩:=items_int h3;have hlen:ns.length<=n:=by
  unfold OpenLaw.pre at hc;have h4:(WTm.not (.lt (.lit (.int (n:Int))) (.len (.arg 0)))).holds [] {args:=[.list (ns.map .int)]}=true:=by
   have h4:=(holds_andW hc).1;rw[hn]at h4;exact h4
  have h5:=condW_of h4 (w_not (w_lt w_lit (w_len_list (w_arg rfl))));rw[BD]at h5;refine Nat.le_of_not_lt λq=>?_;have q':(n:Int)<((ns.length:Nat):Int):=by lia
  first
   |(rw[decide_eq_true q']at h5;exact absurd h5 (by decide))
   |(simp at h5;lia)
 cases hwl with
 |cons w1 w2=>
  cases w2
  cases w1 with
  |list ho hall=>exact⟨_,_,ns,rfl,rfl,ho,zcN ns _ hall,hlen⟩
theorem zhk(l:Ef)(args:List WData):l.row.toRowW.claim.post args (.bool AB) args=true:=
 postW_of (r:=l.row.toRowW) (X:=(AB==AB))
  (show Ha [] (.bool AB) .bool=AB by first|rfl|decide|simp[Ha,WShape.arms,WShape.armsAll])
  (show (WTm.eq .res (.lit (.bool AB))).value [] {args:=args,res:=AA (.bool AB),after:=args}=AA (.bool (AB==AB))from w_eq_bool (w_res rfl) w_lit) rfl
theorem attach_call{l:Ef}{n:Nat}{q:A8}{loose:List AQ}{XP:(AQ->Option AG)->BB->Prop}{YP:Aj->BB->Prop}{d:DefRec}
  (hn:l.most=AA n) (hdf:d.params.defaults=[])
  (call:∀(w:Aj) (s₀ s₁:AJ) (mg mb:AQ->Option AG) (fa:AI) (o:Bu) (pm cd doc:AG) (a:AI) (vs:List AG) (ns:List Int),
   Ground q loose [] XP w s₀ mg mb s₁.heap->YP w s₁.heap ->
   s₁.heap.get? fa=AA o->o.data=.func (docDef d.name d.params d.body d.scope pm cd doc)->s₁.heap.CodeRec cd d.name->mg d.name=AA (.ref fa) ->
   s₁.heap.get? a=AA {cls:=.type "list",data:=.seq vs.toArray}->FR vs ns->ns.length<=n->s₁.gens=#[] ->
   codeAny (model l.prog w) callerA (.call (.ref fa) ⟨[.ref a],[]⟩) (λr s'=>r=.ok (.ret (.bool AB))/\OldK s₁.heap s'.heap/\s'.os=s₁.os/\DV s'.gens) s₁):
  G8 q loose XP YP l.row.toRowW d [] (λf vs=>Gh f vs):=by
 intro w s₀ s₁ mg mb G Y fa o pm cd doc dV kV ho hd hcd hD hmg hg args vals as hpre hlay hrd hwl hlo;obtain rfl:dV=.none:=Dflts.none hD hdf;obtain rfl:kV=.none:=Dflts.noKw hD;let⟨a,vs,ns,rfl,rfl,hobj,hints,hlen⟩:=ziJ hn hpre hwl;refine enter_call (De (call w s₀ s₁ mg mb fa o pm cd doc a vs ns G Y ho (fd_plain hd) hcd hmg hobj hints hlen hg) λr s' hq=>?_);let⟨rfl,h2,h3,h4⟩:=hq;exact⟨.inl ⟨.bool AB,.bool AB,[],rfl,λ_=>rfl,.bool AB,zhk l _,λ_=>⟨Hd,λ_ hm=>(nomatch hm)⟩⟩,h2,h3,h4⟩
section
variable {prog:A8}{w:Aj}{A:Ao}{E:AG->AJ->Prop}{s:AJ}{K:AE}
end
end Att
namespace L2
open PySem PySem.Spec PyProof.Rows
theorem zeA:∀{vs:List AG} {ns:List Int},FR vs ns->Vals (ns.map V.int) vs
 |_,_,.nil=>.nil
 |_,_,.cons n t h=>.cons ⟨t,rfl⟩ (zeA h)
def Only(H:Hp):Prop:=∀b,H b=AD \/ ∃o xs,H b=AA (.frz o (.lst xs))
theorem zkc{P:A8}{w:Aj}{K:AE}{mg mb:AQ->Option AG}{CX:CXT}{k:Nat}{fa a:AI}{fd:BC}{x:AQ}{sp:Sp}{s₁:AJ}{vs:List AG}{ns:List Int}
  (KX:K.In s₁.heap) (hns:s₁.heap.Ns mainGlobals mg) (hb:s₁.heap.Ns builtinsNs mb) (hbb:∀x:AQ,x ≠ "__name__"->mb x=bootBuiltins x) (hlim:s₁.heap.NoLimit) (hg:s₁.gens=#[])
  (ha:s₁.heap.get? a=AA {cls:=.type "list",data:=.seq vs.toArray}) (hi:FR vs ns) (hl:ns.length<=sizeLine) (hr:yav k callerA)
  (F:∀base:BB,K.In base->base.Ns mainGlobals mg->yaJ P w K mg base CX k fa fd [x] sp) (hbind:∀(s:AJ) (u:AG),FP s fd ⟨[u],[]⟩ [(x,u)])
  (hsp:∀H:Hp,Only H->SqL K H a (ns.map V.int)->sp [.ref a] H (λv _=>v=.bl AB) λ_ _ _=>False)
  (hCX:∀H e s',CX [] H s₁ (λ_ _ _=>False) e s'->False):
  codeAny (model P w) callerA (.call (.ref fa) ⟨[.ref a],[]⟩) (λr s'=>r=.ok (.ret (.bool AB))/\OldK s₁.heap s'.heap/\s'.os=s₁.os/\DV s'.gens) s₁:=by
 have rv:=zeA hi;have lenV:=hi.length;have core:∀H:Hp,Only H->SqL K H a (ns.map V.int)->HOk P w H s₁.heap->(∀b,H b≠AD->b=a)->(H a≠AD->K.lookup a=AD) ->
   codeAny (model P w) callerA (.call (.ref fa) ⟨[.ref a],[]⟩) (λr s'=>r=.ok (.ret (.bool AB))/\OldK s₁.heap s'.heap/\s'.os=s₁.os/\DV s'.gens) s₁:=by
  intro H hO hS hok hA hK;have base_of:∀{b:AI} {o:Bu},s₁.heap.get? b=AA o->H b=AD->(ycj s₁.heap H).get? b=AA o:=λe n=>zju e n;have noA:∀{b:AI} {o:Bu} {es:Array By} {ep:Nat},s₁.heap.get? b=AA o->o.data=.dict es ep->H b=none:=λ{b o es ep} e d=>by
   cases q:H b with
   |none=>rfl
   |some u=>
    have e':b=a:=hA b (by rw[q];simp);subst e';rw[ha]at e;cases e;have d':Data.seq vs.toArray _=Data.dict es ep:=d
    cases d'
  have nsK:∀{b:AI} {m:AQ->Option AG},s₁.heap.Ns b m->(ycj s₁.heap H).Ns b m:=λ{b m} ⟨o,es,ep,e,d,r⟩=>⟨o,es,ep,base_of e (noA e d),d,r⟩;have hKb:K.In (ycj s₁.heap H):=λb o e=>base_of (KX b o e) (by
   cases q:H b with
   |none=>rfl
   |some u=>
    have e':b=a:=hA b (by rw[q];simp);subst e';rw[hK (by rw[q];simp)]at e;cases e)
  have hM:Mod K mg (ycj s₁.heap H):=⟨hKb,nsK hns,⟨mb,nsK hb,hbb⟩,let ⟨mc,h1,h2⟩:=hlim;⟨mc,nsK h1,h2⟩⟩;have e0:ycC P w K mg (ycj s₁.heap H) callerA [] s₁ H:=⟨rfl,hM,λb o e=>zlk e,Gz (zhB _ _),trivial,λb hb=>absurd (show b∈([]:List AI)from hb) (by simp),hok,.of_eq hg⟩;refine De ((F _ hKb (nsK hns)).run callerA [] s₁ H ⟨[.ref a],[]⟩ [.ref a] [.ref a] _ _ hr e0 (hbind s₁ (.ref a)) (.cons rfl .nil) (hsp H hO hS)) λr s' h=>?_
  cases r with
  |error e=>exact(hCX H e s' h).elim
  |ok fl=>
   cases fl with
   |next=>exact Bc h
   |brk=>exact Bc h
   |cont=>exact Bc h
   |ret u=>
    let⟨v,H',os,bare,un,hok',r',q⟩:=h;have q':v=.bl true:=q;subst q';obtain rfl:u=Do true:=r';refine⟨rfl,OldK.of_keep λb o e=>?_,os,bare⟩
    cases q:H b with
    |none=>exact un.keep b o e q (by intro z;exact absurd (show b∈([]:List AI)from z) (by simp)) (by simp)
    |some u=>
     rcases hO b with z|⟨ob,xs,z⟩
     .rw[q]at z;cases z
     .have z2:=un.frzs b ob _ z;let⟨e1,_⟩:=hok b _ z;let⟨e2,_⟩:=hok' b _ z2;rw[e]at e1;cases e1;exact e2
 cases hk:K.lookup a with
 |some o=>
  have e:=KX a o hk;rw[ha]at e
  cases e
  refine core (λ_=>AD) (λ_=>.inl rfl) (.inr ⟨_,vs.toArray,_,hk,rfl,rfl,rfl,by rw[AZ,lenV];exact hl,by simpa using rv⟩) (λb u z=>by have z':(AD:Option HO)=AA u:=z;cases z') (λb z=>absurd rfl z) λz=>absurd rfl z
 |none=>
  refine core (λb=>if b=a then AA (.frz {cls:=.type "list",data:=.seq vs.toArray} (.lst (ns.map V.int)))else AD) (λb=>?_) (.inl (.inr ⟨{cls:=.type "list",data:=.seq vs.toArray},if_pos rfl⟩)) (λb u z=>?_) (λb z=>?_) λ_=>hk
  .by_cases hb:b=a
   .exact .inr ⟨_,_,if_pos hb⟩
   .exact .inl (if_neg hb)
  .by_cases hb:b=a
   .have z':=(if_pos hb).symm.trans z
    cases z'
    subst hb;exact⟨ha,by rw[BD];exact hl,vs,_,rv,ha⟩
   .have z':=(if_neg hb).symm.trans z
    cases z'
  .by_cases hb:b=a
   .exact hb
   .exact absurd (if_neg hb) z
theorem walk_of{l:Ef}{n k:Nat}{q:A8}{loose:List AQ}{XP:(AQ->Option AG)->BB->Prop}{YP:Aj->BB->Prop}{d:DefRec}{K:Params->AE}{CX:Aj->CXT}{sp:Aj->Sp}{x:AQ}
  (hn:l.most=AA n) (hn2:n<=sizeLine) (hdf:d.params.defaults=[]) (hr:yav k callerA)
  (hY:∀(w:Aj) (h:BB),YP w h->(K w.params).In h)
  (F:∀(w:Aj) (mg:AQ->Option AG) (fa:AI) (h:BB),(K w.params).In h->h.Ns mainGlobals mg->mg d.name=AA (.ref fa) ->
   ∃fd:BC,(∀(s:AJ) (u:AG),FP s fd ⟨[u],[]⟩ [(x,u)]) /\
    ∀base:BB,(K w.params).In base->base.Ns mainGlobals mg->yaJ l.prog w (K w.params) mg base (CX w) k fa fd [x] (sp w))
  (hsp:∀(w:Aj) (H:Hp) (a:AI) (ns:List Int),ns.length<=n->Only H->SqL (K w.params) H a (ns.map V.int)->sp w [.ref a] H (λv _=>v=.bl AB) λ_ _ _=>False)
  (hCX:∀(w:Aj) (H:Hp) (s:AJ) (e:AG) (s':AJ),CX w [] H s (λ_ _ _=>False) e s'->False):
  G8 q loose XP YP l.row.toRowW d [] (λf vs=>Gh f vs):=by
 refine Att.attach_call hn hdf λw s₀ s₁ mg mb fa o pm cd doc a vs ns G Y ho hd hcd hmg hobj hints hlen hg=>?_;have KX:=hY w _ Y;let⟨fd,hb,hF⟩:=F w mg fa _ KX G.T.g hmg;exact zkc KX G.T.g G.T.b G.T.builtins G.T.nolimit hg hobj hints (BO hlen hn2) hr hF hb (λH hO hS=>hsp w H a ns hlen hO hS) λH e s'=>hCX w H s₁ e s'
def inClass(s:Bp)(j:Nat):Stmt:=match s with
 |.ClassDef _ _ _ body _ _ _ _ _ _ _=>body.getD j (.Pass ⟨0,0,0,0⟩)
 |_=>.Pass ⟨0,0,0,0⟩
def yaf(s:Bp):Arguments:=match s with
 |.FunctionDef _ a _ _ _ _ _ _ _ _=>a
 |_=>{posonlyargs:=[],args:=[],vararg:=AD,kwonlyargs:=[],kw_defaults:=[],kwarg:=AD,defaults:=[]}
def yab(s:Bp):List Stmt:=match s with
 |.FunctionDef _ _ b _ _ _ _ _ _ _=>b
 |_=>[]
def yH(s:Bp):Scope:=match s with
 |.FunctionDef _ _ _ _ _ _ sc _ _ _=>sc
 |_=>{kind:=.function,names:=[],isGenerator:=AC,isCoroutine:=AC}
structure Fun(K:AE)(x qual:AQ)(st:Bp)(f:AI)(fd:BC):Prop where
 ex:∃(oc:AG) (od:Option AI) (kV doc pm:AG) (an:Option AI) (cdv ct:AG) (osl:Array (Option AG)),
  fd=B2 x qual (yaf st) (yab st) (yH st) .none kV doc pm an cdv ct/\K.lookup f=AA ⟨oc,od,.func fd,osl⟩/\CA K cdv qual=AB
 kp:Ap K (.ref f)=AB
section
variable {P:A8}{w:Aj}{K:AE}{mg:AQ->Option AG}{base:BB}
theorem Fun.binds{x qual:AQ}{st:Bp}{f:AI}{fd:BC}{ps:List AQ}(F:Fun K x qual st f fd)
  (h:∀(kV doc pm:AG) (an:Option AI) (cdv ct:AG) (us:List AG),us.length=ps.length->bindArgs (B2 x qual (yaf st) (yab st) (yH st) .none kV doc pm an cdv ct) ⟨us,[]⟩=pure (ps.zip us)):Binds K fd ps []:=by
 let⟨oc,od,kV,doc,pm,an,cdv,ct,osl,rfl,lk,hcd⟩:=F.ex;exact .all (h kV doc pm an cdv ct)
end
theorem zmf{A:Ao}{k:Nat}(hr:yav k A):A.units+1<cLine:=Nat.lt_of_le_of_lt (Nat.add_le_add_left (by decide:1<=64) _) hr.units
section
variable {X:Cx}
end
end L2
namespace WE
open PySem PySem.Spec PyProof.Rows
open AutoSeq1 (wpAny_loadPart')
section
variable {pg:A8}{wd:Aj}{A:Ao}{Er:AG->AJ->Prop}{s:AJ}
theorem zci{it t:AI}{i:Nat}{xs:Array AG}{x:AG}{Q:AG->AJ->Prop}(hi:s.heap.IsTupleIter it t i)(ht:s.heap.IsTuple t xs)(hx:xs[i]?=AA x)
  (k:∀h',h'.IsTupleIter it t (i+1)->C0 it s.heap h'->Q x {s with heap:=h'}):A1 (model pg wd) A (BR (.ref it)) Q Er s:=by
 let⟨oi,gi,ci,di⟩:=id hi;let⟨ot,gt,_,nt,dt⟩:=ht;unfold BR;refine AH (Bd (name:=AF "__next__") hi.typeIs CB (CT CB hi.typeIs Di ?_ (D5 _)));show A1 _ _ (field (.ref it) 0 >>= _) _ _ _;refine AH (BT gi di (x:=.ref t) rfl ?_);show A1 _ _ (if (Ah t==Bz)=AB then _ else _) _ _ _;rw[if_neg (show ¬((Ah t==Bz)=AB)from λz=>Az z)];show A1 _ _ (field (.ref it) 1 >>= _) _ _ _;refine AH (BT gi di (x:=.int i 0) rfl ?_);show A1 _ _ (seqItems? (.ref t) >>= _) _ _ _;refine AH (CU gt dt ?_);erw[CK,hx];refine AH (FH gi di (by simp) (AV ⟨x,rfl,AV (k _ ?_ (FW ..))⟩));refine⟨_,FB _ gi (Obj.isFreed_of_fields (Fb di _)),(Obj.cls_mapFields ..).trans ci,?_⟩;rw[Fb di];simp[rawInt]
theorem ze6{it t:AI}{i:Nat}{xs:Array AG}{Q:AG->AJ->Prop}(hh:A.handled=AD)(hi:s.heap.IsTupleIter it t i)(ht:s.heap.IsTuple t xs)(hx:xs[i]?=AD)
  (k:∀h' e,Heap.ExtBut it s.heap h'->(∃o,h'.get? e=AA o/\o.cls=.type "StopIteration")->Er (.ref e) {s with heap:=h'}):A1 (model pg wd) A (BR (.ref it)) Q Er s:=by
 let⟨oi,gi,ci,di⟩:=id hi;let⟨ot,gt,_,nt,dt⟩:=ht;unfold BR;refine AH (Bd (name:=AF "__next__") hi.typeIs CB (CT CB hi.typeIs Di ?_ (D5 _)));show A1 _ _ (field (.ref it) 0 >>= _) _ _ _;refine AH (BT gi di (x:=.ref t) rfl ?_);show A1 _ _ (if (Ah t==Bz)=AB then _ else _) _ _ _;rw[if_neg (show ¬((Ah t==Bz)=AB)from λz=>Az z)];show A1 _ _ (field (.ref it) 1 >>= _) _ _ _;refine AH (BT gi di (x:=.int i 0) rfl ?_);show A1 _ _ (seqItems? (.ref t) >>= _) _ _ _;refine AH (CU gt dt ?_);erw[CK,hx];refine AH (Eh (AH (FH gi di (by simp) ?_)));show A1 _ _ (newExc (.type "StopIteration") [] >>= _) _ _ _;refine AH ?_;erw[newExc,newTuple];refine AH (Bk ?_ (by size_fits));refine AH (m:=firstArgMember _ _) (wpAny_of_eq (a:=Bz) (by first|rfl|(erw[firstArgMember];rfl)) ?_);refine Bk ?_ (by size_fits);erw[raiseNew];refine AH (wpAny_handled ?_);first|rw[show A.in1.handled=AD from hh]|rw[hh]
 refine AH (AV (wpAny_throw ?_));exact k _ _ (((FW ..).extBut.push _).push _) ⟨_,A0 _ rfl,rfl⟩
end
theorem draws_tuple{pg:A8}{wd:Aj}{A:Ao}(hh:A.handled=AD)(it t:AI)(hne:t≠it)(xs:Array AG):
  Draws pg wd A it [it,t] xs.size (λi v=>xs[i]?=AA v) (λi h=>h.IsTupleIter it t i/\h.IsTuple t xs) where
 live:=λ_ _ st=>let ⟨o,g,_⟩:=st.1;⟨o,g⟩
 frame:=λ_ _ _ st kp=>⟨let ⟨o,g,r⟩:=st.1;⟨o,kp it (by simp) o g,r⟩,let ⟨o,g,r⟩:=st.2;⟨o,kp t (by simp) o g,r⟩⟩
 item:=λi s Q E hi st hQ=>zci st.1 st.2 (x:=xs[i]) (by simp[hi]) λh' hit' hs'=>hQ _ h' s.toks (by simp[hi]) ⟨hit',st.2.extBut hs'.extBut hne⟩ hs'
 done:=λs Q E st hE=>ze6 hh st.1 st.2 (by simp) hE
theorem zfA(l:AI)(xs:Array AG)(n:Nat)(dc:Option AI)(sl:Array (Option AG)):
  Meets (HA.«enumerate.__new__» ⟨[.type "enumerate",.ref l],[]⟩) (λ_ R s=>s.heap.get? l=AA {cls:=.type "tuple",dict:=dc,data:=.seq xs n,slots:=sl} /\
   R (.ok (.ret (.ref (s.heap.push {cls:=.type "tuple_iterator",data:=.fields #[.ref l,.int 0 0]}).objs.size)))
    {s with heap:=(s.heap.push {cls:=.type "tuple_iterator",data:=.fields #[.ref l,.int 0 0]}).push {cls:=.type "enumerate",data:=.fields #[.none,.bool AC,.ref s.heap.objs.size,rawInt 0,.none,.none]} }):=
 .of_wp λprog w A R s h=>by
  let⟨hp,g,d,tk,os⟩:=s;let⟨gl,h⟩:=h;have hsub:=sub_enumerate;have hT:Fr (GZ ⟨hp,g,d,tk,os⟩) l xs:=⟨_,gl,rfl,n,rfl⟩
  wp_walk using wpAny_loadPart' gl
  refine wpAny_stack_any λst=>AV ?_;split
  .rename_i c _ _ _ _ _
   cases (c==F8 "enumerate")
   .wp_walk using wpAny_loadPart' gl,Bm hT
    exact⟨_,rfl,h⟩
   .wp_walk using wpAny_loadPart' gl,Bm hT
    exact⟨_,rfl,h⟩
  .wp_walk using wpAny_loadPart' gl,Bm hT
   exact⟨_,rfl,h⟩
theorem call_enumT{pg:A8}{wd:Aj}{A:Ao}{Er:AG->AJ->Prop}{s:AJ}{l:AI}{xs:Array AG}{Q:AG->AJ->Prop}(hT:s.heap.IsTuple l xs)
  (k:∀h',IsEnum h' (s.heap.objs.size+1) s.heap.objs.size 0 .none->h'.IsTupleIter s.heap.objs.size l 0->h'.objs.size=s.heap.objs.size+2 ->
   (∀b o,s.heap.get? b=AA o->h'.get? b=AA o)->Q (.ref (s.heap.objs.size+1)) {s with heap:=h'}):A1 (model pg wd) A (call (.type "enumerate") [.ref l]) Q Er s:=by
 let⟨⟨c,dct,dt,sl⟩,gl,hc,n,hd⟩:=hT
 cases (show c=.type "tuple" from hc)
 cases (show dt=.seq xs n from hd)
 refine callType_new F.called_enumerate (by decide) (F.typeCall_enumerate_1 _) (F.newCall_enumerate_1 _) (λobj=>F.args_object_init_2 obj _) F.entry_enumerate_new (zfA l xs n dct sl) ⟨gl,?_⟩;have hz:(s.heap.push {cls:=.type "tuple_iterator",data:=.fields #[.ref l,.int 0 0]}).objs.size=s.heap.objs.size+1:=Bo ..;show _/\_;rw[hz];have he:IsEnum ((s.heap.push {cls:=.type "tuple_iterator",data:=.fields #[.ref l,.int 0 0]}).push {cls:=.type "enumerate",data:=.fields #[.none,.bool AC,.ref s.heap.objs.size,rawInt 0,.none,.none]}) (s.heap.objs.size+1) s.heap.objs.size 0 .none:=by
  have q:=A0 (s.heap.push {cls:=.type "tuple_iterator",data:=.fields #[.ref l,.int 0 0]}) (o:={cls:=.type "enumerate",data:=.fields #[.none,.bool AC,.ref s.heap.objs.size,rawInt 0,.none,.none]}) rfl;rw[hz]at q;exact q
 exact⟨⟨_,he,rfl⟩,k _ he ⟨_,AR _ (A0 _ rfl),rfl,rfl⟩ (by rw[Bo,hz]) λb o y=>AR _ (AR _ y)⟩
end WE
namespace L2
open PySem PySem.Spec PyProof.Rows
section
variable {X:Cx}
def ydA(i j:Int):Prop:=0<j/\j<10000000000000000000000000000000000000000000000000000000000000000000000
theorem zji:OpR X (binaryOp .FloorDiv) (rI ydA λi j=>.int (i/j)):=opI λi j _ _ _ _ _ hc q=>by
 let⟨h1,h2⟩:=hc;refine floordiv_int (by lia) (by rw[Dt i (by lia)];exact q) (.inl (PyProof.noPylong_of_log2 ?_));have h0:j.natAbs≠0:=by lia
 refine A4 ((Nat.log2_lt h0).mpr (?_:j.natAbs<2^250)) (by decide);have e:(10000000000000000000000000000000000000000000000000000000000000000000000:Nat)<2^250:=by decide
 lia
end
section
variable {X:Cx}{pins:List (AI×Bu)}{σ:St}{H:Hp}{s:AJ}{h':BB}
theorem Inv.turnLaid{t':Nat}{ch:List AI}{T:AI}{o:HO}(I:Inv X pins σ H s)(hf:∀b∈ch,ybs X pins H b)(k:∀b u,b∉ch->s.heap.get? b=AA u->h'.get? b=AA u)
  (hp:s.heap.objs.size<=T) (new:yV X.prog X.w (upd H T o) h' T o):Inv X pins σ (upd H T o) {s with heap:=h',toks:=t'}:=by
 have hn:H T=none:=I.hok.fresh hp;have nch:∀b u,H b=AA u->b∉ch:=λb u e z=>by
  have q:=(hf b z).1;rw[e]at q
  cases q
 refine I.step (g':=s.gens) (d':=s.drawn) (ch:=ch) (λb hb=>?_) (λb u _ _ hc e _=>k b u hc e) (λb u _ _ hc e _=>⟨u.slots,k b u hc e⟩) (λb u _ e n=>?_) (λb u hc e=>⟨u,k b u hc e⟩) (λb xs e=>?_) (λb u v e=>?_) (λb ps e=>⟨#[],?_⟩) (λm hm=>?_) (λb u e=>?_) I.bare
 .let⟨f0,f1,f2,f3,f4,f5⟩:=hf b hb;exact⟨f3,f1,f4,f5⟩
 .rw[zh (Ak (A4 (AW e) hp))];exact n
 .rw[zh (zm e hn)];exact e
 .rw[zh (zm e hn)];exact e
 .rw[zh (zm e hn),e];simp
 .let⟨ob,es,ep,ho,r⟩:=hm;exact⟨ob,es,ep,k _ ob (λz=>(hf _ z).2.1 rfl) ho,r⟩
 .by_cases hb:b=T
  .subst hb;rw[zr]at e
   cases e
   exact new
  .rw[zh hb]at e;refine(I.hok b u e).stay (λc v hc q=>k c v ?_ q) (λc q=>by rw[zh (zm q hn)];exact q) λc xs q=>by rw[zh (zm q hn)];exact q
   rcases hc with z|z
   .rw[z];exact nch b u e
   .exact nch c _ z
theorem Inv.turnedL{t':Nat}{ch:List AI}(I:Inv X pins σ H s)(hf:∀b∈ch,ybs X pins H b)(k:∀b u,b∉ch->s.heap.get? b=AA u->h'.get? b=AA u):Inv X pins σ H {s with heap:=h',toks:=t'}:=by
 have nch:∀b u,H b=AA u->b∉ch:=λb u e z=>by
  have q:=(hf b z).1;rw[e]at q
  cases q
 refine I.step (g':=s.gens) (d':=s.drawn) (ch:=ch) (λb hb=>?_) (λb u _ _ hc e _=>k b u hc e) (λb u _ _ hc e _=>⟨u.slots,k b u hc e⟩) (λ_ _ _ _ n=>n) (λb u hc e=>⟨u,k b u hc e⟩) (λ_ _ e=>e) (λ_ _ _ e=>e) (λb ps e=>⟨#[],by rw[e];simp⟩) (λm hm=>?_) (λb u e=>?_) I.bare
 .let⟨f0,f1,f2,f3,f4,f5⟩:=hf b hb;exact⟨f3,f1,f4,f5⟩
 .let⟨ob,es,ep,ho,r⟩:=hm;exact⟨ob,es,ep,k _ ob (λz=>(hf _ z).2.1 rfl) ho,r⟩
 .refine(I.hok b u e).stay (λc v hc q=>k c v ?_ q) (λ_ q=>q) λ_ _ q=>q;rcases hc with z|z
  .rw[z];exact nch b u e
  .exact nch c _ z
end
def Ite(K:AE)(a:AI):It:=
 ⟨λi H=>∃xs x,SqT K H a xs/\xs[i]?=AA x,λi H x H'=>∃T,H T=AD/\x=.ref T/\∀xs y,SqT K H a xs->xs[i]?=AA y->H'=upd H T (.tup [.int i,y]),λi H=>∃xs,SqT K H a xs/\xs.length=i⟩
theorem zdB{h:BB}{a b:AI}{o u:Bu}(x:h.get? a=AA o)(y:h.get? b=AA u)(z:o.cls≠u.cls):a≠b:=λe=>by
 subst e;rw[x]at y
 cases y
 exact z rfl
theorem zgK{P:A8}{w:Aj}{K:AE}{es:List AT}{kk:Nat}{pos:CJ}(a e it:AI):
  Turn P w K (.Tuple es kk pos) (Ite K a) [e,it] e (λi h=>(∃old,IsEnum h e it i old)/\h.IsTupleIter it a i) where
 mem:=by simp
 obj:=λi h st b hb=>by
  let⟨⟨old,he⟩,oi,gi,ci,di⟩:=st;rcases A3.mp hb with z|z
  .subst z;exact⟨_,he,λv y=>nomatch y⟩
  .have z:b=it:=by simpa using z
   subst z;exact⟨oi,gi,λv y=>by rw[di]at y;cases y⟩
 keep:=λi h h' st k=>by
  let⟨⟨old,he⟩,oi,gi,r⟩:=st;exact⟨⟨old,k e (by simp) _ he⟩,oi,k it (by simp) _ gi,r⟩
 item:=by
  intro X hP hw hK hc i pins s σ H E I hf st hg;subst hP hw hK;let⟨xs,x,hq,hx⟩:=hg;let⟨its,rv,p,hz⟩:=I.tuple hq;let⟨⟨old,he⟩,hi⟩:=st;let⟨oi,gi,ci,di⟩:=id hi;let⟨oa,ga,ca,na,da⟩:=id p;have nai:a≠it:=zdB ga gi (by rw[ca,ci];exact λz=>absurd (Cc z) (by decide));have nei:e≠it:=zdB he gi (by rw[ci];exact λz=>absurd (Cc z) (by decide));have nea:e≠a:=zdB he ga (by rw[ca];exact λz=>absurd (Cc z) (by decide));have hl:=rv.length;have hil:i<its.toArray.size:=by
   have:=(BK.mp hx).1;simpa using (by lia:i<its.length)
  have W:=Ft (prog:=X.prog) (w:=X.w) (A:=X.A) (WE.draws_tuple (pg:=X.prog) (wd:=X.w) (A:=X.A.in1) (I.ok.hd hc) it a nai its.toArray) e nei (by simp[nei,nea]) (by simp);refine W.item i s _ E hil ⟨⟨old,he⟩,hi,p⟩ λT vals h1 tk hP hsz hT mid kp=>⟨.ref T,rfl,?_⟩;refine W.go es kk pos i T _ _ E mid λh2 st2 kp2=>?_;let⟨t,y,hy,rfl⟩:=hP;let⟨u,hu,ru⟩:=rv.get hx;have ey:y=u:=AY (hy.symm.trans (by simpa using hu));subst ey;have hch:∀b o,b∉[e,it]->s.heap.get? b=AA o->h2.get? b=AA o:=λb o hb q=>kp2 b o hb (kp b o hb q);have hTw:=W.apart i T h1 mid;have new:yV X.prog X.w (upd H T (.tup [.int i,x])) h2 T (.tup [.int i,x]):=by
   let⟨o,g,r⟩:=hT;exact⟨by show 2<=sizeLine;decide,[.int i t,y],.cons ⟨t,rfl⟩ (.cons ru .nil),o,kp2 T o hTw g,r⟩
  have I2:=I.turnLaid (t':=tk) hf hch hsz new;refine⟨.ref T,_,I2,rfl,⟨T,I.hok.fresh hsz,rfl,λys z hy' hz'=>?_⟩,⟨st2.1,st2.2.1⟩,λb hb=>?_⟩
  .rw[I.tuple_inj hy' hq]at hz';rw[hx]at hz'
   cases hz'
   rfl
  .rw[zh (λz:b=T=>hTw (z ▸ hb))];exact(hf b hb).1
 done:=by
  intro X hP hw hK hc i pins s σ H E I hf st hg;subst hP hw hK;let⟨xs,hq,hx⟩:=hg;let⟨its,rv,p,hz⟩:=I.tuple hq;let⟨⟨old,he⟩,hi⟩:=st;let⟨oi,gi,ci,di⟩:=id hi;let⟨oa,ga,ca,na,da⟩:=id p;have nai:a≠it:=zdB ga gi (by rw[ca,ci];exact λz=>absurd (Cc z) (by decide));have nei:e≠it:=zdB he gi (by rw[ci];exact λz=>absurd (Cc z) (by decide));have nea:e≠a:=zdB he ga (by rw[ca];exact λz=>absurd (Cc z) (by decide));have hl:=rv.length;have W:=Ft (prog:=X.prog) (w:=X.w) (A:=X.A) (WE.draws_tuple (pg:=X.prog) (wd:=X.w) (A:=X.A.in1) (I.ok.hd hc) it a nai its.toArray) e nei (by simp[nei,nea]) (by simp);have en:its.toArray.size=i:=by simp;lia
  refine W.done s _ E (by rw[en];exact⟨⟨old,he⟩,hi,p⟩) λh2 tk kp=>⟨rfl,I.turnedL (t':=tk) hf kp⟩
 self:=λ_ _ _ _ _ st q=>by
  let⟨⟨old,he⟩,_⟩:=st;exact Fu he q
def ygr(K:AE)(ta:TA):TI:=λσ H R=>ta σ H λvs H1=>∃a,vs=[.ref a]/\(∃xs,SqT K H1 a xs)/\R (Ite K a) H1
theorem zi3{X:Cx}{a:AT}{es:List AT}{kk:Nat}{tp:CJ}{ta:TA}{p pos:CJ}(hg:Gl X "enumerate")(hm:X.mg "enumerate"=AD)(ha:PA X [a] ta)(hs:starEach [a] X.env=[(AC,eval a X.env)]:=by rfl):
  PI X (.Tuple es kk tp) (.Call (.Name "enumerate" p) [a] [] pos) (ygr X.K ta):=by
 intro pins s σ H R I h;refine BY (zdJ I hg hm boot_enumerate ?_);refine Bw (thn (ha pos pins s σ H _ I h) λus s1 kq=>?_) hs rfl;let⟨vs,H1,I1,r1,q1⟩:=kq;let⟨l,rfl,⟨xs,hq⟩,q⟩:=q1;let⟨u,rfl,ru⟩:=Vals.one r1
 cases (show u=Ah l from ru)
 let⟨its,rv,pt,hz⟩:=I1.tuple hq;refine WE.call_enumT (show s1.heap.IsTuple l its.toArray from pt) λh1 he hi hsz kp=>?_;refine Fu he ?_;refine⟨_,[s1.heap.objs.size+1,s1.heap.objs.size],_,_,H1,rfl,I1.kept (t':=s1.toks) kp,zgK l _ s1.heap.objs.size,⟨⟨_,he⟩,hi⟩,λb hb=>?_,q⟩;have hb2:s1.heap.objs.size<=b:=by
  rcases A3.mp hb with z|z
  .subst z;exact Cb _
  .have z:b=s1.heap.objs.size:=by simpa using z
   subst z;exact AU _
 exact I1.fpOk hb2 (I1.hok.fresh hb2)
abbrev No:AG->AJ->Prop:=λ_ _=>False
abbrev ydJ(ifs:List AT)(env:Env):Gp Bool:=forIn ifs AB λc r=>if r=AB then do let ok <-isTrue c env (eval c env);pure (G4 ok)else pure (G4 r)
section
variable {pg:A8}{wd:Aj}{A:Ao}{R:Gd->AJ->Prop}{s:AJ}
theorem ziD{elt tg iter:AT}{ifs:List AT}{sc:Bi}{pos:CJ}{it acc:AG}{env:Env}(I:Nat->AJ->Prop)
  (turn:∀n s,I n s->A1 (model pg wd) A (pyNext it) (λr s1=>match r with
   |none=>R (.ok .next) s1
   |some v=>A1 (model pg wd) A (letOwnedTupleGo tg it v) (λ_ s2=>A1 (model pg wd) A (assign tg env v) (λ_ s3=>A1 (model pg wd) A (ydJ ifs env) (λok s4=>
     if ok=AB then A1 (model pg wd) A (eval elt env) (λx s5=>A1 (model pg wd) A (call (.builtin "list.append") [acc,x]) (λ_ s6=>∃m,m<n/\I m s6) No s5) No s4
     else ∃m,m<n/\I m s4) No s3) No s2) No s1) No s)
  (n:Nat) (h:I n s):codeAny (model pg wd) A (.compLoop (.ListComp elt [⟨tg,iter,ifs,0⟩] sc pos) 0 it acc env) R s:=by
 refine codeAny_loop rfl I (λn s hI=>?_) n h;show A1 _ A ((compTurn (.ListComp elt [⟨tg,iter,ifs,0⟩] sc pos) 0 it acc env).onRaise (λx=>do noteFrame x env;theTreesLotGoes x)) _ _ s;refine wpAny_noted ?_;rw[compTurn_list];refine AH (EW (AH (CM (turn n s hI) (λr s1 h1=>?_) λ_ _ f=>f.elim)))
 cases r with
 |none=>exact AV h1
 |some v=>
  refine AH (CM h1 (λ_ s2 h2=>AH (CM h2 (λ_ s3 h3=>AH (CM h3 (λok s4 h4=>?_) λ_ _ f=>f.elim)) λ_ _ f=>f.elim)) λ_ _ f=>f.elim)
  cases ok with
  |false=>exact AV ⟨rfl,h4⟩
  |true=>exact AH (AH (CM h4 (λx s5 h5=>AH (CM h5 (λ_ s6 h6=>AV (AV ⟨rfl,h6⟩)) λ_ _ f=>f.elim)) λ_ _ f=>f.elim))
end
def yan(env:Env)(r:List (AQ×AI))(x:AQ×DD):List (AQ×AI):=if x.2=.free then(x.1,(env.cells.lookup x.1).getD 0)::r else r
def ydl(sc:Bi)(env:Env):List (AQ×AI):=sc.names.foldl (yan env) []
theorem zgN{α β:Type}{l:List α}{f:α->β->Gp (ForInStep β)}{g:β->α->β}(h:∀x∈l,∀c,f x c=pure (.yield (g c x))):∀c:β,forIn l c f=pure (l.foldl g c):=by
 induction l with
 |nil=>exact λ_=>rfl
 |cons x l ih=>
  intro c;rw[Ey,h x BG,pure_bind,D6];exact ih (λy hy=>h y (AX _ hy)) (g c x)
theorem zc9{sc:Bi}{env:Env}(hf:∀y∈sc.names,y.2=.free->∃c,env.cells.lookup y.1=AA c):closureFor sc env=pure (ydl sc env):=by
 erw[closureFor];rw[zgN (g:=yan env) (λx hx c=>?_)]
 .rfl
 .let⟨n,k⟩:=x
  by_cases hk:k=.free
  .subst hk;let⟨a,ha⟩:=hf _ hx rfl;have ha':env.cells.lookup n=AA a:=ha;simp[yan,cellOf,ha']
  .have hb:(k==C8)=false:=by simpa using hk
   simp[yan,hk,hb]
theorem zdN{env:Env}:∀(l:List (AQ×DD)) (r:List (AQ×AI)),(∀y∈l,y.2=.free->∃c,env.cells.lookup y.1=AA c)->(∀x c,r.lookup x=AA c->env.cells.lookup x=AA c) ->
  ∀x c,(l.foldl (yan env) r).lookup x=AA c->env.cells.lookup x=AA c
 |[],r,_,h=>h
 |y::l,r,hf,h=>by
  refine zdN l (yan env r y) (λz hz=>hf z (AX _ hz)) λx c e=>?_;unfold yan at e
  by_cases hk:y.2=.free
  .let⟨a,ha⟩:=hf y BG hk;rw[if_pos hk,Be]at e
   cases hx:x==y.1 with
   |true=>
    rw[hx,ha]at e;rw[eq_of_beq hx,ha];exact e
   |false=>
    rw[hx]at e;exact h x c e
  .rw[if_neg hk]at e;exact h x c e
theorem zdj{env:Env}{x:AQ}:∀(l:List (AQ×DD)) (r:List (AQ×AI)),(∃c,r.lookup x=AA c)->∃c,(l.foldl (yan env) r).lookup x=AA c
 |[],r,h=>h
 |y::l,r,h=>by
  refine zdj l (yan env r y) ?_;unfold yan
  by_cases hk:y.2=.free
  .rw[if_pos hk,Be]
   cases hx:x==y.1 with
   |true=>exact⟨_,rfl⟩
   |false=>exact h
  .rw[if_neg hk];exact h
theorem zcg{env:Env}:∀(l:List (AQ×DD)) (r:List (AQ×AI)),∀y∈l,y.2=.free->∃c,(l.foldl (yan env) r).lookup y.1=AA c
 |[],_,y,hy,_=>nomatch hy
 |z::l,r,y,hy,hk=>by
  rcases A3.mp hy with e|e
  .subst e;refine zdj l (yan env r y) ?_;unfold yan;rw[if_pos hk,Be,beq_self_eq_true];exact⟨_,rfl⟩
  .exact zcg l (yan env r z) y e hk
theorem mem_of_lookup{β:Type}{x:AQ}{k:β}:∀{l:List (AQ×β)},l.lookup x=AA k->(x,k)∈l
 |[],h=>nomatch h
 |y::l,h=>by
  rw[Be]at h
  cases hx:x==y.1 with
  |true=>
   rw[hx]at h
   cases h
   rw[eq_of_beq hx];exact BG
  |false=>
   rw[hx]at h;exact AX _ (mem_of_lookup h)
def yc2(env:Env)(x:AQ)(k:DD):NameKind:=if (k==.free&&env.scope.kind==.function&&env.kindOf x==AA .cell)=AB then .cell else k
theorem zds{sc:Bi}{env:Env}(x:AQ):(relabel sc env).names.lookup x=(sc.names.lookup x).map (yc2 env x):=by
 unfold relabel;show (sc.names.map λ(n,k)=>if (k==C8&&env.scope.kind==.function&&env.kindOf n==AA .cell)then(n,F1)else(n,k)).lookup x=_
 induction sc.names with
 |nil=>rfl
 |cons y l ih=>
  let⟨n,k⟩:=y;rw[AL];show Bn x ((if (k==C8&&env.scope.kind==.function&&env.kindOf n==AA .cell)=AB then(n,F1)else(n,k))::_)=_
  cases hx:x==n with
  |true=>
   have e:=eq_of_beq hx;subst e
   by_cases hc:(k==C8&&env.scope.kind==.function&&env.kindOf x==AA .cell)=AB
   .rw[if_pos hc,Be,beq_self_eq_true];simp[yc2,hc]
   .rw[if_neg hc,Be,beq_self_eq_true];simp[yc2,hc]
  |false=>
   by_cases hc:(k==C8&&env.scope.kind==.function&&env.kindOf n==AA .cell)=AB
   .rw[if_pos hc];erw[Be,hx];exact ih
   .rw[if_neg hc];erw[Be,hx];exact ih
structure CI where
 C:AI
 s:AJ
 H:Hp
 fp:List AI
def cxC(X:Cx)(sc:Bi)(NC:List AQ)(j:CI):Cx where
 prog:=X.prog
 w:=X.w
 K:=X.K
 mg:=X.mg
 base:=X.base
 A:=X.A
 N:=NC
 s₀:=j.s
 H₀:=j.H
 env:=compEnvC sc (ydl sc X.env) j.C X.env
 outer:=X.stack
 stack:=X.stack
 ex:=j.fp
 fn:=λ_=>AC
 calm:=X.calm
 pn:=[]
 xe:=No
def inn(slots:List (Option Nat))(σ:St):St:=slots.map λo=>o.bind λj=>(σ[j]?).join
structure yao(X:Cx)(sc:Bi)(NC:List AQ)(slots:List (Option Nat)):Prop where
 kind:sc.kind=.function
 names:∀y∈sc.names,y.2=.local->sc.names.lookup y.1=AA .local
 nocell:∀y∈sc.names,y.2 ≠ .cell
 free:∀y∈sc.names,y.2=.free->X.env.scope.names.lookup y.1=AA .cell
 slot:∀(i:Nat) (x:AQ) (j:Nat),NC[i]?=AA x->slots[i]?=AA (AA j)->X.N[j]?=AA x/\sc.names.lookup x=AA .free
 len:slots.length=NC.length
theorem ydu{X:Cx}{sc:Bi}{NC:List AQ}{slots:List (Option Nat)}(N:List AQ)(so:Bi)(hN:X.N=N)(hs:X.env.scope=so)(kind:sc.kind=.function)
  (names:∀y∈sc.names,y.2=.local->sc.names.lookup y.1=AA .local) (nocell:∀y∈sc.names,y.2 ≠ .cell) (free:∀y∈sc.names,y.2=.free->so.names.lookup y.1=AA .cell)
  (slot:∀p∈NC.zip slots,(p.2.all λj=>decide (N[j]?=AA p.1/\sc.names.lookup p.1=AA .free))=AB) (len:slots.length=NC.length):yao X sc NC slots:=by
 subst hN hs;refine⟨kind,names,nocell,free,λi x j e1 e2=>?_,len⟩;have hm:(x,AA j)∈NC.zip slots:=A2 (i:=i) (by rw[List.getElem?_zip_eq_some];exact⟨e1,e2⟩);have:=slot _ hm;simpa using this
section
variable {X:Cx}{sc:Bi}{NC:List AQ}{slots:List (Option Nat)}{pins:List (AI×Bu)}{σ:St}{H:Hp}{s:AJ}
theorem yao.cells(O:yao X sc NC slots)(ok:X.Ok):∀y∈sc.names,y.2=.free->∃c,X.env.cells.lookup y.1=AA c:=λy hy hk=>ok.has y.1 (.inl (O.free y hy hk))
theorem yao.sub(O:yao X sc NC slots)(ok:X.Ok):∀x c,(ydl sc X.env).lookup x=AA c->X.env.cells.lookup x=AA c:=zdN sc.names [] (O.cells ok) λ_ _ e=>nomatch e
theorem yao.rel(O:yao X sc NC slots)(ok:X.Ok){x:AQ}(h:sc.names.lookup x=AA .free):(relabel sc X.env).names.lookup x=AA .cell:=by
 rw[zds,h];have e:X.env.kindOf x=AA .cell:=O.free _ (mem_of_lookup h) rfl;simp[yc2,ok.kind,e]
theorem zgv(I:Inv X pins σ H s)(O:yao X sc NC slots){fp:List AI}(hf:∀b∈fp,ybs X pins H b)(hob:∀b∈fp,∃o,s.heap.get? b=AA o){h1:BB}{t':Nat}{m:AQ->Option AG}(hns:h1.Ns s.heap.objs.size m)
  (hk:∀b o,s.heap.get? b=AA o->h1.get? b=AA o):Inv (cxC X sc NC ⟨s.heap.objs.size,s,H,fp⟩) [] (inn slots σ) H {s with heap:=h1,toks:=t'}:=by
 have sub:=O.sub I.ok;have fss:∀b,b≠X.env.locals->b∉X.fs->b∉frs X.stack:=λb h1 h2 hb=>(A3.mp (I.stkSub b hb)).elim h1 h2;have ltC:∀x c,(ydl sc X.env).lookup x=AA c->c<s.heap.objs.size:=λx c e=>by
  let⟨v,q⟩:=I.cell x c (sub x c e);exact q.lt
 refine⟨⟨I.ok.mod,O.kind,I.ok.glob,I.ok.blt,AU _,λx y c e1 e2=>I.ok.inj x y c (sub x c e1) (sub y c e2),λx hx=>?_,λ_ _ z=>(nomatch z),I.ok.hd,I.ok.frames,.inl rfl,λb hb=>⟨?_,λx c e=>(hf b hb).2.2.2.2.1 x c (sub x c e)⟩,I.bs,BO I.ok.bsz I.sz,λb o e hb=>?_,λb hb=>fss b (hf b hb).2.1 (hf b hb).2.2.1,I.stack,I.stkFree⟩,
  rfl,I.bare,Un.kept hk,⟨m,hns,λi x v e1 e2 e3=>?_⟩,λx c e=>?_,I.hok.fresh (AU _),λx c e=>I.freeC x c (sub x c e),λp hp=>(nomatch hp),I.hok.kept hk,?_⟩
 .have hx':(relabel sc X.env).names.lookup x=AA .cell \/ (relabel sc X.env).names.lookup x=AA .free:=hx;rw[zds]at hx'
  cases q:sc.names.lookup x with
  |none=>
   rw[q]at hx';rcases hx' with z|z<;>cases z
  |some k=>
   have hm:=mem_of_lookup q;have hkf:k=.free:=by
    rw[q]at hx';have nc:=O.nocell _ hm
    by_cases hk:k=.free
    .exact hk
    .exfalso;have hb:(k==C8)=false:=by simpa using hk
     rcases hx' with z|z
     .simp[yc2,hb]at z;exact nc z
     .simp[yc2,hb]at z;exact hk z
   subst hkf;exact zcg sc.names [] _ hm rfl
 .let⟨o,e⟩:=hob b hb;exact Ak (AW e)
 .rcases (hf b hb).2.2.2.1 with z|z
  .exact I.ok.noex b o e z
  .exact absurd (A4 (AW e) (BO I.ok.bsz z)) (Cr _)
 .obtain⟨j,e4,e5⟩:∃j,slots[i]?=AA (AA j)/\σ[j]?=AA (AA v):=by
   have e2':(slots.map λo=>o.bind λj=>(σ[j]?).join)[i]?=AA (AA v):=e2;rw[Bq]at e2'
   cases q:slots[i]? with
   |none=>
    rw[q]at e2'
    cases e2'
   |some o=>
    rw[q]at e2'
    cases o with
    |none=>cases e2'
    |some j=>
     refine⟨j,rfl,?_⟩;have e6:(σ[j]?).join=AA v:=AY e2'
     cases q2:σ[j]? with
     |none=>
      rw[q2]at e6
      cases e6
     |some w=>
      rw[q2]at e6;have e7:w=AA v:=e6;rw[e7]
  let⟨e6,e7⟩:=O.slot i x j e1 e4;have kc:X.env.scope.names.lookup x=AA .cell:=O.free _ (mem_of_lookup e7) rfl;let⟨m0,hn0,hl⟩:=I.loc;let⟨u,r,lk⟩:=hl j x v e6 e5 (.inr (.inl kc));refine⟨u,r,.inr ⟨.inl (O.rel I.ok e7),?_⟩⟩;rcases lk with⟨z,_⟩|⟨_,c,hc,o,ho,hd⟩
  .rw[show X.env.kindOf x=AA .cell from kc]at z
   cases z
  .let⟨c',hc'⟩:=zcg (env:=X.env) sc.names [] _ (mem_of_lookup e7) rfl;have e8:c'=c:=AY ((sub x c' hc').symm.trans hc);subst e8;exact⟨c',hc',o,hk _ _ ho,hd⟩
 .let⟨v,o,ho,hd⟩:=I.cell x c (sub x c e);exact⟨v,o,hk _ _ ho,hd⟩
 .show (slots.map λo=>o.bind λj=>(σ[j]?).join).length=NC.length;rw[BD,O.len]
theorem zgA(I:Inv X pins σ H s){fp:List AI}(hf:∀b∈fp,ybs X pins H b){C:AI}(hC:s.heap.objs.size<=C){pl:List (AI×Bu)}{σ':St}{H':Hp}{s':AJ}(J:Inv (cxC X sc NC ⟨C,s,H,fp⟩) pl σ' H' s')
  {h2:BB} (hb:C0 C s'.heap h2):Inv X pins σ H' {s' with heap:=h2}:=by
 have nC:∀b o,s.heap.get? b=AA o->b≠C:=λb o e=>Ak (A4 (AW e) hC);have B:Un (frs X.stack) fp H H' s.heap s'.heap:=J.base;have fC:H' C=none:=J.free;refine I.call' (ch:=fp) J.os ⟨λb o e n h3 h4=>(hb.2 b (nC b o e)).trans (B.keep b o e n h3 h4),λb o e n h3 h4=>?_,B.free,λb o e h4=>?_,B.tups,B.frzs,B.tbls⟩ (λb u e=>?_) J.bare λb h3=>⟨(hf b h3).2.2.2.1,(hf b h3).2.1,(hf b h3).2.2.2.2.1,(hf b h3).2.2.2.2.2⟩
 .let⟨sl,q⟩:=B.slot b o e n h3 h4;exact⟨sl,(hb.2 b (nC b o e)).trans q⟩
 .let⟨o',q⟩:=B.there b o e h4;exact⟨o',(hb.2 b (nC b o e)).trans q⟩
 .refine(J.hok b u e).stay (λc v hc q=>(hb.2 c λz=>?_).trans q) (λ_ q=>q) λ_ _ q=>q;subst z;rcases hc with z|z
  .rw[z,e]at fC
   cases fC
  .rw[z]at fC
   cases fC
end
def PTs(X:Cx)(ifs:List AT)(t:TT):Prop:=
 ∀(pins:List (AI×Bu)) (s:AJ) (σ:St) (H:Hp) (Q:Bool->Hp->Prop),Inv X pins σ H s->t σ H Q->A1 (model X.prog X.w) X.A (ydJ ifs X.env) (TP X pins σ Q) X.xe s
def ygn:TT:=λ_ H Q=>Q AB H
theorem zlt{X:Cx}:PTs X [] ygn:=λ_ _ _ H _ I h=>wpAny_tests_nil ⟨H,I,h⟩
theorem zk7{X:Cx}{c:AT}{t:TT}(h:PT X c t):PTs X [c] t:=λpins s σ H Q I q=>wpAny_tests_one (h pins s σ H Q I q)
def ycB(J:It)(D:AI)(g:TG)(ti:TT)(te:TE)(W:Nat->Nat->St->List V->Hp->Prop)(Q:Hp->Prop):Prop:=
 ∀i m σc ys H2,W i m σc ys H2->H2 D=AA (.lst ys)/\((J.stop i H2/\Q H2) \/ (J.go i H2/\ys.length<sizeLine/\∃N:St->List V->Hp->Prop,(∀σ' ys' H',N σ' ys' H'->∃m',m' < m/\W (i+1) m' σ' ys' H') /\
  ∀x H3,J.yld i H2 x H3->g x σc H3 λσ4 H4=>ti σ4 H4 λb H5=>if b=AB then te σ4 H5 λy H6=>H6 D=AA (.lst ys)/\N σ4 (ys++[y]) (upd H6 D (.lst (ys++[y])))else N σ4 ys H5))
def ydi(slots:List (Option Nat))(wi:TI)(g:TG)(ti:TT)(te:TE):TE:=λσ H Q=>wi σ H λJ H1=>∀D,H1 D=AD->∃W:Nat->Nat->St->List V->Hp->Prop,(∃m,W 0 m (inn slots σ) [] (upd H1 D (.lst [])))/\ycB J D g ti te W (Q (.ref D))
section
variable {X:Cx}{sc:Bi}{NC:List AQ}{slots:List (Option Nat)}{elt tg iter:AT}{ifs:List AT}{pos:CJ}{g:TG}{ti:TT}{te:TE}
theorem zj4(hc:X.calm=AB)(hg:∀j,PG (cxC X sc NC j) tg g)(ht:∀j,PTs (cxC X sc NC j) ifs ti)(he:∀j,PE (cxC X sc NC j) elt te){cj:CI}{it D:AI}{tn:Nat->BB->Prop}{J:It}
  {W:Nat->Nat->St->List V->Hp->Prop} {Q:Hp->Prop} {R:Gd->AJ->Prop} {s:AJ} {σc:St} {ys:List V} {H:Hp} (T:Turn X.prog X.w X.K tg J cj.fp it tn)
  (I:Inv (cxC X sc NC cj) [] σc H s) (hf:∀b∈cj.fp,ybs (cxC X sc NC cj) [] H b) (st:tn 0 s.heap) {m:Nat} (w0:W 0 m σc ys H) (step:ycB J D g ti te W Q)
  (fin:∀σ' H' s',Inv (cxC X sc NC cj) [] σ' H' s'->Q H'->R (.ok .next) s'):
  codeAny (model X.prog X.w) X.A (.compLoop (.ListComp elt [⟨tg,iter,ifs,0⟩] sc pos) 0 (.ref it) (.ref D) (cxC X sc NC cj).env) R s:=by
 have stat:∀{H':Hp},(∀b∈cj.fp,H' b=AD)->∀b∈cj.fp,ybs (cxC X sc NC cj) [] H' b:=λhn b hb=>⟨hn b hb,(hf b hb).2⟩;refine ziD (λn s'=>∃i σ' ys' H',Inv (cxC X sc NC cj) [] σ' H' s'/\tn i s'.heap/\(∀b∈cj.fp,H' b=AD)/\W i n σ' ys' H') ?_ m ⟨0,σc,ys,H,I,st,λb hb=>(hf b hb).1,w0⟩
 rintro n s3 ⟨i,σ3,ys3,H3,I3,st3,fr3,w3⟩
 let⟨hD,q⟩:=step i n σ3 ys3 H3 w3;rcases q with⟨stop,qn⟩|⟨go,hz,N,hN,turn⟩
 .refine thn (T.done (cxC X sc NC cj) rfl rfl rfl hc i [] s3 σ3 H3 No I3 (stat fr3) st3 stop) λr s4 kq=>?_;let⟨hr,I4⟩:=kq;subst hr;exact fin σ3 H3 s4 I4 qn
 .refine thn (T.item (cxC X sc NC cj) rfl rfl rfl hc i [] s3 σ3 H3 No I3 (stat fr3) st3 go) λr s4 kq=>?_;let⟨u,hr,h4⟩:=kq;subst hr;refine thn h4 λ_ s5 kq=>?_;let⟨x,H5,I5,r5,y5,st5,fr5⟩:=kq;have I5':=I5.pinned (stat fr5) (T.obj _ _ st5);refine thn (hg cj _ s5 σ3 H5 x u _ I5' r5 (turn x H5 y5)) λ_ s6 kq=>?_;let⟨σ6,H6,I6,q6⟩:=kq;refine thn (ht cj _ s6 σ6 H6 _ I6 q6) λok s7 kq=>?_;let⟨H7,I7,q7⟩:=kq;have again:∀{σ8:St} {ys8:List V} {H8:Hp} {s8:AJ},Inv (cxC X sc NC cj) ([]++ybk cj.fp s5.heap) σ8 H8 s8->N σ8 ys8 H8->∃m,m<n/\∃i σ' ys' H',Inv (cxC X sc NC cj) [] σ' H' s8/\tn i s8.heap/\(∀b∈cj.fp,H' b=AD)/\W i m σ' ys' H':=λ{σ8 ys8 H8 s8} I8 n8=>by
   let⟨m',hm,w8⟩:=hN σ8 ys8 H8 n8;refine⟨m',hm,i+1,σ8,ys8,H8,I8.unpinned,T.keep _ _ _ st5 λb hb o e=>(I8.pin (b,o) (BI _ (BI _ (zbg hb e)))).1,λb hb=>?_,w8⟩;let⟨o,e,d⟩:=T.obj _ _ st5 b hb;exact(I8.pin (b,o) (BI _ (BI _ (zbg hb e)))).2.1
  cases ok with
  |false=>
   rw[if_neg Az]at q7 ⊢;exact again I7 q7
  |true=>
   rw[if_pos rfl]at q7 ⊢;refine thn (he cj _ s7 σ6 H7 _ I7 q7) λy s8 kq=>?_;let⟨v,H8,I8,r8,hD8,q8⟩:=kq;refine thn (ze9 (X:=cxC X sc NC cj) _ s8 σ6 H8 (.ref D) [v] (.ref D) [y] (λz H'=>z=.non/\H'=upd H8 D (.lst (ys3++[v]))) I8 rfl (.cons r8 .nil) ⟨D,ys3,v,rfl,rfl,hD8,hz,rfl,rfl⟩) λz s9 kq=>?_;let⟨zv,H9,I9,r9,e1,e2⟩:=kq;subst e2;exact again I9 q8
theorem zgM(hc:X.calm=AB)(O:yao X sc NC slots)(hg:∀j,PG (cxC X sc NC j) tg g)(ht:∀j,PTs (cxC X sc NC j) ifs ti)(he:∀j,PE (cxC X sc NC j) elt te){pins:List (AI×Bu)}{s:AJ}{σ:St}{H:Hp}(I:Inv X pins σ H s)
  {it:AI} {fp:List AI} {tn:Nat->BB->Prop} {J:It} (T:Turn X.prog X.w X.K tg J fp it tn) (st:tn 0 s.heap) (hf:∀b∈fp,ybs X pins H b) {Q:VK}
  (h:∀D,H D=AD->∃W:Nat->Nat->St->List V->Hp->Prop,(∃m,W 0 m (inn slots σ) [] (upd H D (.lst [])))/\ycB J D g ti te W (Q (.ref D))) {RR:AG->AI->Gd->AJ->Prop}
  (fin:∀D C s' H',Q (.ref D) H'->(∃o m,s'.heap.get? C=AA o/\s'.heap.Ns C m/\∀v,o.data ≠ .cell v)->ybs X pins H' C->(∀h2,C0 C s'.heap h2->Inv X pins σ H' {s' with heap:=h2})->RR (.ref D) C (.ok .next) s'):
  A1 (model X.prog X.w) X.A (newList []) (λacc s3=>A1 (model X.prog X.w) X.A (newFunctionEnv sc X.env.globals (ydl sc X.env) [] X.env.qual AD .none (AA X.env)) (λcenv s4=>
   codeAny (model X.prog X.w) X.A (.compStart (.ListComp elt [⟨tg,iter,ifs,0⟩] sc pos) 0 (.ref it) acc {cenv with scope:=relabel sc X.env}) (RR acc cenv.locals) s4) X.xe s3) X.xe s:=by
 refine Bk (wpAny_newFunctionEnv O.nocell (by intro y hy;simp at hy) (λh1 hns1 hsb1=>?_) O.kind);dsimp only at hns1 hsb1 ⊢;have hDn:H s.heap.objs.size=none:=I.hok.fresh (AU _);let⟨W,⟨m,w0⟩,step⟩:=h s.heap.objs.size hDn;obtain⟨s3,hs3⟩:∃x:AJ,x=({s with heap:=s.heap.push {cls:=.type "list",dict:=AD,data:=.seq ([]:List AG).toArray} }:AJ):=⟨_,rfl⟩;have e3:s3.heap=s.heap.push {cls:=.type "list",dict:=AD,data:=.seq ([]:List AG).toArray}:=by rw[hs3]
 rw[<-e3]at hns1 hsb1;have hp3:∀b o,s.heap.get? b=AA o->s3.heap.get? b=AA o:=λb o e=>by
  rw[e3];exact AR _ e
 have I3:Inv X pins σ (upd H s.heap.objs.size (.lst [])) s3:=by
  have q:=I.laid (a:=s.heap.objs.size) (o:=.lst []) (h':=s3.heap) (t':=s.toks) hp3 (AU _) ⟨DA _,[],_,.nil,by rw[e3];exact A0 _ rfl⟩;rw[hs3]at q ⊢;exact q
 have hf3:∀b∈fp,ybs X pins (upd H s.heap.objs.size (.lst [])) b:=λb hb=>by
  let⟨o,e,_⟩:=T.obj _ _ st b hb;refine⟨?_,(hf b hb).2⟩;rw[zh (Ak (AW e))];exact(hf b hb).1
 have st3:tn 0 s3.heap:=T.keep _ _ _ st λb _ o e=>hp3 b o e;have hob:∀b∈fp,∃o,s3.heap.get? b=AA o:=λb hb=>by
  let⟨o,e,_⟩:=T.obj _ _ st3 b hb;exact⟨o,e⟩
 have hk1:∀b o,s3.heap.get? b=AA o->h1.get? b=AA o:=λb o e=>hsb1.extBut b o (Ak (AW e)) (AR _ e);have J1:=zgv (t':=s3.toks+([]:List (AQ×AG)).length) I3 O hf3 hob hns1 hk1;have hfc:∀b∈fp,ybs (cxC X sc NC ⟨s3.heap.objs.size,s3,upd H s.heap.objs.size (.lst []),fp⟩) [] (upd H s.heap.objs.size (.lst [])) b:=λb hb=>
  ⟨(hf3 b hb).1,(J1.ok.exf b hb).1,J1.ok.exfs b hb,.inl hb,(J1.ok.exf b hb).2,λp hp=>nomatch hp⟩
 have loop:codeAny (model X.prog X.w) X.A (.compLoop (.ListComp elt [⟨tg,iter,ifs,0⟩] sc pos) 0 (.ref it) (.ref s.heap.objs.size) (cxC X sc NC ⟨s3.heap.objs.size,s3,upd H s.heap.objs.size (.lst []),fp⟩).env) (RR (.ref s.heap.objs.size) s3.heap.objs.size)
   {s3 with heap:=h1,toks:=s3.toks+([]:List (AQ×AG)).length}:=by
  refine zj4 (D:=s.heap.objs.size) (Q:=Q (.ref s.heap.objs.size)) hc hg ht he T J1 hfc (T.keep _ _ _ st3 λb _ o e=>hk1 b o e) w0 step λσ' H' s' J' q'=>?_;have fC:H' s3.heap.objs.size=none:=J'.free;refine fin _ _ s' H' q' ?_ (I3.fpOk (AU _) fC) λh2 hb=>zgA I3 hf3 (AU _) J' hb;let⟨m',hn',_⟩:=J'.loc;let⟨o,es,ep,ho,hd,r⟩:=id hn';exact⟨o,m',ho,hn',λv z=>by rw[hd]at z;cases z⟩
 have self:=λ(RQ:AG->AJ->Prop) (EE:AG->AJ->Prop)=>T.self X.A 0 {s3 with heap:=h1,toks:=s3.toks+([]:List (AQ×AG)).length} RQ EE (T.keep _ _ _ st3 λb _ o e=>hk1 b o e);subst hs3;exact codeAny_compStart_list loop (self _ _ loop)
variable {wi:TI}
theorem zmb(hc:X.calm=AB)(O:yao X sc NC slots)(hi:PI X tg iter wi)(hg:∀j,PG (cxC X sc NC j) tg g)(ht:∀j,PTs (cxC X sc NC j) ifs ti)(he:∀j,PE (cxC X sc NC j) elt te)
  (hs:∀x,foldedSetIterable iter X.env x=pure x:=by intro _;rfl):PE X (.ListComp elt [⟨tg,iter,ifs,0⟩] sc pos) (ydi slots wi g ti te):=by
 intro pins s σ H Q I h;rw[eval_ListComp];refine wpAny_comprehension_free (use:=AD) rfl hs (zc9 (O.cells I.ok)) O.kind O.names (thn (hi pins s σ H _ I h) λv s1 h1=>thn h1 λitv s2 h2=>?_);let⟨it,fp,tn,J,H2,rfl,I2,T,st2,f2,q2⟩:=h2;refine zgM hc O hg ht he I2 T st2 f2 q2 λD C s' H' q' ⟨o,m,ho,hn,_⟩ _ out=>⟨m,hn,λh2 hb=>⟨.ref D,H',out h2 hb,rfl,q'⟩⟩
end
theorem zei:∀{bs:List Bool} {us:List AG},Vals (bs.map V.bl) us->LSm.BoolsAre us bs
 |[],_,.nil=>.nil
 |b::bs,_,.cons r q=>by
  cases (show _=Do b from r)
  exact .cons b (zei q)
section
variable {X:Cx}
def ygZ(K:AE):List V->Hp->VK->Prop:=λxs H Q=>∃(l:AI) (bs:List Bool),xs=[.ref l]/\SqL K H l (bs.map V.bl)/\Q (.bl (bs.all id)) H
theorem zjR(hc:X.calm=AB):yae X (.builtin "all") (ygZ X.K):=by
 intro pins s σ H xs us Q I r h;let⟨l,bs,rfl,hq,q⟩:=h;let⟨u,rfl,ru⟩:=Vals.one r
 cases (show u=Ah l from ru)
 let⟨its,rv,pl,hz⟩:=I.list hq;have hb:=zei rv;have hl:=pl.isList;have hlt:l<s.heap.objs.size:=by
  let⟨_,e,_⟩:=hl;exact AW e
 refine call_all_walk (EM hl ?_);refine⟨s.heap.objs.size,[s.heap.objs.size,l],[s.heap.objs.size],its.toArray.size,_,_,λi=>(bs[i]?).getD AB,rfl,Hb (A:=X.A.in1) (I.ok.hd hc) _ l (Ak hlt) its.toArray,⟨⟨_,A0 _ rfl,rfl,rfl⟩,hl.push _⟩,λi v s' Q' E' hP hQ=>?_,λh' tk hk=>?_⟩
 .let⟨b,e,rfl⟩:=hb.get i v (by simpa using hP);erw[e,Bf]at hQ;exact BV hQ
 .have e:((CL its.toArray.size).all λi=>(bs[i]?).getD AB)=bs.all id:=by
   rw[AZ,hb.length];exact LSm.range_all bs
  rw[e];exact⟨.bl _,H,I.kept (t':=tk) (F2 hk),rfl,q⟩
end
section
variable {X:Cx}{pins:List (AI×Bu)}{σ:St}{H:Hp}{s:AJ}
end
section
variable {X:Cx}{a:AT}{ta:TE}{K:AE}
end
end L2
namespace L2
end L2
namespace L2
open PySem PySem.Spec PyProof.Rows
def CX1(P:A8)(w:Aj):CXT:=λouter H s E e s'=>∃(a:AI) (cls a0:AG) (H':Hp) (B:BB),e=.ref a/\s'.os=s.os/\DV s'.gens/\HB B outer a cls a0 s'.heap/\HOk P w H' s'.heap/\Un (frs outer) [] H H' s.heap s'.heap /\
 (∀b o,s.heap.get? b=AA o->H b=AD->b∉frs outer->B.get? b=AA o)/\(∀b u,H' b=AA u->∃o,B.get? b=AA o)/\(∀b o,s.heap.get? b=AA o->b∉frs outer->∃o',B.get? b=AA o')/\E cls AD H'
theorem yV.there{P:A8}{w:Aj}{H:Hp}{h:BB}{a:AI}{o:HO}(x:yV P w H h a o):∃ob,h.get? a=AA ob:=by
 induction o with
 |lst xs=>let⟨_,_,_,_,e⟩:=x;exact⟨_,e⟩
 |tup xs=>let⟨_,_,_,ob,e,_⟩:=x;exact⟨ob,e⟩
 |dK kvs=>let⟨_,_,_,_,ob,_,_,e,_⟩:=x;exact⟨ob,e⟩
 |dT kvs=>let⟨_,_,_,_,ob,_,_,e,_⟩:=x;exact⟨ob,e⟩
 |set S n=>let⟨ob,_,_,_,e,_⟩:=x;exact⟨ob,e⟩
 |ins C dx fs=>let⟨_,_,_,e,_⟩:=x;exact⟨_,e⟩
 |own y=>exact x
 |xd fs=>let⟨_,⟨ob,_,_,e,_⟩,_⟩:=x;exact⟨ob,e⟩
 |rng lo hi=>let⟨_,_,_,e⟩:=x;exact⟨_,e⟩
 |frz ob u ih=>exact⟨ob,x.1⟩
 |tbl ps=>exact⟨_,x⟩
 |met f y=>exact⟨_,x⟩
 |ext φ=>exact x.2.1
theorem HOk.inB{P:A8}{w:Aj}{H:Hp}{h h' B:BB}(ok:HOk P w H h)(hB:B.StaysIn h)(hB':B.StaysIn h')(tr:∀b u,H b=AA u->∃o,B.get? b=AA o):HOk P w H h':=λa o e=>
 (ok a o e).stay (λb u hb q=>by
  have hb':∃o,B.get? b=AA o:=by
   rcases hb with z|z
   .rw[z];exact tr a o e
   .exact tr b _ z
  let⟨o',q'⟩:=hb';have:=hB b o' q';rw[q]at this
  cases this
  exact hB' b u q') (λ_ q=>q) λ_ _ q=>q
section
variable {P:A8}{w:Aj}{K:AE}{mg:AQ->Option AG}{base:BB}{N:List AQ}{qual:AQ}{scope:Bi}{f:AI}{cd:AG}{A:Ao}{outer:List Env}{s₀:AJ}{H₀:Hp}{E:XK}
 {pins:List (AI×Bu)} {σ:St} {H:Hp} {s:AJ}
theorem zhM{h':BB}{e:AI}{cls:AG}{vs:List AG}(I:Inv (yaX (CX1 P w) P w K mg base N qual scope f cd A outer s₀ H₀ E) pins σ H s)(hx:Gi s.heap h' e cls vs)(hE:E cls AD H):
  (yaX (CX1 P w) P w K mg base N qual scope f cd A outer s₀ H₀ E).xe (.ref e) {s with heap:=h'}:=by
 have stk:s.heap.FunFrames base (envOfC qual scope s₀.heap.objs.size f cd::outer):=I.stack;have hst:∀b,b∈frs (envOfC qual scope s₀.heap.objs.size f cd::outer)->b=s₀.heap.objs.size \/ b∈frs outer:=λb hb=>by
  have hb':b∈s₀.heap.objs.size::frs outer:=hb;exact A3.mp hb'
 have inB:∀b o,s.heap.get? b=AA o->b∉frs (envOfC qual scope s₀.heap.objs.size f cd::outer)->(Cw s.heap (frs (envOfC qual scope s₀.heap.objs.size f cd::outer))).get? b=AA o:=λb o q n=>FT _ q n;have hB:(Cw s.heap (frs (envOfC qual scope s₀.heap.objs.size f cd::outer))).StaysIn s.heap:=λb o q=>F9 _ q;have bse:Un (frs outer) [] H₀ H s₀.heap s.heap:=I.base;have lt:∀b o,s₀.heap.get? b=AA o->b≠s₀.heap.objs.size:=λb o q=>Ak (AW q);have tr:∀b u,H b=AA u->∃o,(Cw s.heap (frs (envOfC qual scope s₀.heap.objs.size f cd::outer))).get? b=AA o:=λb u q=>by
  let⟨o,ho⟩:=yV.there (I.hok b u q);exact⟨o,inB b o ho λhb=>by
   have:=I.stkFree b hb;rw[q]at this
   cases this⟩
 refine wpAny_leaves_madeW (base:=Cw s.heap (frs (envOfC qual scope s₀.heap.objs.size f cd::outer))) (h:=s.heap) I.ok.frames rfl hB (PySem.W.funFrames_hide stk λenv he a ha=>Ds.mpr ⟨env,he,ha⟩) hx λh'' t fl tu tn up=>?_;have up':s.heap.UpToSlots h'':=(Gw hx.keeps).trans up;refine⟨e,cls,_,H,_,rfl,I.os,I.bare,fl,HOk.inB I.hok hB fl.1 tr,⟨λb o q n hb _=>?_,λb o q n hb _=>?_,bse.free,λb o q _=>?_,bse.tups,bse.frzs,bse.tbls⟩,λb o q n hb=>?_,tr,λb o q hb=>?_,hE⟩
 .refine fl.1 b o (inB b o (bse.keep b o q n hb (by simp)) λz=>?_);rcases hst b z with z|z
  .exact lt b o q z
  .exact hb z
 .let⟨sl,q1⟩:=bse.slot b o q n hb (by simp);let⟨_,o',ho',hd⟩:=CC stk (show b∈DH (λ(z:Env)=>z.frame) _ from AX _ hb);let⟨sl',q2⟩:=up' b _ q1 (by rw[ho']at q1;cases q1;exact hd);exact⟨sl',q2⟩
 .let⟨o',q1⟩:=bse.there b o q (by simp)
  by_cases hb:b∈frs (envOfC qual scope s₀.heap.objs.size f cd::outer)
  .let⟨_,o2,ho',hd⟩:=CC stk hb;let⟨sl',q2⟩:=up' b _ ho' hd;exact⟨_,q2⟩
  .exact⟨o',fl.1 b o' (inB b o' q1 hb)⟩
 .refine inB b o (bse.keep b o q n hb (by simp)) λz=>?_;rcases hst b z with z|z
  .exact lt b o q z
  .exact hb z
 .let⟨o',q1⟩:=bse.there b o q (by simp);refine⟨o',inB b o' q1 λz=>?_⟩;rcases hst b z with z|z
  .exact lt b o q z
  .exact hb z
theorem yee:ybJ (CX1 P w) (yaX (CX1 P w) P w K mg base N qual scope f cd A outer s₀ H₀ E) E:=by
 intro pins σ H s e s' I h;let⟨a,cls,a0,H',B,rfl,os,bare,fl,hok,un,hB,tr,hT,hE⟩:=h;have bse:Un (frs outer) [] H₀ H s₀.heap s.heap:=I.base;have lt:∀b o,s₀.heap.get? b=AA o->b≠s₀.heap.objs.size:=λb o q=>Ak (AW q);have hst:∀b,b∈frs (envOfC qual scope s₀.heap.objs.size f cd::outer)->b=s₀.heap.objs.size \/ b∈frs outer:=λb hb=>by
  have hb':b∈s₀.heap.objs.size::frs outer:=hb;exact A3.mp hb'
 have un':Un (frs (envOfC qual scope s₀.heap.objs.size f cd::outer)) [] H H' s.heap s'.heap:=un;have kB:∀b o,s₀.heap.get? b=AA o->H₀ b=AD->b∉frs outer->B.get? b=AA o:=λb o q n hb=>hB b o (bse.keep b o q n hb (by simp)) (bse.free b o q n (by simp)) λz=>by
  rcases hst b z with z|z
  .exact lt b o q z
  .exact hb z
 have kT:∀b o,s₀.heap.get? b=AA o->b∉frs outer->∃o',B.get? b=AA o':=λb o q hb=>by
  let⟨o',q1⟩:=bse.there b o q (by simp);refine hT b o' q1 λz=>?_;rcases hst b z with z|z
  .exact lt b o q z
  .exact hb z
 refine wpAny_leaves_onW I.ok.frames rfl fl λh'' fl' up=>?_;refine⟨a,cls,a0,H',B,rfl,os.trans I.os,bare,fl',HOk.inB hok fl.1 fl'.1 tr,⟨λb o q n hb _=>fl'.1 b o (kB b o q n hb),λb o q n hb _=>?_,λb o q n _=>?_,λb o q _=>?_,λb xs q=>un'.tups b xs (bse.tups b xs q),λb o u q=>un'.frzs b o u (bse.frzs b o u q),λb ps q=>?_⟩,kB,tr,kT,hE⟩
 .let⟨sl,q1⟩:=bse.slot b o q n hb (by simp);have n1:=bse.free b o q n (by simp);let⟨sl1,q2⟩:=un'.slot b _ q1 n1 (AX _ hb) (by simp);let⟨_,o',ho',hd⟩:=CC fl.2.2.1 (show b∈DH (λ(z:Env)=>z.frame) _ from AX _ hb);let⟨sl',q3⟩:=up b _ q2 (by rw[ho']at q2;cases q2;exact hd);exact⟨sl',q3⟩
 .let⟨o',q1⟩:=bse.there b o q (by simp);exact un'.free b o' q1 (bse.free b o q n (by simp)) (by simp)
 .let⟨o',q1⟩:=bse.there b o q (by simp);let⟨o2,q2⟩:=un'.there b o' q1 (by simp)
  by_cases hb:b∈frs outer
  .let⟨_,o3,ho3,hd⟩:=CC fl.2.2.1 (show b∈DH (λ(z:Env)=>z.frame) _ from AX _ hb);let⟨sl',q3⟩:=up b _ ho3 hd;exact⟨_,q3⟩
  .let⟨o4,q4⟩:=kT b o q hb;exact⟨o4,fl'.1 b o4 q4⟩
 .let⟨m1,e1⟩:=bse.tbls b ps q;let⟨m2,e2⟩:=un'.tbls b _ e1;exact⟨m1++m2,by rw[e2,Dp]⟩
end
section
variable {X:Cx}{e:AT}{es:List AT}{te:TE}
end
section
variable {X:Cx}{e:AT}{es:List AT}{t:TA}{E:XK}
end
section
variable {pg:A8}{wd:Aj}{A:Ao}{E:AG->AJ->Prop}{h:BB}{g:Array GenState}{d:Drawn}{t:Nat}{os:OsState}{a C:AI}{o:Bu}{K:AE}
end
def ygT(a C:AI):BB->Prop:=λh=>∃o,h.get? a=AA o/\o.cls=.ref C
section
variable {X:Cx}
end
section
variable {X:Cx}{pins:List (AI×Bu)}{σ:St}{H:Hp}{s:AJ}
end
section
variable {X:Cx}{pins:List (AI×Bu)}{σ:St}{H:Hp}{s:AJ}
end
section
variable {X:Cx}{body suite:List Bp}{b₀:Bp}{x n:AQ}{np hpos pos:CJ}{tb:XK->TS}{ts:TS}{W:AI}{i:Nat}
end
structure yc7(k:Nat)(A:Ao):Prop where
 dp:A.depth+3*k+5<recursionLimit
 un:A.units+16*k+200<cLine
section
variable {P:A8}{w:Aj}{K:AE}{mg:AQ->Option AG}{base:BB}
end
section
variable {X:Cx}{k:Nat}{f:AI}{fd:BC}{ps:List AQ}{sp:Sp}{x:AQ}{p pos:CJ}{e:AT}{es:List AT}{t:TA}
end
section
variable {P:A8}{w:Aj}{K:AE}{mg:AQ->Option AG}{base:BB}
theorem own1{N:List AQ}{qual:AQ}{scope:Bi}{f:AI}{cd:AG}{A:Ao}{outer:List Env}{s:AJ}{H:Hp}{E:XK}{CX:CXT}:
  E8 (model (yaX CX P w K mg base N qual scope f cd A outer s H E).prog (yaX CX P w K mg base N qual scope f cd A outer s H E).w) (yaX CX P w K mg base N qual scope f cd A outer s H E).A (yaX CX P w K mg base N qual scope f cd A outer s H E).env (yaX CX P w K mg base N qual scope f cd A outer s H E).xe:=
 PassesOwn.leaving
end
section
variable {X:Cx}
end
section
variable {X:Cx}
def yfY(K:AE):List V->Hp->VK->Prop:=λxs H Q=>∃(l:AI) (ns:List Int),xs=[.ref l]/\SqL K H l (ns.map V.int)/\0<ns.length/\∀M,M∈ns->(∀a,a∈ns->a<=M)->Q (.int M) H
theorem ziO(hc:X.calm=AB):yae X (.builtin "max") (yfY X.K):=by
 intro pins s σ H xs us Q I r h;let⟨l,ns,rfl,hq,hne,q⟩:=h;let⟨u,rfl,ru⟩:=Vals.one r
 cases (show u=Ah l from ru)
 let⟨its,rv,pl,hz⟩:=I.list hq;have hi:FR its ns:=zgB rv;let⟨ys,e⟩:=hi.allInts.items;have hns:ns=ys.toList.map (·.1):=by rw[<-hi.numsOf,<-nums_intItems,<-e]
 have hsz:0<ys.size:=by
  rw[hns,BD,Bv]at hne;exact hne
 have hl:=pl.isList;rw[e]at hl;refine max_intList (I.ok.hd hc) hl hsz λv h' tk hv hk=>?_;let⟨t,rfl⟩:=intItems_at hv;let⟨h1,h2⟩:=argBest_gt (numAt ys) (ys.size-1);refine⟨.int _,H,I.kept (t':=tk) hk,⟨t,rfl⟩,q _ ?_ λa ha=>?_⟩
 .rw[hns,numAt_eq];exact getD_mem (by rw[BD,Bv];lia)
 .rw[hns]at ha;let⟨j,hj,rfl⟩:=mem_getD ha;rw[BD,Bv]at hj;rw[<-numAt_eq];exact h2 j (by lia)
end
section
variable {κ:Type}[DecidableEq κ]
def ybH(kvs:List (κ×V))(k:κ):Option V:=(kvs.find? λkv=>decide (kv.1=k)).map (·.2)
def putK(kvs:List (κ×V))(k:κ)(v:V):List (κ×V):=
 if (kvs.any λkv=>decide (kv.1=k))=AB then kvs.map (λkv=>if kv.1=k then(kv.1,v)else kv)else kvs++[(k,v)]
theorem zbG{p:κ×V}{r:List (κ×V)}{k:κ}(e:p.1=k):ybH (p::r) k=AA p.2:=by simp[ybH,Bt,e]
theorem zb0{p:κ×V}{r:List (κ×V)}{k:κ}(e:¬p.1=k):ybH (p::r) k=ybH r k:=by simp[ybH,Bt,e]
theorem zfX(k:κ):∀kvs:List (κ×V),(kvs.any λkv=>decide (kv.1=k))=(ybH kvs k).isSome
 |[]=>rfl
 |p::r=>by
  rw[BN]
  by_cases e:p.1=k
  .simp only[zbG e,decide_eq_true e,Eo,Option.isSome_some]
  .rw[zb0 e,decide_eq_false e,F3];exact zfX k r
theorem zcZ(kvs:List (κ×V))(k:κ)(v:V):(putK kvs k v).length<=kvs.length+1:=by
 unfold putK;split
 .rw[BD];lia
 .rw[Af,AS,Ar];lia
theorem ybp.isSome_eq{o:Option V}{u:Option AG}(r:ybp o u):o.isSome=u.isSome:=by
 cases o with
 |none=>cases u with
  |none=>rfl
  |some _=>exact(show False from r).elim
 |some _=>cases u with
  |none=>exact(show False from r).elim
  |some _=>rfl
theorem ybp.getD{o:Option V}{u:Option AG}{d:V}{d':AG}(r:ybp o u)(rd:RelV d d'):RelV (o.getD d) (u.getD d'):=by
 cases o with
 |none=>cases u with
  |none=>exact rd
  |some _=>exact(show False from r).elim
 |some _=>cases u with
  |none=>exact(show False from r).elim
  |some _=>exact r
theorem KV.val{kvs:List (κ×V)}{vs:List (κ×AG)}(r:KV kvs vs)(k:κ):ybp (ybH kvs k) (valueAt vs k):=by
 unfold KV at r
 induction r with
 |nil=>exact C1
 |@cons p q ps qs h t ih=>
  let⟨h1,h2⟩:=h
  by_cases e:p.1=k
  .have e':q.1=k:=h1.symm.trans e;have b:valueAt (q::qs) k=AA q.2:=by simp[valueAt,Bt,e']
   rw[zbG e,b];exact h2
  .have e':¬q.1=k:=λz=>e (h1.trans z);have b:valueAt (q::qs) k=valueAt qs k:=by simp[valueAt,Bt,e']
   rw[zb0 e,b];exact ih
theorem KV.any{kvs:List (κ×V)}{vs:List (κ×AG)}(r:KV kvs vs)(k:κ):(kvs.any λkv=>decide (kv.1=k))=vs.any λkv=>decide (kv.1=k):=by
 unfold KV at r
 induction r with
 |nil=>rfl
 |cons h t ih=>rw[BN,BN,ih,h.1]
theorem KV.repl{kvs:List (κ×V)}{vs:List (κ×AG)}(r:KV kvs vs)(k:κ){y:V}{u:AG}(ry:RelV y u):
  KV (kvs.map λkv=>if kv.1=k then(kv.1,y)else kv) (vs.map λkv=>if kv.1=k then(kv.1,u)else kv):=by
 unfold KV at r ⊢
 induction r with
 |nil=>exact .nil
 |@cons p q ps qs h t ih=>
  rw[AL,AL];refine .cons ?_ ih;let⟨h1,h2⟩:=h
  by_cases e:p.1=k
  .rw[if_pos e,if_pos (h1.symm.trans e)];exact⟨h1,ry⟩
  .rw[if_neg e,if_neg (λz=>e (h1.trans z))];exact⟨h1,h2⟩
theorem KV.put{kvs:List (κ×V)}{vs:List (κ×AG)}(r:KV kvs vs)(k:κ){y:V}{u:AG}(ry:RelV y u):KV (putK kvs k y) (stored vs k u):=by
 unfold putK stored;rw[r.any k]
 by_cases e:(vs.any λkv=>decide (kv.1=k))=AB
 .rw[if_pos e,if_pos e];exact r.repl k ry
 .rw[if_neg e,if_neg e];exact HP r ⟨rfl,ry⟩
theorem KV.length{kvs:List (κ×V)}{vs:List (κ×AG)}(r:KV kvs vs):kvs.length=vs.length:=EV r
end
theorem zll{P:A8}{w:Aj}{k:Key}{u:AG}(r:RelV (kV k) u):(yN P w).is k u=true:=by
 cases k with
 |inl i=>let⟨t,e⟩:=(show ∃t,u=EZ i t from r);subst e;exact zfr P w i t
 |inr x=>let⟨t,e⟩:=(show ∃t,u=GH x t from r);subst e;exact zfx P w x t
theorem zeO{P:A8}{w:Aj}:∀{ks:List Key} {us:List AG},Vals (ks.map kV) us->ItemsAre (yN P w) ks us
 |[],_,r=>by rw[Aa]at r;cases r;exact .nil
 |k::ks,_,r=>by
  rw[AL]at r
  cases r with
  |cons h t=>exact .cons (zll h) (zeO t)
abbrev KT(H:Hp):List (List Key×V)->List (List Key×AI×AG)->Prop:=G9 λp q=>p.1=q.1/\H q.2.1=AA (.tup (p.1.map kV))/\RelV p.2 q.2.2
theorem KT.val{H:Hp}{kvs:List (List Key×V)}{xs:List (List Key×AI×AG)}(r:KT H kvs xs)(k:List Key):ybp (ybH kvs k) ((atKey xs k).map (·.2)):=by
 induction r with
 |nil=>exact C1
 |@cons p q ps qs h t ih=>
  let⟨h1,_,h2⟩:=h
  by_cases e:p.1=k
  .have e':q.1=k:=h1.symm.trans e;have b:atKey (q::qs) k=AA q.2:=by simp[atKey,Bt,e']
   rw[zbG e,b];exact h2
  .have e':¬q.1=k:=λz=>e (h1.trans z);have b:atKey (q::qs) k=atKey qs k:=by simp[atKey,Bt,e']
   rw[zb0 e,b];exact ih
theorem KT.repl{H:Hp}{kvs:List (List Key×V)}{xs:List (List Key×AI×AG)}(r:KT H kvs xs)(k:List Key){y:V}{u:AG}(ry:RelV y u):
  KT H (kvs.map λkv=>if kv.1=k then(kv.1,y)else kv) (xs.map (putAt k u)):=by
 induction r with
 |nil=>exact .nil
 |@cons p q ps qs h t ih=>
  rw[AL,AL];refine .cons ?_ ih;let⟨h1,h2,h3⟩:=h;unfold putAt
  by_cases e:p.1=k
  .rw[if_pos e,if_pos (h1.symm.trans e)];exact⟨h1,h2,ry⟩
  .rw[if_neg e,if_neg (λz=>e (h1.trans z))];exact⟨h1,h2,h3⟩
theorem KT.put{H:Hp}{kvs:List (List Key×V)}{xs:List (List Key×AI×AG)}(r:KT H kvs xs)(k:List Key){b:AI}{y:V}{u:AG}(hb:H b=AA (.tup (k.map kV)))(ry:RelV y u):
  KT H (putK kvs k y) (storedH xs k b u):=by
 have e:(kvs.any λkv=>decide (kv.1=k))=(atKey xs k).isSome:=by
  rw[zfX,(r.val k).isSome_eq,Option.isSome_map]
 unfold putK storedH;rw[e]
 by_cases q:(atKey xs k).isSome=AB
 .rw[if_pos q,if_pos q];exact r.repl k ry
 .rw[if_neg q,if_neg q];exact HP r ⟨rfl,hb,ry⟩
theorem KT.keeps{H H':Hp}{kvs:List (List Key×V)}{xs:List (List Key×AI×AG)}(r:KT H kvs xs)(ht:∀b ys,H b=AA (.tup ys)->H' b=AA (.tup ys)):KT H' kvs xs:=
 Paired.mapP r λ_ _ z=>⟨z.1,ht _ _ z.2.1,z.2.2⟩
section
variable {P:A8}{w:Aj}{H:Hp}{h:BB}{a:AI}
theorem zn6{u:HO}(ok:HOk P w H h)(e:Rd H a u):yV P w H h a u:=e.ok ok
theorem zk6{kvs:List (Key×V)}(ok:HOk P w H h)(e:Rd H a (.dK kvs)):kvs.length<=sizeLine/\(a==sysModules)=AC/\∃vs,KV kvs vs/\h.DictOf (yN P w) a vs:=
 show yV P w H h a (.dK kvs)from zn6 ok e
theorem zpk{kvs:List (Key×V)}(ok:HOk P w H h)(e:H a=AA (.dK kvs)):kvs.length<=sizeLine/\(a==sysModules)=AC/\∃vs,KV kvs vs/\h.DictOf (yN P w) a vs:=zk6 ok (.inl e)
theorem zhi{ks:List Key}(ok:HOk P w H h)(e:H a=AA (.tup (ks.map kV))):(tupleKind (yN P w)).is h ks a:=by
 let⟨_,its,r,o,h1,h2,n,h3⟩:=(show yV P w H h a (.tup (ks.map kV))from ok a _ e);exact⟨o,its.toArray,n,h1,h2,h3,by simpa using zeO r⟩
theorem zlX{kvs:List (List Key×V)}(ok:HOk P w H h)(e:Rd H a (.dT kvs)):kvs.length<=sizeLine/\(a==sysModules)=AC /\
  ∃xs,KT H kvs xs/\h.DictOfH (tupleKind (yN P w)) a xs:=by
 let⟨z,y,xs,r,o,es,ep,h1,h2,h3,h4,h5⟩:=(show yV P w H h a (.dT kvs)from zn6 ok e);refine⟨z,y,xs,r,o,es,ep,h1,h2,h3,h4,λx hx=>?_,h5⟩;have all:∀{l:List (List Key×V)} {m:List (List Key×AI×AG)},KT H l m->∀x∈m,(tupleKind (yN P w)).is h x.1 x.2.1:=by
  intro l m q
  induction q with
  |nil=>intro x hx;exact nomatch hx
  |@cons p q ps qs hq t ih=>
   intro x hx;rcases A3.mp hx with e|hx
   .subst e;exact zhi ok (by rw[<-hq.1];exact hq.2.1)
   .exact ih x hx
 exact all r x hx
theorem zpx{kvs:List (List Key×V)}(ok:HOk P w H h)(e:H a=AA (.dT kvs)):kvs.length<=sizeLine/\(a==sysModules)=AC /\
  ∃xs,KT H kvs xs/\h.DictOfH (tupleKind (yN P w)) a xs:=zlX ok (.inl e)
end
def yeY(H:Hp)(a:AI)(y:V)(r:Option V):Prop:=
 (∃kvs k,Rd H a (.dK kvs)/\y=kV k/\r=ybH kvs k) \/ ∃kvs k b,Rd H a (.dT kvs)/\y=.ref b/\H b=AA (.tup (k.map kV))/\r=ybH kvs k
def yfa(H:Hp)(a:AI)(y v:V)(H':Hp):Prop:=
 (∃kvs k,H a=AA (.dK kvs)/\y=kV k/\kvs.length<sizeLine/\H'=upd H a (.dK (putK kvs k v))) \/
 ∃kvs k b,H a=AA (.dT kvs)/\y=.ref b/\H b=AA (.tup (k.map kV))/\kvs.length<sizeLine/\H'=upd H a (.dT (putK kvs k v))
section
variable {X:Cx}{pins:List (AI×Bu)}{σ:St}{H:Hp}{s:AJ}{a:AI}{y v:V}{u r:AG}{o:Option V}{A:Ao}{E:AG->AJ->Prop}
theorem Inv.big(I:Inv X pins σ H s):sysModules<s.heap.objs.size:=by
 have h:mainGlobals<s.heap.objs.size:=(I.mod.glob.keeps I.bk).lt;exact Nat.lt_trans (by decide) h
theorem zg9{h':BB}{t':Nat}{ob:HO}(I:Inv X pins σ H s)(mu:Mut (H a))(hs:C0 a s.heap h')(he:∃q,h'.get? a=AA q)(new:yV X.prog X.w (upd H a ob) h' a ob):
  Inv X pins σ (upd H a ob) {s with heap:=h',toks:=t'}:=
 I.write (x:=a) (e:=a) mu (.inl rfl) (λb q hb z=>(hs.2 b hb).trans z) he new
theorem zmR{P:A8}{w:Aj}{H':Hp}{h':BB}{kvs:List (Key×V)}{vs:List (Key×AG)}(z:kvs.length<=sizeLine)(hd:(a==sysModules)=AC)(rel:KV kvs vs)(dd:h'.DictOf (yN P w) a vs):
  yV P w H' h' a (.dK kvs):=⟨z,hd,vs,rel,dd⟩
theorem zgW{H':Hp}{Q:Unit->AJ->Prop}(hu:A.units+1<cLine)(I:Inv X pins σ H s)(g:yfa H a y v H')(ry:RelV y u)(rv:RelV v r)(h:∀s',Inv X pins σ H' s'->Q () s'):
  A1 (model X.prog X.w) A (setItem (.ref a) u r) Q E s:=by
 rcases g with⟨kvs,k,e,ey,l,eH⟩|⟨kvs,k,b,e,ey,eb,l,eH⟩
 .subst ey eH;let⟨z,hd,vs,rel,dd⟩:=zpk I.hok e;have hz:vs.length<=sizeLine:=by rw[<-rel.length];exact z
  have hl:(putK kvs k v).length<=sizeLine:=by have:=zcZ kvs k v;lia
  refine wpAny_setItem_pairs (hsz:=hz) (zll ry) dd λh' dd' hs=>h _ ?_;have he:∃q,h'.get? a=AA q:=let ⟨q,_,_,hq,_⟩:=dd';⟨q,hq⟩
  exact zg9 I (by rw[e];exact C1) hs he (zmR hl hd (rel.put k rv) dd')
 .subst ey eH
  cases (show u=Ah b from ry)
  let⟨z,hd,xs,rel,dd⟩:=zpx I.hok e;have hz:xs.length<=sizeLine:=by rw[<-EV rel];exact z
  have hl:(putK kvs k v).length<=sizeLine:=by have:=zcZ kvs k v;lia
  refine wpAny_setItem_heap (hsz:=hz) (Fc hu) (zhi I.hok eb) dd λh' dd' hs=>h _ ?_;let⟨q,es,ep,hq,h2,h3,h4,_,h5⟩:=dd';refine zg9 I (by rw[e];exact C1) hs ⟨q,hq⟩ ⟨hl,hd,_,(rel.put k eb rv).keeps λc ys ec=>?_,q,es,ep,hq,h2,h3,h4,h5⟩;rw[zh (zpq ec e (λz=>nomatch z))];exact ec
end
section
variable {X:Cx}{pins:List (AI×Bu)}{σ:St}{H:Hp}{s:AJ}{a:AI}{kvs:List (Key×V)}{k:Key}{u:AG}{A:Ao}{E:AG->AJ->Prop}
end
def ycZ(i:AT):Prop:=∀ov iv,subscripted i AC ov iv=operate [ov,iv] (getItem ov iv)
theorem zhW{prog:A8}{w:Aj}{A:Ao}{E:AG->AJ->Prop}{s:AJ}{env:Env}{value slice:AT}{pos:CJ}{T id:String}{Q:AG->AJ->Prop}
  (hl:typeLookup (.type T) "__getitem__"=pure (AA (.builtin id))) (hs:ycZ slice)
  (h:A1 (model prog w) A (eval value env) (λo s₁=>A1 (model prog w) A (eval slice env) (λi s₂=>s₂.TypeIs o T/\A1 (model prog w) A (getItem o i) Q E s₂) E s₁) E s):
  A1 (model prog w) A (eval (.Subscript value slice pos) env) Q E s:=by
 refine Gf (CM h (λo s₁ h₁=>CM h₁ (λi s₂ h₂=>?_) λ_ _ x=>x) λ_ _ x=>x);let⟨hT,h₂⟩:=h₂;unfold subscriptTail;refine AH ?_;rw[getitemInPython_of_ne hT.not_modules];refine AH (wpAny_specialOf hT hl ?_);have fin:A1 (model prog w) A (subscripted slice AC o i) (λr s₃=>A1 (model prog w) A (letTemporaryGo value o r >>= λ_=>pure r) Q E s₃) E s₂:=by
  rw[hs o i];exact wpAny_operating (CM h₂ (λr s₃ h₃=>AH (wpAny_letTemporaryGo (AV h₃))) λ_ _ x=>x)
 first
  |exact AV (AH fin)
  |exact AH (AV (AH fin))
  |exact AH fin
def yeF(td ty tv:TE):TS:=λD σ H=>tv σ H λv H1=>td σ H1 λx H2=>ty σ H2 λy H3=>∃a H4,x=.ref a/\yfa H3 a y v H4/\D.nx σ H4
section
variable {X:Cx}{o i e value:AT}{pos pos' tpos:CJ}{td ty tv:TE}
theorem zk3(hu:X.A.units+1<cLine)(ho:PE X o td)(hi:PE X i ty)(hv:PE X value tv)(hs:swapsWith value (AA (.Subscript o i pos')) pos.line X.env=pure AC):
  PS X (.Assign [.Subscript o i pos'] value pos) (yeF td ty tv):=by
 intro pins s σ H D I h;refine wpAny_Assign_Subscript (thn (hv pins s σ H _ I h) λr s1 kq=>?_) hs;let⟨v,H1,I1,rv,q1⟩:=kq;refine thn (ho pins s1 σ H1 _ I1 q1) λu s2 kq=>?_;let⟨x,H2,I2,rx,q2⟩:=kq;refine thn (hi pins s2 σ H2 _ I2 q2) λiv s3 kq=>?_;let⟨y,H3,I3,ry,a,H4,ex,g,q3⟩:=kq;subst ex;obtain rfl:u=Ah a:=rx;exact zgW hu I3 g ry rv λs4 I4=>⟨σ,H4,I4,q3⟩
end
theorem zjq{P:A8}{w:Aj}{H:Hp}(h:BB)(hb:sysModules<h.objs.size):yV P w H (h.push {cls:=.type "dict",data:=.dict #[]}) h.objs.size (.dT []):=
 ⟨DA _,beq_eq_false_iff_ne.mpr (BL (Ak hb)),[],.nil,_,#[],0,A0 _ rfl,⟨rfl,rfl,rfl⟩,rfl,rfl,List.nodup_nil⟩
def yc8:TE:=λ_ H Q=>∀p,H p=AD->Q (.ref p) (upd H p (.dT []))
section
variable {X:Cx}{pos:CJ}
theorem ycc:PE X (.Dict [] [] pos) yc8:=λpins s σ H Q I h=>
 wpAny_Dict_empty ⟨.ref s.heap.objs.size,_,I.laid (a:=s.heap.objs.size) (o:=.dT []) (t':=s.toks) (λ_ _ q=>AR _ q) (AU _) (zjq s.heap I.big),rfl,h _ (I.hok.fresh (AU _))⟩
end
structure M2(X:Cx)(o:AT)(m:AQ)(apos:CJ)(e f:AT)(cpos:CJ):Prop where
 base:attributeBase o m X.env (eval o X.env)=eval o X.env
 few:((backTo cpos (starEach [e,f] X.env)).all (λx=>!x.1)&&(backToKw cpos (keywordEach [] X.env)).all (λx=>x.1.isSome)
  && decide (([e,f]:List AT).length+([]:List CQ).length+(if ([]:List CQ).isEmpty then 0 else 1)<30))=AB
 line:(apos.endLine==cpos.line)=AB
 trees:backTo cpos (starEach [e,f] X.env)=[(AC,eval e X.env),(AC,eval f X.env)]
def IsD(H:Hp)(a:AI):Prop:=(∃kvs,Rd H a (.dK kvs)) \/ ∃kvs,Rd H a (.dT kvs)
theorem zoC{X:Cx}{pins:List (AI×Bu)}{σ:St}{H:Hp}{s:AJ}{a:AI}(I:Inv X pins σ H s)(d:IsD H a):
  s.TypeIs (.ref a) "dict"/\(∀b,Ah a=.ref b->∃ob,s.heap.get? b=AA ob/\ob.dict=AD)/\(a==sysModules)=false:=by
 rcases d with⟨kvs,e⟩|⟨kvs,e⟩
 .let⟨_,hd,vs,_,dd⟩:=zk6 I.hok e;refine⟨dd.typeIs,λb q=>?_,hd⟩
  cases q
  let⟨ob,_,_,h1,h2,_⟩:=dd;exact⟨ob,h1,h2.2.1⟩
 .let⟨_,hd,xs,_,dd⟩:=zlX I.hok e;refine⟨dd.typeIs,λb q=>?_,hd⟩
  cases q
  let⟨ob,_,_,h1,h2,_⟩:=dd;exact⟨ob,h1,h2.2.1⟩
section
variable {X:Cx}{pins:List (AI×Bu)}{σ:St}{H:Hp}{s:AJ}{a:AI}{y d:V}{u r:AG}{o:Option V}{A:Ao}{E:AG->AJ->Prop}
theorem znm{Q:AG->AJ->Prop}(hu:A.units+1<cLine)(I:Inv X pins σ H s)(g:yeY H a y o)(ry:RelV y u)(rd:RelV d r)(h:∀w' s',Inv X pins σ H s'->RelV (o.getD d) w'->Q w' s'):
  A1 (model X.prog X.w) A (call (.builtin "dict.get") [.ref a,u,r]) Q E s:=by
 rcases g with⟨kvs,k,e,ey,l⟩|⟨kvs,k,b,e,ey,eb,l⟩
 .subst ey;let⟨z,hd,vs,rel,dd⟩:=zk6 I.hok e;refine call_meetsIn DO dd.typeIs Ep (Ed _ _ _) (meets_dict_get_default (yN X.prog X.w) a (zll ry) hd r) ⟨_,dd.mapOf,h _ _ (I.tok _) ?_⟩;rw[l];exact(rel.val k).getD rd
 .subst ey
  cases (show u=Ah b from ry)
  let⟨z,hd,xs,rel,dd⟩:=zlX I.hok e;refine call_meetsIn DO dd.typeIs Ep (Ed _ _ _) (meetsH_dict_get_default (tupleKind (yN X.prog X.w)) a b hd r) ⟨Fc hu,k,xs,zhi I.hok eb,dd,h _ _ (I.tok _) ?_⟩;rw[l];exact(rel.val k).getD rd
end
def ydI(td ty tx:TE):TE:=λσ H Q=>td σ H λx H1=>∃a,x=.ref a/\IsD H1 a/\ty σ H1 λy H2=>tx σ H2 λz H3=>∃o,yeY H3 a y o/\Q (o.getD z) H3
section
variable {X:Cx}{o e f:AT}{apos cpos:CJ}{td ty tx:TE}
theorem ziT(hu:X.A.units+1<cLine)(ho:PE X o td)(he:PE X e ty)(hf:PE X f tx)(m:M2 X o "get" apos e f cpos):PE X (.Call (.Attribute o "get" apos) [e,f] [] cpos) (ydI td ty tx):=by
 intro pins s σ H Q I h;refine wpAny_Call_method m.base m.few m.line PySem.F.plainAttrs_dict DO PySem.F.type_dict_get (thn (ho pins s σ H _ I h) λu s1 kq=>?_);let⟨x,H1,I1,rx,a,ex,d,q1⟩:=kq;subst ex;obtain rfl:u=Ah a:=rx;let⟨t1,t2,_⟩:=zoC I1 d;refine⟨t1,t2,?_⟩;rw[m.trees];refine En rfl (FG (Dv (thn (he pins s1 σ H1 _ I1 q1) λiv s2 ⟨y,H2,I2,ry,q2⟩=>
  Dv (thn (hf pins s2 σ H2 _ I2 q2) λfv s3 ⟨z,H3,I3,rz,ov,g,q3⟩=>Fj ?_))))
 exact znm hu I3 g ry rz λw' s4 I4 rw'=>⟨_,H3,I4,rw',q3⟩
end
section
variable {X:Cx}{pins:List (AI×Bu)}{σ:St}{H:Hp}{s:AJ}{a:AI}{kvs:List (Key×V)}{A:Ao}{E:AG->AJ->Prop}
end
section
variable {X:Cx}{pins:List (AI×Bu)}{σ:St}{H:Hp}{s:AJ}{a:AI}{y:V}{u:AG}{A:Ao}{E:AG->AJ->Prop}
end
end L2
namespace IC
open PySem
inductive PV where
 |non|bl (b:Bool)|int (i:Int)|str (x:AQ)|tp (k:Bool) (xs:List PV)|lst (xs:List PV)|loc (n:Nat)|exn (c:Nat)|scr (xs:List PV)
deriving Inhabited
noncomputable abbrev PV.tup(xs:List PV):PV:=.tp AC xs
mutual
noncomputable def nL:PV->Bool
 |.loc _=>AC
 |.exn _=>AC
 |.tp _ xs=>nLs xs
 |.lst xs=>nLs xs
 |.scr xs=>nLs xs
 |_=>AB
noncomputable def nLs:List PV->Bool
 |[]=>AB
 |x::xs=>nL x&&nLs xs
end
mutual
noncomputable def shd(n:Nat):PV->Bool
 |.non=>AB
 |.bl _=>AB
 |.int _=>AB
 |.str x=>x.cps.all (· < 0x110000)
 |.tp _ xs=>decide (0<n)&&ybr (n-1) xs
 |.lst xs=>decide (0<n)&&ybr (n-1) xs
 |_=>AC
noncomputable def ybr(n:Nat):List PV->Bool
 |[]=>AB
 |x::xs=>shd n x&&ybr n xs
end
abbrev shp(v:PV):Bool:=shd 60 v
noncomputable def flat:PV->Bool
 |.non=>AB
 |.bl _=>AB
 |.int _=>AB
 |.str _=>AB
 |_=>AC
noncomputable def bi(b:Bool):Int:=if b then 1 else 0
mutual
noncomputable def peq:PV->PV->Bool
 |.non,.non=>AB
 |.bl a,.bl b=>a==b
 |.bl a,.int j=>bi a==j
 |.int i,.bl b=>i==bi b
 |.int i,.int j=>i==j
 |.str x,.str y=>x==y
 |.tp _ xs,.tp _ ys=>ybg xs ys
 |.lst xs,.lst ys=>ybg xs ys
 |_,_=>AC
noncomputable def ybg:List PV->List PV->Bool
 |[],[]=>AB
 |x::xs,y::ys=>peq x y&&ybg xs ys
 |_,_=>AC
end
inductive Ob where
 |lst (xs:List PV)|dct (t:Bool) (kvs:List (PV×PV))|dead|ins (c:Nat) (fs:List (AQ×PV))
noncomputable abbrev Env:=List (Option PV)
noncomputable abbrev SO:=List Ob
inductive R(α:Type) where
 |ok (a:α) (st:SO)|exc (c:Nat) (st:SO)|bad
noncomputable def R.bind{α β:Type}(r:R α)(k:α->SO->R β):R β:=
 match r with
 |.ok a st=>k a st
 |.exc c st=>.exc c st
 |.bad=>.bad
inductive BOp where
 |add|sub|mul|fdiv|mod|pow|shl|shr|band|bor|bxor
inductive COp where
 |eq|ne|lt|le|gt|ge|is|isnot|isin|notin
inductive Ty where
 |int|bool|str|tuple|list|cls (c:Nat)|val
inductive Blt where
 |len|int|abs|min|max|tuple|list|all|sum|dict|rev|str|any
inductive Mth where
 |append|extend|get|bits|upper|insert|count|index|join|split|sidx|clear
inductive Tg where
 |n (i:Nat)|t (l:List Nat)
set_option genInjectivity false
mutual
inductive Ce where
 |cst (v:PV)
 |var (i:Nat)
 |bin (o:BOp) (a b:Ce)
 |neg (a:Ce)
 |not (a:Ce)
 |and (a b:Ce)
 |or (a b:Ce)
 |cmp (o:COp) (a b:Ce)
 |chain (o p:COp) (a b c:Ce)
 |ite (c a b:Ce)
 |tup (es:Ces)
 |lst (es:Ces)
 |newl (es:Ces)
 |dict0 (t:Bool)
 |idx (a i:Ce)
 |slc (a:Ce) (lo hi:Ce)
 |call (f:Nat) (args:Ces)
 |blt (b:Blt) (args:Ces)
 |mth (m:Mth) (o:Ce) (args:Ces)
 |isi (a:Ce) (t:List Ty)
 |comp (sl:List (Option Nat)) (tg:Tg) (it:Cit) (c:Ce) (e:Ce)
 |frz (a:Ce)
 |nope
 |dix (D:List (AQ×PV)) (a:Ce)
 |din (a:Ce) (D:List (AQ×PV))
 |fld (c:Nat) (a:Ce) (f:AQ)
 |new (c i:Nat) (es:Ces)
 |mcl (c i:Nat) (m:AQ) (o:Ce) (es:Ces)
inductive Ces where
 |nil
 |cons (e:Ce) (es:Ces)
inductive Cit where
 |seq (e:Ce)
 |range1 (a:Ce)
 |range2 (a b:Ce)
 |rangeD (a b:Ce)
 |enum (e:Ce)
 |zip (a b:Ce)
 |revl (e:Ce)
 |revr (a:Ce)
 |chars (e:Ce)
end
set_option genInjectivity true
abbrev Ce.i(n:Int):Ce:=.cst (.int n)
abbrev Ce.s(x:AQ):Ce:=.cst (.str x)
abbrev Ce.v:=Ce.var
abbrev Ces.k:=Ces.cons
abbrev Ces.e:=Ces.nil
mutual
inductive Cs where
 |expr (e:Ce)
 |asg (t:Tg) (e:Ce)
 |six (o i e:Ce)
 |dput (o i e:Ce)
 |aug (i:Nat) (o:BOp) (e:Ce)
 |ret (e:Ce)
 |ite (c:Ce) (a b:Css)
 |for (t:Tg) (it:Cit) (b:Css)
 |while (c:Ce) (b:Css)
 |nope
 |sfl (c:Nat) (o:Ce) (f:AQ) (e:Ce)
 |mkr (i:Nat) (D:List (AQ×Nat)) (n:Ce) (es:Ces)
inductive Css where
 |nil
 |cons (s:Cs) (ss:Css)
end
abbrev Css.k:=Css.cons
abbrev Css.e:=Css.nil
noncomputable def yaB(i j:Int):Bool:=(decide (i.natAbs<18446744073709551616)) || (decide (j.natAbs<18446744073709551616))
def binI(o:BOp)(i j:Int):Option PV:=
 match o with
 |.add=>AA (.int (i+j))
 |.sub=>AA (.int (i-j))
 |.mul=>if yaB i j then AA (.int (i*j))else AD
 |.fdiv=>if 0<j/\j<10000000000000000000000000000000000000000000000000000000000000000000000 then AA (.int (i/j))else AD
 |.mod=>if 0<j then AA (.int (i%j))else AD
 |.pow=>if 0<=j/\j<=1000000/\i.natAbs<18446744073709551616 then AA (.int (i^j.toNat))else AD
 |.shl=>if 0<=j/\j<=1000000/\i.natAbs<18446744073709551616 then AA (.int (i*2^j.toNat))else AD
 |.shr=>if 0<=j then AA (.int (i/2^j.toNat))else AD
 |.band=>AA (.int (Al i j))
 |.bor=>AA (.int (B0 i j))
 |.bxor=>AA (.int (Bl i j))
noncomputable def sizeMax:Nat:=16777216
noncomputable def yeB(k:Bool)(a:List PV)(j:Bool)(b:List PV):PV:=if a.isEmpty then .tp j b else if b.isEmpty then .tp k a else .tup (a++b)
def yq(o:BOp)(x y:PV):Option PV:=
 match x,y with
 |.int i,.int j=>binI o i j
 |.int i,.bl b=>match o with
  |.add=>AA (.int (i+bi b))
  |_=>AD
 |.str a,.str b=>match o with
  |.add=>if a.length+b.length<=sizeMax then AA (.str (a++b))else AD
  |_=>AD
 |.tp k a,.tp j b=>match o with
  |.add=>if a.length+b.length<=sizeMax then AA (yeB k a j b)else AD
  |_=>AD
 |.lst a,.lst b=>match o with
  |.add=>if a.length+b.length<=sizeMax then AA (.lst (a++b))else AD
  |_=>AD
 |_,_=>AD
def ybP(o:BOp)(x y:PV):Option PV:=
 match x,y with
 |.int i,.int j=>binI o i j
 |_,_=>AD
noncomputable def isNon:PV->Bool
 |.non=>AB
 |_=>AC
def inL(x:PV):List PV->Bool
 |[]=>AC
 |y::ys=>peq y x || inL x ys
noncomputable def inS(a b:AQ):Bool:=(CL (b.length+1)).any λi=>decide (i+a.length<=b.length)&&(b.cps.extract i (i+a.length)==a.cps)
noncomputable def ybC(o:COp)(i j:Int):Option PV:=
 match o with
 |.lt=>AA (.bl (decide (i<j)))
 |.le=>AA (.bl (decide (i<=j)))
 |.gt=>AA (.bl (decide (j<i)))
 |.ge=>AA (.bl (decide (j<=i)))
 |_=>AD
noncomputable def yeA(o:COp)(a b:AQ):Option PV:=
 match o with
 |.lt=>AA (.bl (decide (a.cps.toList<b.cps.toList)))
 |.le=>AA (.bl (!decide (b.cps.toList<a.cps.toList)))
 |_=>AD
def yD(o:COp)(x y:PV):Option PV:=
 match o with
 |.eq=>if shp x&&shp y then AA (.bl (peq x y))else AD
 |.ne=>if shp x&&shp y then AA (.bl (!peq x y))else AD
 |.is=>match y with
  |.non=>AA (.bl (isNon x))
  |.bl b=>match x with
   |.bl a=>AA (.bl (a==b))
   |_=>AD
  |_=>AD
 |.isnot=>match y with
  |.non=>AA (.bl (!isNon x))
  |.bl b=>match x with
   |.bl a=>AA (.bl (!(a==b)))
   |_=>AD
  |_=>AD
 |.isin=>match x,y with
  |.str a,.str b=>AA (.bl (inS a b))
  |x,.tp _ l=>if flat x&&l.all flat then AA (.bl (inL x l))else AD
  |x,.lst l=>if flat x&&l.all flat then AA (.bl (inL x l))else AD
  |_,_=>AD
 |.notin=>match x,y with
  |.str a,.str b=>AA (.bl (!inS a b))
  |x,.tp _ l=>if flat x&&l.all flat then AA (.bl (!inL x l))else AD
  |x,.lst l=>if flat x&&l.all flat then AA (.bl (!inL x l))else AD
  |_,_=>AD
 |o=>match x,y with
  |.int i,.int j=>ybC o i j
  |.str a,.str b=>yeA o a b
  |_,_=>AD
def yaM(st:SO)(x:PV):Option Bool:=
 match x with
 |.non=>AA AC
 |.bl b=>AA b
 |.int i=>AA (i != 0)
 |.str y=>if y.length<=sizeMax then AA ((y.length:Int) != 0)else AD
 |.tp _ xs=>AA (!xs.isEmpty)
 |.lst xs=>AA (!xs.isEmpty)
 |.loc n=>match st[n]? with
  |some (.lst xs)=>AA (!xs.isEmpty)
  |_=>AD
 |_=>AD
noncomputable def ixI(n:Nat)(i:Int):Option Nat:=if 0<=i then(if i<n then AA i.toNat else AD)else if -(n:Int)<=i then AA (i+n).toNat else AD
def at?{α:Type}(xs:List α)(i:Int):Option α:=(ixI xs.length i).bind λj=>xs[j]?
def look(k:PV):List (PV×PV)->Option PV
 |[]=>AD
 |(a,b)::r=>if peq a k then AA b else look k r
def put(k v:PV)(kvs:List (PV×PV)):List (PV×PV):=
 if (kvs.any λp=>peq p.1 k)=AB then kvs.map (λp=>if peq p.1 k=AB then(p.1,v)else p)else kvs++[(k,v)]
noncomputable def ybK:PV->Bool
 |.int _=>AB
 |.str _=>AB
 |_=>AC
def isKey(t:Bool)(k:PV):Bool:=
 match t with
 |false=>ybK k
 |true=>match k with
  |.tp AC xs=>xs.all ybK
  |_=>AC
noncomputable def ya5{α:Type}(xs:List α)(i:PV):Option α:=
 match i with
 |.int k=>at? xs k
 |_=>AD
def idxV(st:SO)(x i:PV):Option PV:=
 match x with
 |.tp _ xs=>ya5 xs i
 |.lst xs=>ya5 xs i
 |.str s=>if s.length<=sizeMax then(ya5 s.cps.toList i).map λc=>.str ⟨#[c]⟩else AD
 |.loc n=>match st[n]? with
  |some (.lst xs)=>ya5 xs i
  |_=>AD
 |_=>AD
noncomputable def ybn(n:Nat)(v:Int):Nat:=if v<0 then(v+(n:Int)).toNat else min v.toNat n
def ycE(n:Nat)(lo:Option Int):Nat:=
 match lo with
 |none=>0
 |some i=>ybn n i
def yc0(n:Nat)(hi:Option Int):Nat:=
 match hi with
 |none=>n
 |some i=>ybn n i
def cut{α:Type}(xs:List α)(lo hi:Option Int):List α:=(xs.drop (ycE xs.length lo)).take (yc0 xs.length hi-ycE xs.length lo)
noncomputable def yb2:PV->Option (Option Int)
 |.non=>AA AD
 |.int i=>AA (AA i)
 |_=>AD
def ycz(x:PV)(a b:Option Int):Option PV:=
 match x with
 |.tp k xs=>if ycE xs.length a=0/\yc0 xs.length b=xs.length then AA (.tp k xs)else AA (.tup (cut xs a b))
 |.str s=>if s.length<=sizeMax then AA (.str ⟨(cut s.cps.toList a b).toArray⟩)else AD
 |.lst xs=>AA (.lst (cut xs a b))
 |.scr xs=>AA (.lst (cut xs a b))
 |_=>AD
def ycs(x:PV)(a:Option Int)(hi:PV):Option PV:=
 match yb2 hi with
 |some b=>ycz x a b
 |none=>AD
noncomputable def ybz(x:PV)(t:Ty):Bool:=
 match x,t with
 |.int _,.int=>AB
 |.bl _,.int=>AB
 |.bl _,.bool=>AB
 |.str _,.str=>AB
 |.tp _ _,.tuple=>AB
 |.lst _,.list=>AB
 |.exn c,.cls d=>c==d
 |.exn _,.val=>AB
 |_,_=>AC
noncomputable def ydG:Ty->Bool
 |.cls _=>AC
 |.val=>AC
 |_=>AB
def yaK(x:PV)(ts:List Ty):Option PV:=
 match x with
 |.loc _=>AD
 |.scr _=>AD
 |.exn c=>if ts.all ydG then AD else AA (.bl (ts.any (ybz (.exn c))))
 |x=>match ts with
  |[t]=>if ydG t then AA (.bl (ybz x t))else AD
  |_=>AD
noncomputable def allB:List PV->Option Bool
 |[]=>AA AB
 |.bl b::r=>match allB r with
  |some c=>AA (b&&c)
  |none=>AD
 |_::_=>AD
noncomputable def ye6:List PV->Option Int
 |[]=>AA 0
 |.int i::r=>match ye6 r with
  |some c=>AA (i+c)
  |none=>AD
 |_::_=>AD
noncomputable def ydz:List PV->Option Int
 |[]=>AD
 |[.int i]=>AA i
 |.int i::r=>match ydz r with
  |some c=>AA (if i<c then c else i)
  |none=>AD
 |_::_=>AD
noncomputable def yb4(st:SO):PV->Option (List PV)
 |.tp _ xs=>AA xs
 |.lst xs=>AA xs
 |.loc n=>match st[n]? with
  |some (.lst xs)=>AA xs
  |_=>AD
 |_=>AD
noncomputable def yad(st:SO):PV->Option (List PV)
 |.lst xs=>AA xs
 |.loc n=>match st[n]? with
  |some (.lst xs)=>AA xs
  |_=>AD
 |_=>AD
def lenV(st:SO)(x:PV):Option PV:=
 match x with
 |.str s=>if s.length<=sizeMax then AA (.int s.length)else AD
 |x=>(yb4 st x).map λxs=>.int xs.length
def yec(x:PV):Option PV:=
 match x with
 |.int i=>AA (.int i)
 |.bl k=>AA (.int (bi k))
 |_=>AD
noncomputable def yeQ(x:PV):Option PV:=
 match x with
 |.int i=>AA (.int (if i<0 then -i else i))
 |_=>AD
noncomputable def yd3(x y:PV):Option PV:=
 match x,y with
 |.int i,.int j=>AA (.int (if j<i then j else i))
 |_,_=>AD
noncomputable def maxV(x y:PV):Option PV:=
 match x,y with
 |.int i,.int j=>AA (.int (if i<j then j else i))
 |_,_=>AD
def yeH(st:SO)(x:PV):Option PV:=
 match x with
 |.tp k xs=>AA (.tp k xs)
 |x=>(yad st x).map .tup
noncomputable def yei:PV->Option PV
 |.tp _ xs=>if xs.isEmpty then AD else AA (.tup xs.reverse)
 |.lst xs=>AA (.lst xs.reverse)
 |_=>AD
noncomputable def anyB:List PV->Option Bool
 |[]=>AA AC
 |.bl b::r=>match anyB r with
  |some c=>AA (b || c)
  |none=>AD
 |_=>AD
noncomputable def anyI:List PV->Option Bool
 |[]=>AA AC
 |.int i::r=>match anyI r with
  |some c=>AA ((i != 0) || c)
  |none=>AD
 |_=>AD
noncomputable def yfB:PV->Option PV
 |.int i=>if i=0 then AA (.str "0")else if i=1 then AA (.str "1")else AD
 |_=>AD
def yar(b:Blt)(st:SO)(vs:List PV):Option PV:=
 match vs with
 |[x]=>match b with
  |.len=>lenV st x
  |.int=>yec x
  |.abs=>yeQ x
  |.max=>(yad st x).bind λxs=>(ydz xs).map .int
  |.tuple=>yeH st x
  |.list=>(yb4 st x).map .lst
  |.all=>(yad st x).bind λxs=>(allB xs).map .bl
  |.sum=>(yad st x).bind λxs=>(ye6 xs).map .int
  |.rev=>yei x
  |.str=>yfB x
  |.any=>match x with
   |.tp _ xs=>(anyI xs).map .bl
   |x=>(yad st x).bind λxs=>(anyB xs).map .bl
  |_=>AD
 |[x,y]=>match b with
  |.min=>yd3 x y
  |.max=>maxV x y
  |_=>AD
 |_=>AD
noncomputable def ybe(st:SO):PV->Option (Bool×List (PV×PV))
 |.loc n=>match st[n]? with
  |some (.dct t xs)=>AA (t,xs)
  |_=>AD
 |_=>AD
def yaL(m:Mth)(st:SO)(x:PV):Option Bool:=
 match m with
 |.append=>(yad st x).map λ_=>AB
 |.extend=>(yad st x).map λ_=>AB
 |.insert=>(yad st x).map λ_=>AB
 |.count=>(yad st x).map λ_=>AB
 |.index=>(yad st x).map λ_=>AB
 |.get=>(ybe st x).map λ_=>AB
 |.bits=>match x with
  |.int _=>AA AB
  |_=>AD
 |.upper=>match x with
  |.str _=>AA AB
  |_=>AD
 |.join=>match x with
  |.str _=>AA AB
  |_=>AD
 |.split=>match x with
  |.str _=>AA AB
  |_=>AD
 |.sidx=>match x with
  |.str _=>AA AB
  |_=>AD
 |.clear=>match x with
  |.loc n=>(yad st (.loc n)).map λ_=>AB
  |_=>AD
noncomputable def ydM(st:SO)(o v:PV):R PV:=
 match o with
 |.loc n=>match st[n]? with
  |some (.lst xs)=>if xs.length<1000000 then .ok .non (st.set n (.lst (xs++[v])))else .bad
  |_=>.bad
 |_=>.bad
noncomputable def yf6(st:SO)(o v:PV):R PV:=
 match o with
 |.loc n=>match st[n]? with
  |some (.lst xs)=>match v with
   |.lst ys=>if xs.length+ys.length<=1000000 then .ok .non (st.set n (.lst (xs++ys)))else .bad
   |_=>.bad
  |_=>.bad
 |_=>.bad
noncomputable def ygX(st:SO)(o i v:PV):R PV:=
 match o with
 |.loc n=>match st[n]? with
  |some (.lst xs)=>match i with
   |.int k=>if 0<=k/\k<=xs.length/\xs.length<1000000 then .ok .non (st.set n (.lst (xs.take k.toNat++v::xs.drop k.toNat)))else .bad
   |_=>.bad
  |_=>.bad
 |_=>.bad
def ydN(st:SO)(o k d:PV):R PV:=
 match ybe st o with
 |some (t,kvs)=>if isKey t k then .ok ((look k kvs).getD d) st else .bad
 |none=>.bad
def yfs(st:SO)(o v:PV):R PV:=
 match yad st o with
 |some xs=>if flat v&&xs.all flat then .ok (.int (xs.countP λy=>peq y v)) st else .bad
 |none=>.bad
def ydn(v:PV):List PV->Option Nat
 |[]=>AD
 |y::ys=>if peq y v then AA 0 else(ydn v ys).map (·+1)
def yf5(st:SO)(o v:PV):R PV:=
 match yad st o with
 |some xs=>if flat v&&xs.all flat then(match ydn v xs with
  |some j=>.ok (.int j) st
  |none=>.bad)else .bad
 |none=>.bad
noncomputable def upC(c:Nat):Nat:=if 97<=c/\c<=122 then c-32 else c
def upS(s:AQ):Str:=⟨(s.cps.toList.map upC).toArray⟩
noncomputable def yb3(c:Nat):List Nat->List (List Nat)
 |[]=>[[]]
 |x::xs=>if x=c then []::yb3 c xs else match yb3 c xs with
  |[]=>[[x]]
  |p::ps=>(x::p)::ps
noncomputable def strsOf:List PV->Option (List AQ)
 |[]=>AA []
 |.str s::r=>(strsOf r).map (s :: ·)
 |_=>AD
def yd2(st:SO)(o v:PV):R PV:=
 match o,yad st v with
 |.str s,AA xs=>match strsOf xs with
  |some ys=>if s.length<=10/\xs.length<=1000/\(ys.all λy=>decide (y.length<=1000))=AB then .ok (.str (Str.join s ys)) st else .bad
  |none=>.bad
 |_,_=>.bad
noncomputable def ygC(st:SO)(o:PV):R PV:=
 match o with
 |.loc n=>match st[n]? with
  |some (.lst _)=>.ok .non (st.set n (.lst []))
  |_=>.bad
 |_=>.bad
noncomputable def yeO(st:SO)(o v:PV):R PV:=
 match o,v with
 |.str s,.str y=>if s=AF "01" then(if y=AF "0" then .ok (.int 0) st else if y=AF "1" then .ok (.int 1) st else .bad)else .bad
 |_,_=>.bad
def ydC(st:SO)(o v:PV):R PV:=
 match o,v with
 |.str s,.str y=>match y.cps.toList with
  |[c]=>if s.length<=100000 then .ok (.lst ((yb3 c s.cps.toList).map λl=>.str ⟨l.toArray⟩)) st else .bad
  |_=>.bad
 |_,_=>.bad
def ycg(m:Mth)(st:SO)(o:PV)(vs:List PV):R PV:=
 match m,vs with
 |.append,[v]=>ydM st o v
 |.extend,[v]=>yf6 st o v
 |.insert,[i,v]=>ygX st o i v
 |.get,[k,d]=>ydN st o k d
 |.count,[v]=>yfs st o v
 |.index,[v]=>yf5 st o v
 |.join,[v]=>yd2 st o v
 |.split,[v]=>ydC st o v
 |.sidx,[v]=>yeO st o v
 |.clear,[]=>ygC st o
 |.bits,[]=>match o with
  |.int i=>.ok (.int (Builtin.Int.intBits i)) st
  |_=>.bad
 |.upper,[]=>match o with
  |.str s=>if s.cps.toList.all (· < 128)/\s.length<=1000000 then .ok (.str (upS s)) st else .bad
  |_=>.bad
 |_,_=>.bad
noncomputable def toR(o:Option PV)(st:SO):R PV:=
 match o with
 |some v=>.ok v st
 |none=>.bad
noncomputable def yJ(t:Tg)(v:PV)(ρ:Env):Option Env:=
 match t,v with
 |.n i,v=>AA (ρ.set i (AA v))
 |.t l,.tp _ xs=>if l.length=xs.length then AA ((l.zip xs).foldl (λρ p=>ρ.set p.1 (AA p.2)) ρ)else AD
 |_,_=>AD
noncomputable def yaa:Nat->List PV->List PV
 |_,[]=>[]
 |k,x::xs=>.tup [.int k,x]::yaa (k+1) xs
noncomputable def yaQ:List PV->List PV->List PV
 |x::xs,y::ys=>.tup [x,y]::yaQ xs ys
 |_,_=>[]
noncomputable def ygD:PV->Option (List PV)
 |.tp _ xs=>AA xs.reverse
 |.lst xs=>AA xs.reverse
 |_=>AD
noncomputable def yc6:PV->Option (List PV)
 |.str s=>if s.length<=1000000 then AA (s.cps.toList.map λc=>.str ⟨#[c]⟩)else AD
 |_=>AD
def ydS(x y:PV):Option (List PV):=
 match x,y with
 |.tp _ xs,.tp _ ys=>if xs.length<=ys.length then AA (yaQ xs ys)else AD
 |_,_=>AD
noncomputable def yaO(s:AQ):List (AQ×PV)->Option PV
 |[]=>AD
 |(a,b)::r=>if decide (a=s)then AA b else yaO s r
def ycK(D:List (AQ×PV))(x:PV):Option PV:=
 match x with
 |.str s=>yaO s D
 |_=>AD
def yct(D:List (AQ×PV))(x:PV):Option PV:=
 match x with
 |.str s=>AA (.bl (yaO s D).isSome)
 |_=>AD
noncomputable def yp:Nat->Int->Int->List PV
 |0,_,_=>[]
 |n+1,a,d=>.int a::yp n (a+d) d
def ybL(x:PV):Option (List PV):=
 match x with
 |.int j=>if j.natAbs<1000000000 then AA (yp j.toNat 0 1)else AD
 |_=>AD
def ygi(x:PV):Option (List PV):=
 match x with
 |.int j=>if 0<=j/\j<1000000000 then AA (yp j.toNat (j-1) (-1))else AD
 |_=>AD
def ygV(x y:PV):Option (List PV):=
 match x,y with
 |.int i,.int j=>if i.natAbs<1000000000/\j.natAbs<1000000000 then AA (yp (j-i).toNat i 1)else AD
 |_,_=>AD
def yfz(x y:PV):Option (List PV):=
 match x,y with
 |.int i,.int j=>if i.natAbs<1000000000/\j.natAbs<1000000000 then AA (yp (i-j).toNat i (-1))else AD
 |_,_=>AD
noncomputable def toL(o:Option (List PV))(st:SO):R (List PV):=
 match o with
 |some v=>.ok v st
 |none=>.bad
noncomputable def ydt(v:PV)(st:SO):R PV:=
 match v with
 |.loc n=>match st[n]? with
  |some (.lst xs)=>.ok (.lst xs) (st.set n .dead)
  |_=>.bad
 |v=>.ok v st
noncomputable def mkV(D:List (AQ×Nat))(b:Bool)(x:PV):Option Nat:=
 match x with
 |.str s=>if b then D.lookup s else AD
 |_=>AD
noncomputable def ya4(c:Nat)(st:SO)(x:PV)(f:AQ):Option PV:=
 match x with
 |.loc n=>match st[n]? with
  |some (.ins d fs)=>if d=c then fs.lookup f else AD
  |_=>AD
 |_=>AD
noncomputable def ybS(f:AQ)(v:PV):List (AQ×PV)->List (AQ×PV)
 |[]=>[(f,v)]
 |(g,x)::r=>if g=f then(g,v)::r else(g,x)::ybS f v r
def ya2(c:Nat)(st:SO)(x:PV)(f:AQ)(v:PV):Option SO:=
 match x with
 |.loc n=>match st[n]? with
  |some (.ins d fs)=>if d=c/\fs.length<1000 then AA (st.set n (.ins c (ybS f v fs)))else AD
  |_=>AD
 |_=>AD
noncomputable def ybY(c:Nat)(m:AQ)(st:SO)(x:PV):Option Bool:=
 match x with
 |.loc n=>match st[n]? with
  |some (.ins d fs)=>if d=c/\fs.lookup m=AD then AA AB else AD
  |_=>AD
 |_=>AD
noncomputable def newV(n:Nat)(v:PV)(st:SO):R PV:=
 match v with
 |.non=>.ok (.loc n) st
 |_=>.bad
noncomputable def ybx(r:R PV):R PV:=
 match r with
 |.ok v st=>.ok v st
 |_=>.bad
inductive Fl where
 |nx (ρ:Env) (st:SO)|rt (v:PV) (st:SO)|bk (ρ:Env) (st:SO)|ct (ρ:Env) (st:SO)|exc (c:Nat) (ρ:Env) (st:SO)|bad
noncomputable def onBl{α:Type}(x:PV)(k:Bool->R α):R α:=
 match x with
 |.bl b=>k b
 |_=>.bad
noncomputable def onO{α:Type}(o:Option Bool)(k:Bool->R α):R α:=
 match o with
 |some b=>k b
 |none=>.bad
noncomputable def onF(o:Option Bool)(k:Bool->Fl):Fl:=
 match o with
 |some b=>k b
 |none=>.bad
noncomputable def onP{α:Type}(o:Option (Option Int))(k:Option Int->R α):R α:=
 match o with
 |some b=>k b
 |none=>.bad
noncomputable def blO(o:Option PV):Option Bool:=
 match o with
 |some (.bl b)=>AA b
 |_=>AD
noncomputable def yb6(o:Option PV)(ys:List PV):List PV:=
 match o with
 |some y=>y::ys
 |none=>ys
def yaR(one:PV->SO->R (Option PV)):List PV->SO->R (List PV)
 |[],st=>.ok [] st
 |x::xs,st=>(one x st).bind λo st1=>(yaR one xs st1).bind λys st2=>.ok (yb6 o ys) st2
noncomputable def yci(r:R (List PV)):R PV:=
 match r with
 |.ok ys st=>if ys.length<=1000000 then .ok (.lst ys) st else .bad
 |_=>.bad
mutual
noncomputable def ev(call:Nat->List PV->SO->R PV)(ρ:Env)(st:SO):Ce->R PV
 |.cst v=>.ok v st
 |.var i=>match ρ[i]? with
  |some (AA v)=>.ok v st
  |_=>.bad
 |.bin o a b=>(ev call ρ st a).bind λx st1=>(ev call ρ st1 b).bind λy st2=>toR (yq o x y) st2
 |.neg a=>(ev call ρ st a).bind λx st1=>match x with
  |.int i=>.ok (.int (-i)) st1
  |_=>.bad
 |.not a=>(ev call ρ st a).bind λx st1=>onBl x λk=>.ok (.bl (!k)) st1
 |.and a b=>(ev call ρ st a).bind λx st1=>onBl x λk=>cond k (ev call ρ st1 b) (.ok (.bl AC) st1)
 |.or a b=>(ev call ρ st a).bind λx st1=>onBl x λk=>cond k (.ok (.bl AB) st1) (ev call ρ st1 b)
 |.cmp o a b=>(ev call ρ st a).bind λx st1=>(ev call ρ st1 b).bind λy st2=>toR (yD o x y) st2
 |.chain o p a b c=>(ev call ρ st a).bind λx st1=>(ev call ρ st1 b).bind λy st2=>onO (blO (yD o x y)) λk=>cond k ((ev call ρ st2 c).bind λz st3=>toR (yD p y z) st3) (.ok (.bl AC) st2)
 |.ite c a b=>(ev call ρ st c).bind λx st1=>onO (yaM st1 x) λk=>cond k (ev call ρ st1 a) (ev call ρ st1 b)
 |.tup es=>(evs call ρ st es).bind λvs st1=>if vs.length<=sizeMax then .ok (.tup vs) st1 else .bad
 |.lst es=>(evs call ρ st es).bind λvs st1=>if vs.length<=sizeMax then .ok (.lst vs) st1 else .bad
 |.newl es=>(evs call ρ st es).bind λvs st1=>if vs.length<=sizeMax then .ok (.loc st1.length) (st1++[.lst vs])else .bad
 |.dict0 t=>.ok (.loc st.length) (st++[.dct t []])
 |.idx a i=>(ev call ρ st a).bind λx st1=>(ev call ρ st1 i).bind λy st2=>toR (idxV st2 x y) st2
 |.slc a l h=>(ev call ρ st a).bind λx st1=>(ev call ρ st1 l).bind λy st2=>onP (yb2 y) λo=>(ev call ρ st2 h).bind λz st3=>toR (ycs x o z) st3
 |.call f es=>(evs call ρ st es).bind λvs st1=>call f vs st1
 |.blt b es=>(evs call ρ st es).bind λvs st1=>toR (yar b st1 vs) st1
 |.mth m o es=>(ev call ρ st o).bind λx st1=>onO (yaL m st1 x) λ_=>(evs call ρ st1 es).bind λvs st2=>ycg m st2 x vs
 |.isi a ts=>(ev call ρ st a).bind λx st1=>toR (yaK x ts) st1
 |.comp sl tg it c e=>(evi call ρ st it).bind λxs st1=>
  let ρ0:Env:=sl.map λo=>o.bind λj=>(ρ[j]?).join
  yci (yaR (λx st2=>match yJ tg x ρ0 with
   |none=>.bad
   |some ρ1=>(ev call ρ1 st2 c).bind λb st3=>onO (yaM st3 b) λk=>cond k ((ev call ρ1 st3 e).bind λy st4=>.ok (AA y) st4) (.ok AD st3)) xs st1)
 |.nope=>.bad
 |.frz a=>(ev call ρ st a).bind λx st1=>ydt x st1
 |.dix D a=>(ev call ρ st a).bind λx st1=>toR (ycK D x) st1
 |.din a D=>(ev call ρ st a).bind λx st1=>toR (yct D x) st1
 |.fld c a f=>(ev call ρ st a).bind λx st1=>toR (ya4 c st1 x f) st1
 |.new c i es=>(evs call ρ st es).bind λvs st1=>(ybx (call i (.loc st1.length::vs) (st1++[.ins c []]))).bind λv st2=>newV st1.length v st2
 |.mcl c i m o es=>(ev call ρ st o).bind λx st1=>onO (ybY c m st1 x) λ_=>(evs call ρ st1 es).bind λvs st2=>call i (x::vs) st2
noncomputable def evs(call:Nat->List PV->SO->R PV)(ρ:Env)(st:SO):Ces->R (List PV)
 |.nil=>.ok [] st
 |.cons e es=>(ev call ρ st e).bind λv st1=>(evs call ρ st1 es).bind λvs st2=>.ok (v::vs) st2
noncomputable def evi(call:Nat->List PV->SO->R PV)(ρ:Env)(st:SO):Cit->R (List PV)
 |.seq e=>(ev call ρ st e).bind λv st1=>match v with
  |.tp _ xs=>.ok xs st1
  |.lst xs=>.ok xs st1
  |_=>.bad
 |.range1 a=>(ev call ρ st a).bind λx st1=>toL (ybL x) st1
 |.range2 a b=>(ev call ρ st a).bind λx st1=>(ev call ρ st1 b).bind λy st2=>toL (ygV x y) st2
 |.rangeD a b=>(ev call ρ st a).bind λx st1=>(ev call ρ st1 b).bind λy st2=>toL (yfz x y) st2
 |.enum e=>(ev call ρ st e).bind λv st1=>match v with
  |.tp _ xs=>.ok (yaa 0 xs) st1
  |_=>.bad
 |.zip a b=>(ev call ρ st a).bind λx st1=>(ev call ρ st1 b).bind λy st2=>toL (ydS x y) st2
 |.revl e=>(ev call ρ st e).bind λv st1=>toL (ygD v) st1
 |.revr a=>(ev call ρ st a).bind λx st1=>toL (ygi x) st1
 |.chars e=>(ev call ρ st e).bind λv st1=>toL (yc6 v) st1
end
noncomputable def R.fl{α:Type}(r:R α)(ρ:Env)(k:α->SO->Fl):Fl:=
 match r with
 |.ok a st=>k a st
 |.exc c st=>.exc c ρ st
 |.bad=>.bad
noncomputable def yaq(f:Fl)(k:Env->SO->Fl):Fl:=
 match f with
 |.nx ρ st=>k ρ st
 |.ct ρ st=>k ρ st
 |.bk ρ st=>.nx ρ st
 |f=>f
def forL(t:Tg)(body:Env->SO->Fl):List PV->Env->SO->Fl
 |[],ρ,st=>.nx ρ st
 |x::xs,ρ,st=>match yJ t x ρ with
  |none=>.bad
  |some ρ1=>yaq (body ρ1 st) λρ2 st2=>forL t body xs ρ2 st2
def yat(test:Env->SO->R PV)(body:Env->SO->Fl):Nat->Env->SO->Fl
 |0,_,_=>.bad
 |n+1,ρ,st=>(test ρ st).fl ρ λx st1=>onF (yaM st1 x) λk=>cond k (yaq (body ρ st1) λρ2 st2=>yat test body n ρ2 st2) (.nx ρ st1)
def ybB(st:SO)(o i v:PV):Option SO:=
 match o with
 |.loc n=>match st[n]? with
  |some (.lst xs)=>match i with
   |.int k=>match ixI xs.length k with
    |some j=>AA (st.set n (.lst (xs.set j v)))
    |none=>AD
   |_=>AD
  |_=>AD
 |_=>AD
def ybd(st:SO)(o i v:PV):Option SO:=
 match o with
 |.loc n=>match st[n]? with
  |some (.dct t kvs)=>if isKey t i/\kvs.length<1000000 then AA (st.set n (.dct t (put i v kvs)))else AD
  |_=>AD
 |_=>AD
mutual
noncomputable def ex(call:Nat->List PV->SO->R PV)(ρ:Env)(st:SO):Cs->Fl
 |.expr e=>(ev call ρ st e).fl ρ λ_ st1=>.nx ρ st1
 |.asg t e=>(ev call ρ st e).fl ρ λv st1=>match yJ t v ρ with
  |some ρ1=>.nx ρ1 st1
  |none=>.bad
 |.six o i e=>(ev call ρ st e).fl ρ λv st1=>(ev call ρ st1 o).fl ρ λx st2=>(ev call ρ st2 i).fl ρ λy st3=>match ybB st3 x y v with
  |some st4=>.nx ρ st4
  |none=>.bad
 |.dput o i e=>(ev call ρ st e).fl ρ λv st1=>(ev call ρ st1 o).fl ρ λx st2=>(ev call ρ st2 i).fl ρ λy st3=>match ybd st3 x y v with
  |some st4=>.nx ρ st4
  |none=>.bad
 |.aug i o e=>match ρ[i]? with
  |some (AA x)=>(ev call ρ st e).fl ρ λy st1=>match ybP o x y with
   |some z=>.nx (ρ.set i (AA z)) st1
   |none=>.bad
  |_=>.bad
 |.ret e=>(ev call ρ st e).fl ρ λv st1=>.rt v st1
 |.ite c a b=>(ev call ρ st c).fl ρ λx st1=>onF (yaM st1 x) λk=>cond k (exs call ρ st1 a) (exs call ρ st1 b)
 |.for t it b=>(evi call ρ st it).fl ρ λxs st1=>forL t (λρ2 st2=>exs call ρ2 st2 b) xs ρ st1
 |.while c b=>yat (λρ2 st2=>ev call ρ2 st2 c) (λρ2 st2=>exs call ρ2 st2 b) 100000 ρ st
 |.nope=>.bad
 |.mkr i D n es=>(ev call ρ st n).fl ρ λx st1=>match mkV D (decide (i<ρ.length)) x with
  |some j=>((evs call (ρ.set i AD) st1 es).bind λvs st2=>call j vs st2).fl (ρ.set i AD) λv st3=>.rt v st3
  |none=>.bad
 |.sfl c o f e=>(ev call ρ st e).fl ρ λv st1=>(ev call ρ st1 o).fl ρ λx st2=>match ya2 c st2 x f v with
  |some st3=>.nx ρ st3
  |none=>.bad
noncomputable def exs(call:Nat->List PV->SO->R PV)(ρ:Env)(st:SO):Css->Fl
 |.nil=>.nx ρ st
 |.cons s ss=>match ex call ρ st s with
  |.nx ρ1 st1=>exs call ρ1 st1 ss
  |f=>f
end
structure Fn where
 np:Nat
 ns:Nat
 pure:Bool
 body:Css
def yc(T:Nat->Option Fn):Nat->Nat->List PV->SO->R PV
 |0,_,_,_=>.bad
 |k+1,f,args,st=>match T f with
  |none=>.bad
  |some fn=>if args.length=fn.np then
    if fn.pure then
     if nLs args then match exs (yc T k) (args.map AA++Ae (fn.ns-fn.np) AD) [] fn.body with
      |.rt v _=>if nL v then .ok v st else .bad
      |.nx _ _=>.ok .non st
      |.exc c _ _=>.exc c st
      |_=>.bad
     else .bad
    else match exs (yc T k) (args.map AA++Ae (fn.ns-fn.np) AD) st fn.body with
     |.rt v st1=>.ok v st1
     |.nx _ st1=>.ok .non st1
     |.exc c _ st1=>.exc c st1
     |_=>.bad
   else .bad
noncomputable def yR:List (Sum Ce Int)->Ces
 |[]=>.nil
 |.inl c::r=>.cons c (yR r)
 |.inr i::r=>.cons (.cst (.int i)) (yR r)
noncomputable def ya7:Ces->Ces->Ces
 |.nil,b=>b
 |.cons e r,b=>.cons e (ya7 r b)
end IC
namespace L2
open PySem PySem.Spec PyProof.Rows IC
noncomputable abbrev Ph:=List (Option AI)
section
variable (K:AE)(cl:Nat->AI)(B:AI->Prop)(φ:Ph)(H:Hp)
def ybM(k:Bool)(a:AI)(xs:List V):Prop:=(H a=AA (.tup xs)/\¬B a/\AA a∉φ) \/
 k=AB/\∃(o:Bu) (its:Array AG) (n:Nat),K.lookup a=AA o/\o.cls=.type "tuple"/\o.data=.seq its n/\its.size<=sizeLine/\Vals xs its.toList
def ycD(a:AI)(xs:List V):Prop:=H a=AA (.lst xs)/\¬B a/\AA a∉φ
def ydO(a:AI)(xs:List V):Prop:=(Rd H a (.lst xs)/\¬B a/\AA a∉φ) \/
 ∃(o:Bu) (its:Array AG) (n:Nat),K.lookup a=AA o/\o.cls=.type "list"/\o.dict=AD/\o.data=.seq its n/\its.size<=sizeLine/\Vals xs its.toList
mutual
noncomputable def yd:PV->V->Prop
 |.non,x=>x=.non
 |.bl b,x=>x=.bl b
 |.int i,x=>x=.int i
 |.str s,x=>x=.str s
 |.tp k vs,x=>∃a xs,x=.ref a/\ybM K B φ H k a xs/\ye vs xs
 |.lst vs,x=>∃a xs,x=.ref a/\ycD B φ H a xs/\ye vs xs
 |.loc n,x=>n<φ.length/\∃a,x=.ref a/\∀b,φ[n]?=AA (AA b)->b=a
 |.exn c,x=>∃a,x=.ref a/\H a=AA (.ext (ygT a (cl c)))/\¬B a/\AA a∉φ
 |.scr vs,x=>∃a xs,x=.ref a/\ydO K B φ H a xs/\ye vs xs
noncomputable def ye:List PV->List V->Prop
 |[],xs=>xs=[]
 |v::vs,xs=>∃y ys,xs=y::ys/\yd v y/\ye vs ys
end
noncomputable def yaH:Key->PV
 |.inl i=>.int i
 |.inr y=>.str y
def DK:List (PV×PV)->List (Key×V)->Prop
 |[],ks=>ks=[]
 |(k,v)::r,ks=>∃q x s,ks=(q,x)::s/\k=yaH q/\yd K cl B φ H v x/\DK r s
def DT:List (PV×PV)->List (List Key×V)->Prop
 |[],ks=>ks=[]
 |(k,v)::r,ks=>∃q x s,ks=(q,x)::s/\k=.tup (q.map yaH)/\yd K cl B φ H v x/\DT r s
def FS:List (AQ×PV)->List (AQ×V)->Prop
 |[],ks=>ks=[]
 |(k,v)::r,ks=>∃x s,ks=(k,x)::s/\yd K cl B φ H v x/\FS r s
def ych:Ob->AI->Prop
 |.lst vs,a=>∃xs,H a=AA (.lst xs)/\ye K cl B φ H vs xs
 |.dct AC kvs,a=>∃ks,H a=AA (.dK ks)/\DK K cl B φ H kvs ks
 |.dct AB kvs,a=>∃ks,H a=AA (.dT ks)/\DT K cl B φ H kvs ks
 |.dead,_=>False
 |.ins c fs,a=>∃ks,(∃dx,H a=AA (.ins (cl c) dx ks))/\FS K cl B φ H fs ks
structure yx(st:SO):Prop where
 len:φ.length=st.length
 inj:∀(m n:Nat) (a:AI),φ[m]?=AA (AA a)->φ[n]?=AA (AA a)->m=n
 obj:∀(n:Nat) (a:AI),φ[n]?=AA (AA a)->∃o,st[n]?=AA o/\ych K cl B φ H o a
 liv:∀(n:Nat) (o:Ob),st[n]?=AA o->o ≠ .dead->∃a,φ[n]?=AA (AA a)
 nb:∀a,AA a∈φ->¬B a
 dom:∀a,B a->∃o,H a=AA o
structure yL(ρ:IC.Env)(σ:St):Prop where
 len:ρ.length=σ.length
 get:∀(i:Nat) (v:PV),ρ[i]?=AA (AA v)->∃x,σ[i]?=AA (AA x)/\yd K cl B φ H v x
end
structure Step(φ:Ph)(H:Hp)(φ':Ph)(H':Hp):Prop where
 keep:∀b o,AA b∉φ->H b=AA o->H' b=AA o
 len:φ.length<=φ'.length
 pre:∀(n:Nat) (a:AI),n<φ.length->φ'[n]?=AA (AA a)->φ[n]?=AA (AA a)
 new:∀b,AA b∈φ'->AA b∈φ \/ H b=AD
theorem Step.rfl{φ:Ph}{H:Hp}:Step φ H φ H:=⟨λ_ _ _ e=>e,AU _,λ_ _ _ e=>e,λ_ h=>.inl h⟩
theorem Step.trans{φ φ1 φ2:Ph}{H H1 H2:Hp}(s:Step φ H φ1 H1)(t:Step φ1 H1 φ2 H2):Step φ H φ2 H2:=by
 refine⟨λb o n e=>?_,BO s.len t.len,λn a hn e=>s.pre n a hn (t.pre n a (A4 hn s.len) e),λb hb=>?_⟩
 .refine t.keep b o (λh=>?_) (s.keep b o n e);rcases s.new b h with q|q
  .exact n q
  .rw[e]at q;cases q
 .rcases t.new b hb with q|q
  .exact s.new b q
  .by_cases h:AA b∈φ
   .exact .inl h
   .refine .inr ?_
    cases e:H b with
    |none=>exact DI _
    |some o=>rw[s.keep b o h e]at q;cases q
section
variable {K:AE}{cl:Nat->AI}{B:AI->Prop}{φ φ':Ph}{H H':Hp}{st:SO}{ρ:IC.Env}{σ:St}
theorem Rd.step(s:Step φ H φ' H'){a:AI}{u:HO}(n:AA a∉φ)(r:Rd H a u):Rd H' a u/\AA a∉φ':=by
 have h:∃o,H a=AA o:=by
  rcases r with r|⟨o,r⟩<;>exact⟨_,r⟩
 refine⟨?_,λz=>?_⟩
 .rcases r with r|⟨o,r⟩
  .exact .inl (s.keep _ _ n r)
  .exact .inr ⟨o,s.keep _ _ n r⟩
 .let⟨o,e⟩:=h;rcases s.new a z with q|q
  .exact n q
  .rw[e]at q;cases q
theorem ybM.step(s:Step φ H φ' H'){k:Bool}{a:AI}{xs:List V}(r:ybM K B φ H k a xs):ybM K B φ' H' k a xs:=by
 rcases r with⟨r,b,n⟩|r
 .let⟨_,n'⟩:=(Rd.of r).step s n;exact .inl ⟨s.keep _ _ n r,b,n'⟩
 .exact .inr r
theorem ycD.step(s:Step φ H φ' H'){a:AI}{xs:List V}(r:ycD B φ H a xs):ycD B φ' H' a xs:=by
 let⟨r,b,n⟩:=r;let⟨_,n'⟩:=(Rd.of r).step s n;exact⟨s.keep _ _ n r,b,n'⟩
theorem ydO.step(s:Step φ H φ' H'){a:AI}{xs:List V}(r:ydO K B φ H a xs):ydO K B φ' H' a xs:=by
 rcases r with⟨r,b,n⟩|r
 .let⟨r',n'⟩:=r.step s n;exact .inl ⟨r',b,n'⟩
 .exact .inr r
mutual
theorem yd.step(s:Step φ H φ' H'):∀(v:PV) (x:V),yd K cl B φ H v x->yd K cl B φ' H' v x
 |.non,x,h=>by erw[yd]at h ⊢;exact h
 |.bl b,x,h=>by erw[yd]at h ⊢;exact h
 |.int i,x,h=>by erw[yd]at h ⊢;exact h
 |.str y,x,h=>by erw[yd]at h ⊢;exact h
 |.tp k vs,x,h=>by
  erw[yd]at h ⊢;let⟨a,xs,e,r,l⟩:=h;exact⟨a,xs,e,r.step s,ye.step s vs xs l⟩
 |.lst vs,x,h=>by
  erw[yd]at h ⊢;let⟨a,xs,e,r,l⟩:=h;exact⟨a,xs,e,r.step s,ye.step s vs xs l⟩
 |.loc n,x,h=>by
  erw[yd]at h ⊢;let⟨h1,a,e,h2⟩:=h;exact⟨A4 h1 s.len,a,e,λb q=>h2 b (s.pre n b h1 q)⟩
 |.exn c,x,h=>by
  erw[yd]at h ⊢;let⟨a,e,r,b,n⟩:=h;let⟨_,n'⟩:=(Rd.of r).step s n;exact⟨a,e,s.keep _ _ n r,b,n'⟩
 |.scr vs,x,h=>by
  erw[yd]at h ⊢;let⟨a,xs,e,r,l⟩:=h;exact⟨a,xs,e,r.step s,ye.step s vs xs l⟩
theorem ye.step(s:Step φ H φ' H'):∀(v:List PV) (x:List V),ye K cl B φ H v x->ye K cl B φ' H' v x
 |[],x,h=>by erw[ye]at h ⊢;exact h
 |v::vs,x,h=>by
  erw[ye]at h ⊢;let⟨y,ys,e,r,l⟩:=h;exact⟨y,ys,e,yd.step s v y r,ye.step s vs ys l⟩
end
theorem yL.step(s:Step φ H φ' H')(r:yL K cl B φ H ρ σ):yL K cl B φ' H' ρ σ:=⟨r.len,λi v e=>by
 let⟨x,h,q⟩:=r.get i v e;exact⟨x,h,q.step s⟩⟩
mutual
theorem yd.inn(hn:∀a,AA a∈φ->¬B a):∀(v:PV) (x:V),nL v=AB->yd K cl B φ H v x->yd K cl (λa=>B a \/ AA a∈φ) [] H v x
 |.non,x,_,h=>by erw[yd]at h ⊢;exact h
 |.bl b,x,_,h=>by erw[yd]at h ⊢;exact h
 |.int i,x,_,h=>by erw[yd]at h ⊢;exact h
 |.str y,x,_,h=>by erw[yd]at h ⊢;exact h
 |.tp k vs,x,q,h=>by
  erw[yd]at h ⊢;let⟨a,xs,e,r,l⟩:=h;refine⟨a,xs,e,?_,ye.inn hn vs xs (by simpa only[nL] using q) l⟩;rcases r with⟨r,b,n⟩|r
  .exact .inl ⟨r,λz=>z.elim b n,by simp⟩
  .exact .inr r
 |.lst vs,x,q,h=>by
  erw[yd]at h ⊢;let⟨a,xs,e,⟨r,b,n⟩,l⟩:=h;exact⟨a,xs,e,⟨r,λz=>z.elim b n,by simp⟩,ye.inn hn vs xs (by simpa only[nL] using q) l⟩
 |.loc n,x,q,h=>by simp[nL]at q
 |.exn c,x,q,h=>by simp[nL]at q
 |.scr vs,x,q,h=>by
  erw[yd]at h ⊢;let⟨a,xs,e,r,l⟩:=h;refine⟨a,xs,e,?_,ye.inn hn vs xs (by simpa only[nL] using q) l⟩;rcases r with⟨r,b,n⟩|r
  .exact .inl ⟨r,λz=>z.elim b n,by simp⟩
  .exact .inr r
theorem ye.inn(hn:∀a,AA a∈φ->¬B a):∀(v:List PV) (x:List V),nLs v=AB->ye K cl B φ H v x->ye K cl (λa=>B a \/ AA a∈φ) [] H v x
 |[],x,_,h=>by erw[ye]at h ⊢;exact h
 |v::vs,x,q,h=>by
  erw[ye]at h ⊢;erw[nLs,AK]at q;let⟨y,ys,e,r,l⟩:=h;exact⟨y,ys,e,yd.inn hn v y q.1 r,ye.inn hn vs ys q.2 l⟩
end
mutual
theorem yd.out{ψ:Ph}:∀(v:PV) (x:V),nL v=AB->yd K cl (λa=>B a \/ AA a∈φ) ψ H v x->yd K cl B φ H v x
 |.non,x,_,h=>by erw[yd]at h ⊢;exact h
 |.bl b,x,_,h=>by erw[yd]at h ⊢;exact h
 |.int i,x,_,h=>by erw[yd]at h ⊢;exact h
 |.str y,x,_,h=>by erw[yd]at h ⊢;exact h
 |.tp k vs,x,q,h=>by
  erw[yd]at h ⊢;let⟨a,xs,e,r,l⟩:=h;refine⟨a,xs,e,?_,ye.out vs xs (by simpa only[nL] using q) l⟩;rcases r with⟨r,b,n⟩|r
  .exact .inl ⟨r,λz=>b (.inl z),λz=>b (.inr z)⟩
  .exact .inr r
 |.lst vs,x,q,h=>by
  erw[yd]at h ⊢;let⟨a,xs,e,⟨r,b,n⟩,l⟩:=h;exact⟨a,xs,e,⟨r,λz=>b (.inl z),λz=>b (.inr z)⟩,ye.out vs xs (by simpa only[nL] using q) l⟩
 |.loc n,x,q,h=>by simp[nL]at q
 |.exn c,x,q,h=>by simp[nL]at q
 |.scr vs,x,q,h=>by
  erw[yd]at h ⊢;let⟨a,xs,e,r,l⟩:=h;refine⟨a,xs,e,?_,ye.out vs xs (by simpa only[nL] using q) l⟩;rcases r with⟨r,b,n⟩|r
  .exact .inl ⟨r,λz=>b (.inl z),λz=>b (.inr z)⟩
  .exact .inr r
theorem ye.out{ψ:Ph}:∀(v:List PV) (x:List V),nLs v=AB->ye K cl (λa=>B a \/ AA a∈φ) ψ H v x->ye K cl B φ H v x
 |[],x,_,h=>by erw[ye]at h ⊢;exact h
 |v::vs,x,q,h=>by
  erw[ye]at h ⊢;erw[nLs,AK]at q;let⟨y,ys,e,r,l⟩:=h;exact⟨y,ys,e,yd.out v y q.1 r,ye.out vs ys q.2 l⟩
end
theorem ye.length:∀{v:List PV} {x:List V},ye K cl B φ H v x->v.length=x.length
 |[],x,h=>by erw[ye]at h;subst h;rfl
 |v::vs,x,h=>by
  erw[ye]at h;let⟨y,ys,rfl,_,l⟩:=h;simp[ye.length l]
theorem DK.step(s:Step φ H φ' H'):∀{kvs:List (PV×PV)} {ks:List (Key×V)},DK K cl B φ H kvs ks->DK K cl B φ' H' kvs ks
 |[],ks,h=>h
 |(k,v)::r,ks,h=>by
  let⟨q,x,t,e,m,rv,l⟩:=h;exact⟨q,x,t,e,m,rv.step s,DK.step s l⟩
theorem DT.step(s:Step φ H φ' H'):∀{kvs:List (PV×PV)} {ks:List (List Key×V)},DT K cl B φ H kvs ks->DT K cl B φ' H' kvs ks
 |[],ks,h=>h
 |(k,v)::r,ks,h=>by
  let⟨q,x,t,e,m,rv,l⟩:=h;exact⟨q,x,t,e,m,rv.step s,DT.step s l⟩
theorem FS.step(s:Step φ H φ' H'):∀{kvs:List (AQ×PV)} {ks:List (AQ×V)},FS K cl B φ H kvs ks->FS K cl B φ' H' kvs ks
 |[],ks,h=>h
 |(k,v)::r,ks,h=>by
  let⟨x,t,e,rv,l⟩:=h;exact⟨x,t,e,rv.step s,FS.step s l⟩
theorem ych.step(s:Step φ H φ' H'){o:Ob}{a:AI}(e:H' a=H a)(r:ych K cl B φ H o a):ych K cl B φ' H' o a:=by
 cases o with
 |lst vs=>
  let⟨xs,q,l⟩:=r;exact⟨xs,e.trans q,l.step s⟩
 |dct t kvs=>
  cases t with
  |false=>let⟨ks,q,l⟩:=r;exact⟨ks,e.trans q,l.step s⟩
  |true=>let⟨ks,q,l⟩:=r;exact⟨ks,e.trans q,l.step s⟩
 |dead=>exact r
 |ins c fs=>let⟨ks,⟨dx,q⟩,l⟩:=r;exact⟨ks,⟨dx,e.trans q⟩,l.step s⟩
theorem ych.there{o:Ob}{a:AI}(r:ych K cl B φ H o a):∃u,H a=AA u:=by
 cases o with
 |lst vs=>let⟨xs,q,l⟩:=r;exact⟨_,q⟩
 |dct t kvs=>cases t<;>(let⟨ks,q,l⟩:=r;exact⟨_,q⟩)
 |dead=>exact r.elim
 |ins c fs=>let⟨ks,⟨dx,q⟩,l⟩:=r;exact⟨_,q⟩
theorem yx.there(S:yx K cl B φ H st){a:AI}(h:AA a∈φ):∃u,H a=AA u:=by
 let⟨n,e⟩:=DP.mp h;let⟨o,_,r⟩:=S.obj n a e;exact r.there
theorem Step.upd{p:AI}{o:HO}(hp:H p=AD):Step φ H φ (upd H p o):=
 ⟨λb u n e=>by rw[zh (zm e hp)];exact e,AU _,λ_ _ _ e=>e,λ_ h=>.inl h⟩
theorem yx.same(S:yx K cl B φ H st)(k:∀b o,H b=AA o->H' b=AA o):yx K cl B φ H' st:=by
 have s:Step φ H φ H':=⟨λb o _ e=>k b o e,AU _,λ_ _ _ e=>e,λ_ h=>.inl h⟩;refine⟨S.len,S.inj,λn a e=>?_,S.liv,S.nb,λa h=>?_⟩
 .let⟨o,q,r⟩:=S.obj n a e;let⟨u,z⟩:=r.there;exact⟨o,q,r.step s ((k a u z).trans z.symm)⟩
 .let⟨o,q⟩:=S.dom a h;exact⟨o,k a o q⟩
theorem yx.upd{p:AI}{o:HO}(S:yx K cl B φ H st)(hp:H p=AD):yx K cl B φ (upd H p o) st:=S.same λb u e=>by rw[zh (zm e hp)];exact e
mutual
theorem yd.moreB{B':AI->Prop}(hn:∀y,B' y->B y \/ H y=AD):∀(v:PV) (x:V),yd K cl B φ H v x->yd K cl B' φ H v x
 |.non,x,h=>by erw[yd]at h ⊢;exact h
 |.bl b,x,h=>by erw[yd]at h ⊢;exact h
 |.int i,x,h=>by erw[yd]at h ⊢;exact h
 |.str y,x,h=>by erw[yd]at h ⊢;exact h
 |.tp k vs,x,h=>by
  erw[yd]at h ⊢;let⟨y,xs,e,r,l⟩:=h;refine⟨y,xs,e,?_,ye.moreB hn vs xs l⟩;rcases r with⟨r,b,n⟩|r
  .exact .inl ⟨r,λz=>(hn y z).elim b λq=>(by rw[q]at r;cases r),n⟩
  .exact .inr r
 |.lst vs,x,h=>by
  erw[yd]at h ⊢;let⟨y,xs,e,⟨r,b,n⟩,l⟩:=h;exact⟨y,xs,e,⟨r,λz=>(hn y z).elim b λq=>(by rw[q]at r;cases r),n⟩,ye.moreB hn vs xs l⟩
 |.loc n,x,h=>by erw[yd]at h ⊢;exact h
 |.exn c,x,h=>by
  erw[yd]at h ⊢;let⟨y,e,r,b,n⟩:=h;exact⟨y,e,r,λz=>(hn y z).elim b λq=>(by rw[q]at r;cases r),n⟩
 |.scr vs,x,h=>by
  erw[yd]at h ⊢;let⟨y,xs,e,r,l⟩:=h;refine⟨y,xs,e,?_,ye.moreB hn vs xs l⟩;rcases r with⟨r,b,n⟩|r
  .refine .inl ⟨r,λz=>(hn y z).elim b λq=>?_,n⟩;rcases r with r|⟨o,r⟩<;>(rw[q]at r;cases r)
  .exact .inr r
theorem ye.moreB{B':AI->Prop}(hn:∀y,B' y->B y \/ H y=AD):∀(v:List PV) (x:List V),ye K cl B φ H v x->ye K cl B' φ H v x
 |[],x,h=>by erw[ye]at h ⊢;exact h
 |v::vs,x,h=>by
  erw[ye]at h ⊢;let⟨y,ys,e,r,l⟩:=h;exact⟨y,ys,e,yd.moreB hn v y r,ye.moreB hn vs ys l⟩
end
end
end L2
namespace L2
open PySem PySem.Spec PyProof.Rows
def CXH(X:Cx)(H:Hp)(s:AJ)(E:XK)(e:AG)(s':AJ):Prop:=
 ∃(C a:AI) (cls a0 fl:AG) (H':Hp) (B:BB),X.s₀.heap.objs.size<=C/\e=.ref a/\s'.os=s.os/\DV s'.gens /\
  (B.StaysIn s'.heap/\B.get? a=AD/\s'.heap.FunFrames B X.stack/\s'.heap.TracedAtW B a cls a0 fl)/\HOk X.prog X.w H' s'.heap/\Un (frs X.stack) [C] H H' s.heap s'.heap /\
  (∀b o,s.heap.get? b=AA o->H b=AD->b∉frs X.stack->b≠C->B.get? b=AA o)/\(∀b u,H' b=AA u->∃o,B.get? b=AA o)/\(∀b o,s.heap.get? b=AA o->b∉frs X.stack->b≠C->∃o',B.get? b=AA o')/\E cls AD H'
theorem CXH.mono{X:Cx}{H:Hp}{s:AJ}{E E':XK}{e:AG}{s':AJ}(h:CXH X H s E e s')(n:∀cls H',E cls AD H'->E' cls AD H'):CXH X H s E' e s':=by
 let⟨C,a,cls,a0,fl,H',B,r1,r2,r3,r4,r5,r6,r7,r8,r9,r10,r11⟩:=h;exact⟨C,a,cls,a0,fl,H',B,r1,r2,r3,r4,r5,r6,r7,r8,r9,r10,n _ _ r11⟩
section
variable {M:Model}{A:Ao}{E:AG->AJ->Prop}{s:AJ}
theorem zfl{base:BB}{env:Env}{outer:List Env}{L e:AI}{cls a0 fl:AG}{Q:Unit->AJ->Prop}
  (hfr:A.frames=AA (env::outer)) (hf:env.frame=AA L) (f1:base.StaysIn s.heap) (f2:base.get? e=AD) (f3:s.heap.FunFrames base (env::outer)) (f4:s.heap.TracedAtW base e cls a0 fl)
  (hQ:∀h',HB base outer e cls a0 h'->s.heap.UpToSlots h'->Q () {s with heap:=h'}):A1 M A («leaving» env (.ref e)) Q E s:=by
 by_cases hfl:fl=rawInt L
 .subst hfl;unfold «leaving»;refine AH (wpAny_noteFrame_againW hf f4 ?_);refine wpAny_landsW ⟨f1,f2,f3,f4⟩ λh' hfl up=>?_;let⟨k1,k2,⟨_,_,k3⟩,k4⟩:=hfl;exact hQ h' ⟨k1,k2,k3,k4⟩ up
 .let⟨oe,vs,T,oT,ts,he,⟨hcls,h0⟩,hd,h1,hnT,hTe,hT,hdT,h3⟩:=f4;subst hcls;unfold «leaving» noteFrame;erw[hf];refine AH (AH (BT he hd h1 ?_));rw[if_pos (show (Ah T != Bz)=AB from by simp)];refine AH (BT hT hdT h3 ?_);rw[if_neg (show ¬((fl==rawInt L)=AB)from λz=>hfl (eq_of_beq z))];refine AH (FH hT hdT (Dy.mp h3).1 ?_);have other:∀b,b≠T->(s.heap.update T (Obj.mapFields (·.setIfInBounds 3 Bz))).get? b=s.heap.get? b:=λb hb=>DF _ _ (BL hb);have noRecord:∀b o,s.heap.get? b=AA o->(∀vs,o.data ≠ .fields vs)->b≠T:=λb o hb hnf q=>by
   rw[q,hT]at hb;injection hb with hb;subst hb;exact hnf ts hdT
  refine wpAny_newEntryW hfr (f3.of_keeps λb o hb hnf=>⟨o,(other b (noRecord b o hb hnf)).trans hb,rfl⟩) hf ((other e (BL hTe)).trans he)
   (λb o hbo=>(other b λq=>by rw[q,hnT]at hbo;cases hbo).trans (f1 b o hbo)) f2 hd (Dy.mp h1).1 h0
   λh' ⟨x1,⟨_,_,x2⟩,x3,x4⟩=>hQ h' ⟨x1,f2,x2,x3⟩ λb o hb hnf=>x4 b o ((other b (noRecord b o hb hnf)).trans hb) hnf
end
section
variable {P:A8}{w:Aj}{K:AE}{mg:AQ->Option AG}{base:BB}{N:List AQ}{qual:AQ}{scope:Bi}{f:AI}{cd:AG}{A:Ao}{outer:List Env}{s₀:AJ}{H₀:Hp}{E:XK}
theorem yep{pins:List (AI×Bu)}{σ:St}{H:Hp}{s:AJ}{e:AG}{s':AJ}(I:Inv (yaX (CX1 P w) P w K mg base N qual scope f cd A outer s₀ H₀ E) pins σ H s)(h:CXH (yaX (CX1 P w) P w K mg base N qual scope f cd A outer s₀ H₀ E) H s E e s'):
  (yaX (CX1 P w) P w K mg base N qual scope f cd A outer s₀ H₀ E).xe e s':=by
 let⟨C,a,cls,a0,fl,H',B,hC,rfl,os,bare,⟨f1,f2,f3,f4⟩,hok,un,hB,tr,hT,hE⟩:=h;have bse:Un (frs outer) [] H₀ H s₀.heap s.heap:=I.base;have lt:∀b o,s₀.heap.get? b=AA o->b≠s₀.heap.objs.size:=λb o q=>Ak (AW q);have neC:∀b o,s₀.heap.get? b=AA o->b≠C:=λb o q=>Ak (A4 (AW q) hC);have niC:∀b o,s₀.heap.get? b=AA o->b∉[C]:=λb o q z=>neC b o q (by simpa using z);have hst:∀b,b∈frs (envOfC qual scope s₀.heap.objs.size f cd::outer)->b=s₀.heap.objs.size \/ b∈frs outer:=λb hb=>by
  have hb':b∈s₀.heap.objs.size::frs outer:=hb;exact A3.mp hb'
 have un':Un (frs (envOfC qual scope s₀.heap.objs.size f cd::outer)) [C] H H' s.heap s'.heap:=un;have kB:∀b o,s₀.heap.get? b=AA o->H₀ b=AD->b∉frs outer->B.get? b=AA o:=λb o q n hb=>hB b o (bse.keep b o q n hb (by simp)) (bse.free b o q n (by simp)) (λz=>by
  rcases hst b z with z|z
  .exact lt b o q z
  .exact hb z) (neC b o q)
 have kT:∀b o,s₀.heap.get? b=AA o->b∉frs outer->∃o',B.get? b=AA o':=λb o q hb=>by
  let⟨o',q1⟩:=bse.there b o q (by simp);refine hT b o' q1 (λz=>?_) (neC b o q);rcases hst b z with z|z
  .exact lt b o q z
  .exact hb z
 refine zfl I.ok.frames rfl f1 f2 f3 f4 λh'' fl' up=>?_;refine⟨a,cls,a0,H',B,rfl,os.trans I.os,bare,fl',HOk.inB hok f1 fl'.1 tr,⟨λb o q n hb _=>fl'.1 b o (kB b o q n hb),λb o q n hb _=>?_,λb o q n _=>?_,λb o q _=>?_,λb xs q=>un'.tups b xs (bse.tups b xs q),λb o u q=>un'.frzs b o u (bse.frzs b o u q),λb ps q=>?_⟩,kB,tr,kT,hE⟩
 .let⟨sl,q1⟩:=bse.slot b o q n hb (by simp);have n1:=bse.free b o q n (by simp);let⟨sl1,q2⟩:=un'.slot b _ q1 n1 (AX _ hb) (niC b o q);let⟨_,o',ho',hd⟩:=CC f3 (show b∈DH (λ(z:Env)=>z.frame) _ from AX _ hb);let⟨sl',q3⟩:=up b _ q2 (by rw[ho']at q2;cases q2;exact hd);exact⟨sl',q3⟩
 .let⟨o',q1⟩:=bse.there b o q (by simp);exact un'.free b o' q1 (bse.free b o q n (by simp)) (niC b o q)
 .let⟨o',q1⟩:=bse.there b o q (by simp);let⟨o2,q2⟩:=un'.there b o' q1 (niC b o q)
  by_cases hb:b∈frs outer
  .let⟨_,o3,ho3,hd⟩:=CC f3 (show b∈DH (λ(z:Env)=>z.frame) _ from AX _ hb);let⟨sl',q3⟩:=up b _ ho3 hd;exact⟨_,q3⟩
  .let⟨o4,q4⟩:=kT b o q hb;exact⟨o4,fl'.1 b o4 q4⟩
 .let⟨m1,e1⟩:=bse.tbls b ps q;let⟨m2,e2⟩:=un'.tbls b _ e1;exact⟨m1++m2,by rw[e2,Dp]⟩
end
section
variable {pg:A8}{wd:Aj}{A:Ao}{R:Gd->AJ->Prop}{s:AJ}
end
section
variable {X:Cx}{sc:Bi}{NC:List AQ}{slots:List (Option Nat)}{elt tg iter:AT}{ifs:List AT}{pos:CJ}{g:TG}{ti:TT}{te:CI->TE}{E:XK}
end
end L2
namespace L2
open PySem PySem.Spec PyProof.Rows IC
structure Se where
 cl:Nat->AI
 call:Nat->List PV->SO->R PV
 may:Bool
section
variable (S:Se)(X:Cx)
def ExcAt(σ:St)(B:AI->Prop)(φ:Ph)(H:Hp)(k:Nat)(st':SO)(e:AG)(s':AJ):Prop:=
 (∃pins H1 s φ1,Inv X pins σ H1 s/\Step φ H φ1 H1/\CX1 X.prog X.w X.stack H1 s (λcls _ H'=>cls=.ref (S.cl k)/\∃φ',Step φ1 H1 φ' H'/\yx X.K S.cl B φ' H' st') e s') \/
 (S.may=AB/\∃pins H1 s φ1 h' e0 vs,Inv X pins σ H1 s/\Step φ H φ1 H1/\yx X.K S.cl B φ1 H1 st'/\Gi s.heap h' e0 (.ref (S.cl k)) vs/\e=.ref e0/\s'={s with heap:=h'}) \/
 (S.may=AB/\∃pins H1 s,Inv X pins σ H1 s/\CXH X H1 s (λcls _ H'=>cls=.ref (S.cl k)/\∃φ',Step φ H φ' H'/\yx X.K S.cl B φ' H' st') e s')
def Run{α β:Type}(σ:St)(B:AI->Prop)(φ:Ph)(H:Hp)(Rel:Ph->Hp->α->β->Prop)(r:R α)(Q:β->Hp->Prop):Prop:=
 match r with
 |.ok v st'=>∀x H' φ',Step φ H φ' H'->yx X.K S.cl B φ' H' st'->Rel φ' H' v x->Q x H'
 |.exc k st'=>∀e s',ExcAt S X σ B φ H k st' e s'->X.xe e s'
 |.bad=>False
abbrev RV(B:AI->Prop):Ph->Hp->PV->V->Prop:=λφ H=>yd X.K S.cl B φ H
abbrev RL(B:AI->Prop):Ph->Hp->List PV->List V->Prop:=λφ H=>ye X.K S.cl B φ H
noncomputable abbrev RB:Ph->Hp->Bool->Bool->Prop:=λ_ _ b c=>b=c
def tE(c:Ce):TE:=λσ H Q=>∃B φ st ρ,yx X.K S.cl B φ H st/\yL X.K S.cl B φ H ρ σ/\Run S X σ B φ H (RV S X B) (ev S.call ρ st c) Q
def tAs(c:Ces):TA:=λσ H Q=>∃B φ st ρ,yx X.K S.cl B φ H st/\yL X.K S.cl B φ H ρ σ/\Run S X σ B φ H (RL S X B) (evs S.call ρ st c) Q
def ya6(r:R PV):R Bool:=r.bind λx st=>onO (yaM st x) λb=>.ok b st
def tTs(c:Ce):TT:=λσ H Q=>∃B φ st ρ,yx X.K S.cl B φ H st/\yL X.K S.cl B φ H ρ σ/\Run S X σ B φ H RB (ya6 (ev S.call ρ st c)) Q
end
section
variable {S:Se}{X:Cx}{σ:St}{B:AI->Prop}{φ φ1:Ph}{H H1:Hp}
theorem ExcAt.back{k:Nat}{st':SO}{e:AG}{s':AJ}(s:Step φ H φ1 H1)(h:ExcAt S X σ B φ1 H1 k st' e s'):ExcAt S X σ B φ H k st' e s':=by
 rcases h with⟨pins,H2,t,φ2,I,q,c⟩|⟨m,pins,H2,t,φ2,h',e0,vs,I,q,c⟩|⟨m,pins,H2,t,I,c⟩
 .exact .inl ⟨pins,H2,t,φ2,I,s.trans q,c⟩
 .exact .inr (.inl ⟨m,pins,H2,t,φ2,h',e0,vs,I,s.trans q,c⟩)
 .exact .inr (.inr ⟨m,pins,H2,t,I,c.mono λcls H' ⟨e1,φ',s2,r⟩=>⟨e1,φ',s.trans s2,r⟩⟩)
variable {α β γ δ:Type}{Rel:Ph->Hp->α->β->Prop}{HC:Ph->Hp->γ->δ->Prop}
theorem Run.on{r:R α}{Q:β->Hp->Prop}(s:Step φ H φ1 H1)(h:Run S X σ B φ H Rel r Q):Run S X σ B φ1 H1 Rel r Q:=by
 cases r with
 |ok v st'=>exact λx H' φ' t=>h x H' φ' (s.trans t)
 |exc k st'=>exact λe s' x=>h e s' (x.back s)
 |bad=>exact h
theorem Run.mono{r:R α}{Q Q':β->Hp->Prop}(h:Run S X σ B φ H Rel r Q)(k:∀x H',Q x H'->Q' x H'):Run S X σ B φ H Rel r Q':=by
 cases r with
 |ok v st'=>exact λx H' φ' t rs rv=>k x H' (h x H' φ' t rs rv)
 |exc c st'=>exact h
 |bad=>exact h
theorem Run.bind{r:R α}{k:α->SO->R γ}{Q:δ->Hp->Prop}(h:Run S X σ B φ H HC (r.bind k) Q):
  Run S X σ B φ H Rel r λx H1=>∃v st1 φ1,Step φ H φ1 H1/\yx X.K S.cl B φ1 H1 st1/\Rel φ1 H1 v x/\Run S X σ B φ1 H1 HC (k v st1) Q:=by
 cases r with
 |ok v st'=>exact λx H' φ' t rs rv=>⟨v,st',φ',t,rs,rv,Run.on t h⟩
 |exc c st'=>exact h
 |bad=>exact h
theorem Run.ok{v:α}{st:SO}{Q:β->Hp->Prop}(h:Run S X σ B φ H Rel (.ok v st) Q)(rs:yx X.K S.cl B φ H st){x:β}(rv:Rel φ H v x):Q x H:=h x H φ .rfl rs rv
theorem PE.imp{e:AT}{t t':TE}(h:PE X e t')(k:∀σ H Q,t σ H Q->t' σ H Q):PE X e t:=λpins s σ H Q I q=>h pins s σ H Q I (k σ H Q q)
theorem PT.imp{e:AT}{t t':TT}(h:PT X e t')(k:∀σ H Q,t σ H Q->t' σ H Q):PT X e t:=λpins s σ H Q I q=>h pins s σ H Q I (k σ H Q q)
theorem PW.imp{e:AT}{t t':TT}(h:PW X e t')(k:∀σ H Q,t σ H Q->t' σ H Q):PW X e t:=λwh pins s σ H Q I q=>h wh pins s σ H Q I (k σ H Q q)
theorem PA.imp{e:List AT}{t t':TA}(h:PA X e t')(k:∀σ H Q,t σ H Q->t' σ H Q):PA X e t:=λpos pins s σ H Q I q=>h pos pins s σ H Q I (k σ H Q q)
theorem tE.bind{c:Ce}{ρ:IC.Env}{st:SO}{k:PV->SO->R γ}{Q:δ->Hp->Prop}{P:V->Hp->Prop}(rs:yx X.K S.cl B φ H st)(re:yL X.K S.cl B φ H ρ σ)(h:Run S X σ B φ H HC ((ev S.call ρ st c).bind k) Q)
  (n:∀x H1 v st1 φ1,Step φ H φ1 H1->yx X.K S.cl B φ1 H1 st1->yL X.K S.cl B φ1 H1 ρ σ->yd X.K S.cl B φ1 H1 v x->Run S X σ B φ1 H1 HC (k v st1) Q->P x H1):tE S X c σ H P:=
 ⟨B,φ,st,ρ,rs,re,(Run.bind h).mono λx H1 ⟨v,st1,φ1,s,rs1,rv,h1⟩=>n x H1 v st1 φ1 s rs1 (re.step s) rv h1⟩
theorem tAs.bind{c:Ces}{ρ:IC.Env}{st:SO}{k:List PV->SO->R γ}{Q:δ->Hp->Prop}{P:List V->Hp->Prop}(rs:yx X.K S.cl B φ H st)(re:yL X.K S.cl B φ H ρ σ)(h:Run S X σ B φ H HC ((evs S.call ρ st c).bind k) Q)
  (n:∀x H1 v st1 φ1,Step φ H φ1 H1->yx X.K S.cl B φ1 H1 st1->yL X.K S.cl B φ1 H1 ρ σ->ye X.K S.cl B φ1 H1 v x->Run S X σ B φ1 H1 HC (k v st1) Q->P x H1):tAs S X c σ H P:=
 ⟨B,φ,st,ρ,rs,re,(Run.bind h).mono λx H1 ⟨v,st1,φ1,s,rs1,rv,h1⟩=>n x H1 v st1 φ1 s rs1 (re.step s) rv h1⟩
variable {i:Int}{b:Bool}{x:AQ}{j:Nat}{pos:CJ}{e a a':AT}{c ca cb cc:Ce}
theorem zkE:PE X (.Constant (.int i) j pos) (tE S X (.cst (.int i))):=ydq.imp λσ H Q ⟨B,φ,st,ρ,rs,re,h⟩=>by
 erw[ev]at h;exact h.ok rs (by erw[yd])
theorem zo7:PE X (.Constant (.bool b) j pos) (tE S X (.cst (.bl b))):=yeg.imp λσ H Q ⟨B,φ,st,ρ,rs,re,h⟩=>by
 erw[ev]at h;exact h.ok rs (by erw[yd])
theorem zon:PE X (.Constant .none j pos) (tE S X (.cst .non)):=yds.imp λσ H Q ⟨B,φ,st,ρ,rs,re,h⟩=>by
 erw[ev]at h;exact h.ok rs (by erw[yd])
theorem znl:PE X (.Constant (.str x) j pos) (tE S X (.cst (.str x))):=ydc.imp λσ H Q ⟨B,φ,st,ρ,rs,re,h⟩=>by
 erw[ev]at h;exact h.ok rs (by erw[yd])
theorem znX{i:Nat}(hN:X.N[i]?=AA x)(hv:Vis X.env.scope x)(hd:(x==("__debug__":AQ))=false:=by decide)(hcd:(x==("__classdict__":AQ))=false:=by decide):PE X (.Name x pos) (tE S X (.var i)):=
 (zkK hN hv hd hcd).imp λσ H Q ⟨B,φ,st,ρ,rs,re,h⟩=>by
  erw[ev]at h
  cases q:ρ[i]? with
  |none=>rw[q]at h;exact h.elim
  |some o=>
   cases o with
   |none=>rw[q]at h;exact h.elim
   |some v=>
    rw[q]at h;let⟨y,hy,rv⟩:=re.get i v q;exact⟨y,hy,h.ok rs rv⟩
theorem zmd{v:PV}{y:AI}(hg:Gl X x)(hm:X.mg x=AA (.ref y))(hk:∀B φ H,yd X.K S.cl B φ H v (.ref y))(hd:(x==("__debug__":AQ))=false:=by decide):PE X (.Name x pos) (tE S X (.cst v)):=
 (zcP hg hm (show RelV (.ref y) (.ref y)from rfl) hd).imp λσ H Q ⟨B,φ,st,ρ,rs,re,h⟩=>by
  erw[ev]at h;exact h.ok rs (hk B φ H)
theorem zac{o:Option PV}{st:SO}{Q:VK}(h:Run S X σ B φ H (RV S X B) (toR o st) Q)(rs:yx X.K S.cl B φ H st):∃z,o=AA z/\∀z' H' φ',Step φ H φ' H'->yx X.K S.cl B φ' H' st->yd X.K S.cl B φ' H' z z'->Q z' H':=by
 cases o with
 |none=>exact h.elim
 |some z=>exact⟨z,rfl,h⟩
def rT2(S:Se)(X:Cx)(f:PV->PV->Option PV):R2:=λx y H Q=>∃B φ st v w z,yx X.K S.cl B φ H st/\yd X.K S.cl B φ H v x/\yd X.K S.cl B φ H w y/\f v w=AA z /\
 ∀z' H' φ',Step φ H φ' H'->yx X.K S.cl B φ' H' st->yd X.K S.cl B φ' H' z z'->Q z' H'
theorem znu{op:D0}{o:BOp}(ho:OpR X (binaryOp op) (rT2 S X (yq o)))(ha:PE X a (tE S X ca))(hb:PE X a' (tE S X cb)):PE X (.BinOp a op a' pos) (tE S X (.bin o ca cb)):=
 (zpB ho ha hb).imp λσ H Q ⟨B,φ,st,ρ,rs,re,h⟩=>by
  erw[ev]at h;refine tE.bind rs re h λx H1 v st1 φ1 s1 rs1 re1 rv h1=>tE.bind rs1 re1 h1 λy H2 w st2 φ2 s2 rs2 re2 rw h2=>?_;let⟨z,e,q⟩:=zac h2 rs2;exact⟨B,φ2,st2,v,w,z,rs2,rv.step s2,rw,e,q⟩
theorem zm7{op:FZ}{o:COp}(ho:OpR X (compareOp op) (rT2 S X (yD o)))(ha:PE X a (tE S X ca))(hb:PE X a' (tE S X cb))(hm:behindInMarks op a'=AC):PE X (.Compare a [op] [a'] pos) (tE S X (.cmp o ca cb)):=
 (zg1 ho ha hb hm).imp λσ H Q ⟨B,φ,st,ρ,rs,re,h⟩=>by
  erw[ev]at h;refine tE.bind rs re h λx H1 v st1 φ1 s1 rs1 re1 rv h1=>tE.bind rs1 re1 h1 λy H2 w st2 φ2 s2 rs2 re2 rw h2=>?_;let⟨z,e,q⟩:=zac h2 rs2;exact⟨B,φ2,st2,v,w,z,rs2,rv.step s2,rw,e,q⟩
end
section
variable {S:Se}{X:Cx}{σ:St}{B:AI->Prop}{φ φ1:Ph}{H H1:Hp}{K:AE}{cl:Nat->AI}{st:SO}
theorem ybM.sq{k:Bool}{a:AI}{xs:List V}(r:ybM K B φ H k a xs):SqT K H a xs:=by
 rcases r with⟨r,_⟩|r
 .exact .inl (.inl r)
 .exact .inr r.2
theorem ycD.sq{a:AI}{xs:List V}(r:ycD B φ H a xs):SqL K H a xs:=.inl (.inl r.1)
theorem yd.tup_new{vs:List PV}{xs:List V}{p:AI}(hp:H p=AD)(rs:yx K cl B φ H st)(r:ye K cl B φ H vs xs):yd K cl B φ (upd H p (.tup xs)) (.tup vs) (.ref p):=by
 erw[yd];refine⟨p,xs,rfl,.inl ⟨zr,λz=>?_,λz=>?_⟩,r.step (.upd hp)⟩
 .let⟨o,e⟩:=rs.dom p z;rw[hp]at e;cases e
 .let⟨o,e⟩:=rs.there z;rw[hp]at e;cases e
theorem yd.lst_new{vs:List PV}{xs:List V}{p:AI}(hp:H p=AD)(rs:yx K cl B φ H st)(r:ye K cl B φ H vs xs):yd K cl B φ (upd H p (.lst xs)) (.lst vs) (.ref p):=by
 erw[yd];refine⟨p,xs,rfl,⟨zr,λz=>?_,λz=>?_⟩,r.step (.upd hp)⟩
 .let⟨o,e⟩:=rs.dom p z;rw[hp]at e;cases e
 .let⟨o,e⟩:=rs.there z;rw[hp]at e;cases e
theorem ye.append:∀{vs ws:List PV} {xs ys:List V},ye K cl B φ H vs xs->ye K cl B φ H ws ys->ye K cl B φ H (vs++ws) (xs++ys)
 |[],ws,xs,ys,h,q=>by erw[ye]at h;subst h;exact q
 |v::vs,ws,xs,ys,h,q=>by
  erw[ye]at h;let⟨y,zs,rfl,r,l⟩:=h;show ye K cl B φ H (v::(vs++ws)) (y::(zs++ys));erw[ye];exact⟨y,zs++ys,rfl,r,ye.append l q⟩
theorem ye.get:∀{vs:List PV} {xs:List V} (j:Nat) {v:PV},ye K cl B φ H vs xs->vs[j]?=AA v->∃x,xs[j]?=AA x/\yd K cl B φ H v x
 |[],xs,j,v,h,e=>by simp at e
 |w::vs,xs,0,v,h,e=>by
  erw[ye]at h;let⟨y,zs,rfl,r,l⟩:=h;simp at e;subst e;exact⟨y,rfl,r⟩
 |w::vs,xs,j+1,v,h,e=>by
  erw[ye]at h;let⟨y,zs,rfl,r,l⟩:=h;let⟨x,q1,q2⟩:=ye.get j l (by simpa using e);exact⟨x,by simpa using q1,q2⟩
theorem ye.drop:∀{vs:List PV} {xs:List V} (n:Nat),ye K cl B φ H vs xs->ye K cl B φ H (vs.drop n) (xs.drop n)
 |vs,xs,0,h=>by simpa using h
 |[],xs,n+1,h=>by erw[ye]at h;subst h;simp[ye]
 |v::vs,xs,n+1,h=>by
  erw[ye]at h;let⟨y,ys,rfl,_,l⟩:=h;simpa using ye.drop n l
theorem ye.take:∀{vs:List PV} {xs:List V} (n:Nat),ye K cl B φ H vs xs->ye K cl B φ H (vs.take n) (xs.take n)
 |vs,xs,0,h=>by simp[ye]
 |[],xs,n+1,h=>by erw[ye]at h;subst h;simp[ye]
 |v::vs,xs,n+1,h=>by
  erw[ye]at h;let⟨y,ys,rfl,r,l⟩:=h;erw[List.take_succ_cons,ye];exact⟨y,ys.take n,rfl,r,ye.take n l⟩
theorem zcj{f:AG->AG->Gp AG}{o:BOp}{C:Int->Int->Prop}{g:Int->Int->Int}(h:OpR X f (rI C λi j=>.int (g i j)))
  (hb:∀v w z,yq o v w=AA z->∃i j,v=.int i/\w=.int j/\C i j/\z=.int (g i j)):OpR X f (rT2 S X (yq o)):=by
 rintro pins s σ H x y v u Q I rx ry ⟨B,φ,st,a,b,z,rs,ra,rb,e,q⟩
 let⟨i,j,rfl,rfl,hc,rfl⟩:=hb a b z e;erw[yd]at ra rb;subst ra rb;exact h pins s σ H _ _ v u Q I rx ry ⟨i,j,rfl,rfl,hc,q _ H φ .rfl rs (by erw[yd])⟩
theorem zcA{f:AG->AG->Gp AG}{o:BOp}{g:Int->Int->Int}(h:OpR X f (rI0 λi j=>.int (g i j)))
  (hb:∀v w z,yq o v w=AA z->∃i j,v=.int i/\w=.int j/\z=.int (g i j)):OpR X f (rT2 S X (yq o)):=by
 rintro pins s σ H x y v u Q I rx ry ⟨B,φ,st,a,b,z,rs,ra,rb,e,q⟩
 let⟨i,j,rfl,rfl,rfl⟩:=hb a b z e;erw[yd]at ra rb;subst ra rb;exact h pins s σ H _ _ v u Q I rx ry ⟨i,j,rfl,rfl,q _ H φ .rfl rs (by erw[yd])⟩
theorem zmn(v w z:PV)(h:yq .sub v w=AA z):∃i j,v=.int i/\w=.int j/\z=.int (i-j):=by
 unfold yq at h;split at h<;>first|(cases h;done)|skip
 exact⟨_,_,rfl,rfl,(AY h).symm⟩
theorem zln(v w z:PV)(h:yq .mul v w=AA z):∃i j,v=.int i/\w=.int j/\ydp i j/\z=.int (i*j):=by
 unfold yq at h;split at h<;>first|(cases h;done)|skip
 rename_i i j;erw[IC.binI]at h;split at h
 .rename_i c;refine⟨i,j,rfl,rfl,?_,(AY h).symm⟩;erw[yaB,Cy,decide_eq_true_eq]at c;unfold ydp;rcases c with c|c
  .left;constructor<;>lia
  .right;constructor<;>lia
 .cases h
theorem zkb(v w z:PV)(h:yq .fdiv v w=AA z):∃i j,v=.int i/\w=.int j/\ydA i j/\z=.int (i/j):=by
 unfold yq at h;split at h<;>first|(cases h;done)|skip
 rename_i i j;erw[IC.binI]at h;split at h
 .rename_i c;exact⟨i,j,rfl,rfl,c,(AY h).symm⟩
 .cases h
theorem zmA(v w z:PV)(h:yq .mod v w=AA z):∃i j,v=.int i/\w=.int j/\0<j/\z=.int (i%j):=by
 unfold yq at h;split at h<;>first|(cases h;done)|skip
 rename_i i j;erw[IC.binI]at h;split at h
 .rename_i c;exact⟨i,j,rfl,rfl,c,(AY h).symm⟩
 .cases h
theorem zkX(v w z:PV)(h:yq .pow v w=AA z):∃i j,v=.int i/\w=.int j/\ydW i j/\z=.int (i^j.toNat):=by
 unfold yq at h;split at h<;>first|(cases h;done)|skip
 rename_i i j;erw[IC.binI]at h;split at h
 .rename_i c;exact⟨i,j,rfl,rfl,⟨c.1,c.2.1,by have:=c.2.2;lia⟩,(AY h).symm⟩
 .cases h
theorem zlj(v w z:PV)(h:yq .shl v w=AA z):∃i j,v=.int i/\w=.int j/\ydW i j/\z=.int (i*2^j.toNat):=by
 unfold yq at h;split at h<;>first|(cases h;done)|skip
 rename_i i j;erw[IC.binI]at h;split at h
 .rename_i c;exact⟨i,j,rfl,rfl,⟨c.1,c.2.1,by have:=c.2.2;lia⟩,(AY h).symm⟩
 .cases h
theorem zl6(v w z:PV)(h:yq .shr v w=AA z):∃i j,v=.int i/\w=.int j/\0<=j/\z=.int (i/2^j.toNat):=by
 unfold yq at h;split at h<;>first|(cases h;done)|skip
 rename_i i j;erw[IC.binI]at h;split at h
 .rename_i c;exact⟨i,j,rfl,rfl,c,(AY h).symm⟩
 .cases h
theorem zjF(v w z:PV)(h:yq .band v w=AA z):∃i j,v=.int i/\w=.int j/\z=.int (Al i j):=by
 unfold yq at h;split at h<;>first|(cases h;done)|skip
 exact⟨_,_,rfl,rfl,(AY h).symm⟩
theorem zl1(v w z:PV)(h:yq .bor v w=AA z):∃i j,v=.int i/\w=.int j/\z=.int (B0 i j):=by
 unfold yq at h;split at h<;>first|(cases h;done)|skip
 exact⟨_,_,rfl,rfl,(AY h).symm⟩
theorem zjc(v w z:PV)(h:yq .bxor v w=AA z):∃i j,v=.int i/\w=.int j/\z=.int (Bl i j):=by
 unfold yq at h;split at h<;>first|(cases h;done)|skip
 exact⟨_,_,rfl,rfl,(AY h).symm⟩
theorem zmS:OpR X (binaryOp .Sub) (rT2 S X (yq .sub)):=zcA zmY zmn
theorem zmK:OpR X (binaryOp .Mult) (rT2 S X (yq .mul)):=zcj znd zln
theorem zmk:OpR X (binaryOp .FloorDiv) (rT2 S X (yq .fdiv)):=zcj zji zkb
theorem zmL:OpR X (binaryOp .Mod) (rT2 S X (yq .mod)):=zcj znE zmA
theorem zoK:OpR X (binaryOp .Pow) (rT2 S X (yq .pow)):=zcj zoo zkX
theorem zmC:OpR X (binaryOp .LShift) (rT2 S X (yq .shl)):=zcj zoP zlj
theorem znz:OpR X (binaryOp .RShift) (rT2 S X (yq .shr)):=zcj zok zl6
theorem zkQ:OpR X (binaryOp .BitAnd) (rT2 S X (yq .band)):=zcA znq zjF
theorem zoA:OpR X (binaryOp .BitOr) (rT2 S X (yq .bor)):=zcA zpc zl1
theorem zl0:OpR X (binaryOp .BitXor) (rT2 S X (yq .bxor)):=zcA zoy zjc
theorem zA:sizeMax=sizeLine:=by rw[D1];rfl
theorem zlO:OpR X (binaryOp .Add) (λx y H Q=>∃a b ys,x=.ref a/\y=.ref b/\SqT X.K H a []/\SqT X.K H b ys/\Q (.ref b) H):=by
 intro pins s σ H x y v u Q I rx ry h;let⟨a,b,ys,rfl,rfl,ha,hb,q⟩:=h
 cases rx
 cases ry
 let⟨its,r1,p1,_⟩:=I.tuple ha;let⟨its2,r2,p2,_⟩:=I.tuple hb;have:its=[]:=r1.nil_iff.mpr rfl;subst this;let⟨⟨cls,dd,data,sl⟩,ho,hc,n,hd⟩:=id p1;let⟨⟨cls2,dd2,data2,sl2⟩,ho2,hc2,n2,hd2⟩:=id p2;simp only at hc hd hc2 hd2;subst hc hd hc2 hd2;exact Fk ⟨_,ho,rfl⟩ ⟨_,ho2,rfl⟩ Ec F0 DE DB (Ct _ _)
   (tuple_addW0 a b [].toArray its2.toArray n n2 dd dd2 sl sl2 (by simp)) ⟨ho,ho2,⟨.ref b,H,I,rfl,q⟩⟩
theorem zog:OpR X (binaryOp .Add) (rT2 S X (yq .add)):=by
 rintro pins s σ H x y v u Q I rx ry ⟨B,φ,st,a,b,z,rs,ra,rb,e,q⟩
 unfold yq at e;split at e
 .rename_i i j;erw[yd]at ra rb;subst ra rb
  cases e
  exact zoq pins s σ H _ _ v u Q I rx ry ⟨i,j,rfl,rfl,q _ H φ .rfl rs (by erw[yd])⟩
 .rename_i i k;erw[yd]at ra rb;subst ra rb
  cases e
  exact zik pins s σ H _ _ v u Q I rx ry ⟨i,k,rfl,rfl,q _ H φ .rfl rs (by erw[yd];cases k<;>rfl)⟩
 .rename_i i j;erw[yd]at ra rb;subst ra rb;dsimp only at e;split at e
  .rename_i c
   cases e
   exact zgz pins s σ H _ _ v u Q I rx ry ⟨i,j,rfl,rfl,by rw[<-zA];exact c,q _ H φ .rfl rs (by erw[yd])⟩
  .cases e
 .rename_i k1 vs k2 ws;erw[yd]at ra rb;let⟨p,xs,rfl,r1,l1⟩:=ra;let⟨p',ys,rfl,r2,l2⟩:=rb;dsimp only at e;split at e
  .rename_i c
   cases e
   have n1:=l1.length;have n2:=l2.length;unfold yeB at q
   cases vs with
   |nil=>
    have:xs=[]:=by cases xs with|nil=>rfl|cons _ _=>simp at n1
    subst this;refine zlO pins s σ H _ _ v u Q I rx ry ⟨p,p',ys,rfl,rfl,r1.sq,r2.sq,q _ H φ .rfl rs ?_⟩;erw[GR,if_true,yd];exact⟨p',ys,rfl,r2,l2⟩
   |cons v1 vr=>
    erw[Fv,BA,if_false]at q;refine zme pins s σ H _ _ v u Q I rx ry ⟨p,p',xs,ys,rfl,rfl,r1.sq,r2.sq,?_,by rw[<-zA];lia,λz=>?_,λz t ht=>?_⟩
    .rintro rfl
     simp at n1
    .subst z;have:ws=[]:=by cases ws with|nil=>rfl|cons _ _=>simp at n2
     subst this;erw[GR,if_true]at q;refine q _ H φ .rfl rs ?_;erw[yd];exact⟨p,xs,rfl,r1,l1⟩
    .cases ws with
     |nil=>exact absurd (List.length_eq_zero_iff.mp n2.symm) z
     |cons w1 wr=>
      erw[Fv,BA,if_false]at q;exact q _ _ φ (.upd ht) (rs.upd ht) (.tup_new ht rs (l1.append l2))
  .cases e
 .rename_i vs ws;erw[yd]at ra rb;let⟨p,xs,rfl,r1,l1⟩:=ra;let⟨p',ys,rfl,r2,l2⟩:=rb;dsimp only at e;split at e
  .rename_i c
   cases e
   have n1:=l1.length;have n2:=l2.length;exact zmF pins s σ H _ _ v u Q I rx ry ⟨p,p',xs,ys,rfl,rfl,r1.1,r2.1,by rw[<-zA];lia,λt ht=>q _ _ φ (.upd ht) (rs.upd ht) (.lst_new ht rs (l1.append l2))⟩
  .cases e
 .cases e
end
mutual
noncomputable def toD:PV->PyData
 |.non=>.none
 |.bl b=>.bool b
 |.int i=>.int i
 |.str x=>.str x
 |.tp _ xs=>.tuple (ybF xs)
 |.lst xs=>.list (ybF xs)
 |_=>.none
noncomputable def ybF:List PV->List PyData
 |[]=>[]
 |x::xs=>toD x::ybF xs
end
mutual
theorem zhw:∀(v:PV) (n:Nat),shd n v=AB->(toD v).canLay0=AB/\(toD v).depth<=n
 |.non,n,h=>by simp[toD,Cd,DJ]
 |.bl b,n,h=>by simp[toD,Cd,DJ]
 |.int i,n,h=>by simp[toD,Cd,DJ]
 |.str x,n,h=>by
  erw[shd]at h;erw[toD,Cd,DJ,DA,and_true];exact h
 |.tp _ xs,n,h=>by
  erw[shd,AK,decide_eq_true_eq]at h;let⟨q1,q2⟩:=zea xs (n-1) h.2;erw[toD,Cd,DJ];exact⟨q1,by lia⟩
 |.lst xs,n,h=>by
  erw[shd,AK,decide_eq_true_eq]at h;let⟨q1,q2⟩:=zea xs (n-1) h.2;erw[toD,Cd,DJ];exact⟨q1,by lia⟩
 |.loc k,n,h=>by simp[shd]at h
 |.exn k,n,h=>by simp[shd]at h
 |.scr xs,n,h=>by simp[shd]at h
theorem zea:∀(v:List PV) (n:Nat),ybr n v=AB->EN (ybF v)=AB/\Ez (ybF v)<=n
 |[],n,h=>by simp[ybF,EN,Ez]
 |v::vs,n,h=>by
  erw[ybr,AK]at h;let⟨q1,q2⟩:=zhw v n h.1;let⟨q3,q4⟩:=zea vs n h.2;erw[ybF,EN,Ez,AK];exact⟨⟨q1,q3⟩,by lia⟩
end
theorem zbo{v:PV}(h:shp v=AB):HD (toD v)=true:=by
 let⟨q1,q2⟩:=zhw v 60 h;unfold HD;rw[q1,DX,decide_eq_true_eq];lia
mutual
theorem zfk:∀(v w:PV) (n m:Nat),shd n v=AB->shd m w=AB->B4 (toD v) (toD w)=peq v w
 |.non,w,n,m,h,q=>by cases w<;>simp_all[toD,B4,peq,shd]
 |.bl b,w,n,m,h,q=>by cases w<;>simp_all[toD,B4,peq,shd,bi]
 |.int i,w,n,m,h,q=>by cases w<;>simp_all[toD,B4,peq,shd,bi]
 |.str x,w,n,m,h,q=>by cases w<;>simp_all[toD,B4,peq,shd]
 |.tp _ xs,.tp _ ys,n,m,h,q=>by
  erw[shd,AK]at h q;erw[toD,B4,peq];exact zdY xs ys (n-1) (m-1) h.2 q.2
 |.lst xs,.lst ys,n,m,h,q=>by
  erw[shd,AK]at h q;erw[toD,B4,peq];exact zdY xs ys (n-1) (m-1) h.2 q.2
 |.tp _ xs,.non,n,m,h,q=>by simp[toD,B4,peq]
 |.tp _ xs,.bl _,n,m,h,q=>by simp[toD,B4,peq]
 |.tp _ xs,.int _,n,m,h,q=>by simp[toD,B4,peq]
 |.tp _ xs,.str _,n,m,h,q=>by simp[toD,B4,peq]
 |.tp _ xs,.lst _,n,m,h,q=>by simp[toD,B4,peq]
 |.lst xs,.non,n,m,h,q=>by simp[toD,B4,peq]
 |.lst xs,.bl _,n,m,h,q=>by simp[toD,B4,peq]
 |.lst xs,.int _,n,m,h,q=>by simp[toD,B4,peq]
 |.lst xs,.str _,n,m,h,q=>by simp[toD,B4,peq]
 |.lst xs,.tp _ _,n,m,h,q=>by simp[toD,B4,peq]
 |.loc k,w,n,m,h,q=>by simp[shd]at h
 |.exn k,w,n,m,h,q=>by simp[shd]at h
 |.scr k,w,n,m,h,q=>by simp[shd]at h
 |v,.loc k,n,m,h,q=>by simp[shd]at q
 |v,.exn k,n,m,h,q=>by simp[shd]at q
 |v,.scr k,n,m,h,q=>by simp[shd]at q
theorem zdY:∀(v w:List PV) (n m:Nat),ybr n v=AB->ybr m w=AB->DY (ybF v) (ybF w)=ybg v w
 |[],[],n,m,h,q=>by simp[ybF,DY,ybg]
 |[],y::ys,n,m,h,q=>by simp[ybF,DY,ybg]
 |x::xs,[],n,m,h,q=>by simp[ybF,DY,ybg]
 |x::xs,y::ys,n,m,h,q=>by
  erw[ybr,AK]at h q;erw[ybF,DY,ybg];rw[zfk x y n m h.1 q.1,zdY xs ys n m h.2 q.2]
end
section
variable {S:Se}{X:Cx}{σ:St}{B:AI->Prop}{φ φ1:Ph}{H H1:Hp}{st:SO}{pins:List (AI×Bu)}{s:AJ}
mutual
theorem zbX(I:Inv X pins σ H s):∀(v:PV) (n:Nat) (x:V) (u:AG),shd n v=AB->yd X.K S.cl B φ H v x->RelV x u->∃as,Reads s.heap u (toD v) as
 |.non,n,x,u,h,r,q=>by
  erw[yd]at r;subst r;cases (show u=Bz from q);exact⟨_,.none⟩
 |.bl b,n,x,u,h,r,q=>by
  erw[yd]at r;subst r;cases (show u=Do b from q);exact⟨_,.bool b⟩
 |.int i,n,x,u,h,r,q=>by
  erw[yd]at r;subst r;let⟨t,rfl⟩:=q;exact⟨_,.int i t⟩
 |.str y,n,x,u,h,r,q=>by
  erw[yd]at r;subst r;let⟨t,rfl⟩:=q;exact⟨_,.str y t⟩
 |.tp _ vs,n,x,u,h,r,q=>by
  erw[yd]at r;let⟨a,xs,rfl,rt,l⟩:=r
  cases (show u=Ah a from q)
  erw[shd,AK]at h;let⟨its,rv,⟨o,g,c,k,d⟩,_⟩:=I.tuple rt.sq;let⟨as,z⟩:=zdq I vs (n-1) xs its h.2 l rv;exact⟨as,.tuple g c d (by simpa using z)⟩
 |.lst vs,n,x,u,h,r,q=>by
  erw[yd]at r;let⟨a,xs,rfl,rt,l⟩:=r
  cases (show u=Ah a from q)
  erw[shd,AK]at h;let⟨its,rv,⟨o,k,g,c,_,d⟩,_⟩:=I.list (rt.sq (K:=X.K));let⟨as,z⟩:=zdq I vs (n-1) xs its h.2 l rv;exact⟨_,.list g c d (by simpa using z)⟩
 |.loc k,n,x,u,h,r,q=>by simp[shd]at h
 |.exn k,n,x,u,h,r,q=>by simp[shd]at h
 |.scr k,n,x,u,h,r,q=>by simp[shd]at h
theorem zdq(I:Inv X pins σ H s):∀(v:List PV) (n:Nat) (x:List V) (u:List AG),ybr n v=AB->ye X.K S.cl B φ H v x->Vals x u->∃as,ReadsAll s.heap u (ybF v) as
 |[],n,x,u,h,r,q=>by
  erw[ye]at r;subst r;cases q;exact⟨_,.nil⟩
 |v::vs,n,x,u,h,r,q=>by
  erw[ye]at r;let⟨y,ys,rfl,rv,l⟩:=r;erw[ybr,AK]at h
  cases q with
  |cons q1 q2=>
   let⟨as,z1⟩:=zbX I v n y _ h.1 rv q1;let⟨bs,z2⟩:=zdq I vs n ys _ h.2 l q2;exact⟨_,.cons z1 z2⟩
end
theorem zo1(hu:X.A.units+64<cLine):OpR X (compareOp .Eq) (rT2 S X (yD .eq)):=by
 rintro pins s σ H x y v u Q I rx ry ⟨B,φ,st,a,b,z,rs,ra,rb,e,q⟩
 erw[yD]at e;split at e
 .rename_i c;rw[AK]at c
  cases e
  let⟨as,z1⟩:=zbX (S:=S) I a 60 x v c.1 ra rx;let⟨bs,z2⟩:=zbX (S:=S) I b 60 y u c.2 rb ry;refine eq_dataH z1 z2 (zbo c.1) (zbo c.2) hu ⟨.bl _,H,I,rfl,?_⟩;rw[zfk a b 60 60 c.1 c.2];exact q _ H φ .rfl rs (by erw[yd])
 .cases e
theorem zph(hu:X.A.units+64<cLine):OpR X (compareOp .NotEq) (rT2 S X (yD .ne)):=by
 rintro pins s σ H x y v u Q I rx ry ⟨B,φ,st,a,b,z,rs,ra,rb,e,q⟩
 erw[yD]at e;split at e
 .rename_i c;rw[AK]at c
  cases e
  let⟨as,z1⟩:=zbX (S:=S) I a 60 x v c.1 ra rx;let⟨bs,z2⟩:=zbX (S:=S) I b 60 y u c.2 rb ry;refine ne_dataH z1 z2 (zbo c.1) (zbo c.2) hu ⟨.bl _,H,I,rfl,?_⟩;rw[zfk a b 60 60 c.1 c.2];exact q _ H φ .rfl rs (by erw[yd])
 .cases e
theorem zhg{f:AG->AG->Gp AG}{o:COp}{g:Int->Int->Bool}(h:OpR X f (rI0 λi j=>.bl (g i j)))
  (hb:∀v w z,yD o v w=AA z->∃i j,v=.int i/\w=.int j/\z=.bl (g i j)):OpR X f (rT2 S X (yD o)):=by
 rintro pins s σ H x y v u Q I rx ry ⟨B,φ,st,a,b,z,rs,ra,rb,e,q⟩
 let⟨i,j,rfl,rfl,rfl⟩:=hb a b z e;erw[yd]at ra rb;subst ra rb;exact h pins s σ H _ _ v u Q I rx ry ⟨i,j,rfl,rfl,q _ H φ .rfl rs (by erw[yd])⟩
theorem zgZ:OpR X (compareOp .LtE) (λx y H Q=>∃i j,x=.str i/\y=.str j/\Q (.bl (!decide (j.cps.toList<i.cps.toList))) H):=by
 intro pins s σ H x y v u Q I rx ry h;let⟨i,j,rfl,rfl,q⟩:=h;let⟨t,rfl⟩:=rx;let⟨t',rfl⟩:=ry;exact PySem.P.le_str (zgX I q rfl)
theorem zpv:OpR X (compareOp .Lt) (rT2 S X (yD .lt)):=by
 rintro pins s σ H x y v u Q I rx ry ⟨B,φ,st,a,b,z,rs,ra,rb,e,q⟩
 erw[yD]at e;split at e
 .rename_i i j;erw[yd]at ra rb;subst ra rb
  cases e
  exact zpo pins s σ H _ _ v u Q I rx ry ⟨i,j,rfl,rfl,q _ H φ .rfl rs (by erw[yd])⟩
 .rename_i i j;erw[yd]at ra rb;subst ra rb
  cases e
  exact zhE pins s σ H _ _ v u Q I rx ry ⟨i,j,rfl,rfl,q _ H φ .rfl rs (by erw[yd])⟩
 .cases e
theorem zpd:OpR X (compareOp .LtE) (rT2 S X (yD .le)):=by
 rintro pins s σ H x y v u Q I rx ry ⟨B,φ,st,a,b,z,rs,ra,rb,e,q⟩
 erw[yD]at e;split at e
 .rename_i i j;erw[yd]at ra rb;subst ra rb
  cases e
  exact zpy pins s σ H _ _ v u Q I rx ry ⟨i,j,rfl,rfl,q _ H φ .rfl rs (by erw[yd])⟩
 .rename_i i j;erw[yd]at ra rb;subst ra rb
  cases e
  exact zgZ pins s σ H _ _ v u Q I rx ry ⟨i,j,rfl,rfl,q _ H φ .rfl rs (by erw[yd])⟩
 .cases e
theorem zfZ{o:COp}{g:Int->Int->Bool}(ho:∀v w,yD o v w=match v,w with
   |.int i,.int j=>ybC o i j
   |.str a,.str b=>yeA o a b
   |_,_=>AD) (hs:∀a b,yeA o a b=AD) (hg:∀i j,ybC o i j=AA (.bl (g i j))) (v w z:PV) (h:yD o v w=AA z):∃i j,v=.int i/\w=.int j/\z=.bl (g i j):=by
 rw[ho]at h;split at h
 .rename_i i j;rw[hg]at h;exact⟨i,j,rfl,rfl,(AY h).symm⟩
 .rw[hs]at h;cases h
 .cases h
theorem zpz:OpR X (compareOp .Gt) (rT2 S X (yD .gt)):=zhg zo2 (zfZ (λ_ _=>rfl) (λ_ _=>rfl) λ_ _=>rfl)
theorem zpa:OpR X (compareOp .GtE) (rT2 S X (yD .ge)):=zhg zpl (zfZ (λ_ _=>rfl) (λ_ _=>rfl) λ_ _=>rfl)
theorem yd.isNon{K:AE}{cl:Nat->AI}{v:PV}{x:V}(r:yd K cl B φ H v x):decide (x=.non)=IC.isNon v:=by
 cases v with
 |loc n=>erw[yd]at r;let⟨_,a,rfl,_⟩:=r;rfl
 |non=>erw[yd]at r;subst r;rfl
 |bl b=>erw[yd]at r;subst r;rfl
 |int b=>erw[yd]at r;subst r;rfl
 |str b=>erw[yd]at r;subst r;rfl
 |tp k vs=>erw[yd]at r;let⟨a,xs,rfl,_⟩:=r;rfl
 |lst vs=>erw[yd]at r;let⟨a,xs,rfl,_⟩:=r;rfl
 |exn vs=>erw[yd]at r;let⟨a,rfl,_⟩:=r;rfl
 |scr vs=>erw[yd]at r;let⟨a,xs,rfl,_⟩:=r;rfl
theorem yd.flat{K:AE}{cl:Nat->AI}{v:PV}{x:V}(r:yd K cl B φ H v x)(h:IC.flat v=AB):ya3 x=AB/\∀(w:PV) (y:V),IC.flat w=AB->yd K cl B φ H w y->eqV x y=peq v w:=by
 cases v with
 |non=>
  erw[yd]at r;subst r;refine⟨rfl,λw y hw rw=>?_⟩
  cases w<;>first|(simp[IC.flat]at hw;done)|(erw[yd]at rw;subst rw;simp[eqV,peq,bi])
 |bl b=>
  erw[yd]at r;subst r;refine⟨rfl,λw y hw rw=>?_⟩
  cases w<;>first|(simp[IC.flat]at hw;done)|(erw[yd]at rw;subst rw;simp[eqV,peq,bi])
 |int b=>
  erw[yd]at r;subst r;refine⟨rfl,λw y hw rw=>?_⟩
  cases w<;>first|(simp[IC.flat]at hw;done)|(erw[yd]at rw;subst rw;simp[eqV,peq,bi])
 |str b=>
  erw[yd]at r;subst r;refine⟨rfl,λw y hw rw=>?_⟩
  cases w<;>first|(simp[IC.flat]at hw;done)|(erw[yd]at rw;subst rw;simp[eqV,peq,bi])
 |_=>simp[IC.flat]at h
theorem zfm{K:AE}{cl:Nat->AI}{v:PV}{x:V}(r:yd K cl B φ H v x)(h:IC.flat v=AB):∀{vs:List PV} {xs:List V},ye K cl B φ H vs xs->vs.all IC.flat=AB->xs.all ya3=AB/\inV x xs=inL v vs
 |[],xs,l,_=>by erw[ye]at l;subst l;exact⟨rfl,rfl⟩
 |w::vs,xs,l,f=>by
  erw[ye]at l;let⟨y,ys,rfl,rw,l⟩:=l;rw[B8,AK]at f;let⟨q1,q2⟩:=zfm r h l f.2;let⟨q3,q4⟩:=rw.flat f.1;refine⟨by rw[B8,q3,q1];rfl,?_⟩;unfold inV at q2 ⊢;rw[BN,q2,q4 v x h r];rfl
end
theorem zl5(a b:AQ):(!(E9 b a 0 b.length 1).isEmpty)=inS a b:=by
 rw[D7,StrLaws.found_iff];unfold inS;rw[Ee];constructor
 .rintro⟨i,h1,h2⟩
  exact⟨i,by rw[Ga];lia,by rw[AK,decide_eq_true_eq];exact⟨h1,h2⟩⟩
 .rintro⟨i,_,h⟩
  rw[AK,decide_eq_true_eq]at h;exact⟨i,h.1,h.2⟩
section
variable {S:Se}{X:Cx}{σ:St}{B:AI->Prop}{φ φ1:Ph}{H H1:Hp}{st:SO}
theorem zpn:OpR X (compareOp .In) (rT2 S X (yD .isin)):=by
 rintro pins s σ H x y v u Q I rx ry ⟨B,φ,st,a,b,z,rs,ra,rb,e,q⟩
 erw[yD]at e;split at e
 .rename_i i j;erw[yd]at ra rb;subst ra rb
  cases e
  exact ziK pins s σ H _ _ v u Q I rx ry ⟨i,j,rfl,rfl,by rw[zl5];exact q _ H φ .rfl rs (by erw[yd])⟩
 .rename_i l;split at e
  .rename_i c;rw[AK]at c
   cases e
   erw[yd]at rb;let⟨p,xs,rfl,r,l'⟩:=rb;let⟨q1,q2⟩:=zfm ra c.1 l' c.2;exact zfj pins s σ H _ _ v u Q I rx ry ⟨p,xs,rfl,.inr r.sq,(ra.flat c.1).1,q1,q _ H φ .rfl rs (by erw[yd];rw[<-q2];rfl)⟩
  .cases e
 .rename_i l;split at e
  .rename_i c;rw[AK]at c
   cases e
   erw[yd]at rb;let⟨p,xs,rfl,r,l'⟩:=rb;let⟨q1,q2⟩:=zfm ra c.1 l' c.2;exact zfj pins s σ H _ _ v u Q I rx ry ⟨p,xs,rfl,.inl r.sq,(ra.flat c.1).1,q1,q _ H φ .rfl rs (by erw[yd];rw[<-q2];rfl)⟩
  .cases e
 .cases e
theorem ye.empty{K:AE}{cl:Nat->AI}{vs:List PV}{xs:List V}(l:ye K cl B φ H vs xs):vs.isEmpty=xs.isEmpty:=by
 have:=l.length
 cases vs<;>cases xs<;>simp_all
theorem zmm{K:AE}{cl:Nat->AI}{v:PV}{x:V}{k:Bool}(rs:yx K cl B φ H st)(r:yd K cl B φ H v x)(h:yaM st v=AA k):yea K x H k:=by
 cases v with
 |non=>erw[yd]at r;subst r;cases h;rfl
 |bl b=>erw[yd]at r;subst r;cases h;rfl
 |int b=>erw[yd]at r;subst r;cases h;rfl
 |str b=>
  erw[yd]at r;subst r;erw[yaM]at h;split at h
  .rename_i c
   cases h
   exact⟨by rw[<-zA];exact c,rfl⟩
  .cases h
 |tp k vs=>
  erw[yd]at r;let⟨a,xs,rfl,rt,l⟩:=r
  cases h
  exact .inr (.inl ⟨xs,rt.sq,by rw[l.empty]⟩)
 |lst vs=>
  erw[yd]at r;let⟨a,xs,rfl,rt,l⟩:=r
  cases h
  exact .inl ⟨xs,rt.sq,by rw[l.empty]⟩
 |loc n=>
  erw[yd]at r;let⟨hn,a,rfl,ha⟩:=r;erw[yaM]at h;split at h
  .rename_i vs hv
   cases h
   let⟨b,hb⟩:=rs.liv n _ hv (by intro z;cases z);obtain rfl:=ha b hb;let⟨o,ho,ro⟩:=rs.obj n b hb;rw[hv]at ho;cases ho;let⟨xs,hx,l⟩:=ro;exact .inl ⟨xs,.of hx,by rw[l.empty]⟩
  .cases h
 |exn c=>cases h
 |scr c=>cases h
end
theorem R.bind_assoc{α β γ:Type}{r:R α}{k:α->SO->R β}{l:β->SO->R γ}:(r.bind k).bind l=r.bind λa s=>(k a s).bind l:=by
 cases r<;>rfl
section
variable {S:Se}{X:Cx}{σ:St}{B:AI->Prop}{φ φ1:Ph}{H H1:Hp}{st:SO}{ρ:IC.Env}{pos:CJ}{a b c d:AT}{ca cb cc:Ce}{es:List AT}{ces:Ces}
theorem zd0{o:COp}{v w z:PV}(h:yD o v w=AA z):∃k,z=.bl k:=by
 cases o<;>erw[yD]at h
 all_goals (repeat' split at h)<;>first|(cases h;done)|(cases h;exact⟨_,rfl⟩)|skip
 all_goals (erw[ybC]at h;cases h;exact⟨_,rfl⟩)
theorem znY{op:FZ}{o:COp}(ho:OpR X (compareOp op) (rT2 S X (yD o)))(ha:PE X a (tE S X ca))(hb:PE X b (tE S X cb))(hm:behindInMarks op b=AC):PT X (.Compare a [op] [b] pos) (tTs S X (.cmp o ca cb)):=
 (zl4 ho ha hb hm).imp λσ H Q ⟨B,φ,st,ρ,rs,re,h⟩=>by
  erw[ev,ya6,R.bind_assoc]at h;refine tE.bind rs re h λx H1 v st1 φ1 s1 rs1 re1 rv h1=>tE.bind rs1 re1 h1 λy H2 w st2 φ2 s2 rs2 re2 rw h2=>?_
  cases e:yD o v w with
  |none=>rw[e]at h2;exact h2.elim
  |some z=>
   let⟨k,rfl⟩:=zd0 e;rw[e]at h2;refine⟨B,φ2,st2,v,w,.bl k,rs2,rv.step s2,rw,e,λz' H' φ' s' rs' rz=>?_⟩;erw[yd]at rz;exact⟨k,rz,h2 k H' φ' s' rs' rfl⟩
theorem zm8(ha:PE X a (tE S X ca))(he:∀whole,isTrue a X.env whole=(do let v <-whole;standAt a.pos;holding [v] (truthy v)):=by intro _;rfl):PT X a (tTs S X ca):=
 (zjv ha he).imp λσ H Q ⟨B,φ,st,ρ,rs,re,h⟩=>by
  erw[ya6]at h;refine tE.bind rs re h λx H1 v st1 φ1 s1 rs1 re1 rv h1=>?_
  cases e:yaM st1 v with
  |none=>rw[e]at h1;exact h1.elim
  |some k=>
   rw[e]at h1;exact⟨k,zmm rs1 rv e,h1.ok rs1 rfl⟩
theorem tTs.bind{γ δ:Type}{HC:Ph->Hp->γ->δ->Prop}{k:Bool->SO->R γ}{Q:δ->Hp->Prop}{P:Bool->Hp->Prop}(rs:yx X.K S.cl B φ H st)(re:yL X.K S.cl B φ H ρ σ)(h:Run S X σ B φ H HC ((ya6 (ev S.call ρ st ca)).bind k) Q)
  (n:∀b H1 st1 φ1,Step φ H φ1 H1->yx X.K S.cl B φ1 H1 st1->yL X.K S.cl B φ1 H1 ρ σ->Run S X σ B φ1 H1 HC (k b st1) Q->P b H1):tTs S X ca σ H P:=
 ⟨B,φ,st,ρ,rs,re,(Run.bind h).mono λx H1 ⟨v,st1,φ1,s,rs1,rv,h1⟩=>by
  subst rv;exact n v H1 st1 φ1 s rs1 (re.step s) h1⟩
theorem zfp(r:R PV)(f:Bool->SO->R PV):ya6 (r.bind λx st1=>onBl x λb=>f b st1)=r.bind λx st1=>onBl x λb=>ya6 (f b st1):=by
 unfold ya6;rw[R.bind_assoc]
 congr 1
 funext x st1
 cases x<;>rfl
theorem Run.bl_tru{r:R PV}{k:Bool->SO->R Bool}{Q:Bool->Hp->Prop}(h:Run S X σ B φ H RB (r.bind λx st1=>onBl x λb=>k b st1) Q):Run S X σ B φ H RB ((ya6 r).bind k) Q:=by
 cases r with
 |bad=>exact h
 |exc c s=>exact h
 |ok v s=>
  cases v with
  |bl b=>exact h
  |_=>exact h.elim
theorem zmH(ha:PT X a (tTs S X ca)):PT X (.UnaryOp .Not a pos) (tTs S X (.not ca)):=
 (znb ha).imp λσ H Q ⟨B,φ,st,ρ,rs,re,h⟩=>by
  erw[ev]at h;rw[zfp _ λk st1=>.ok (.bl (!k)) st1]at h;exact tTs.bind rs re (Run.bl_tru (k:=λb st1=>.ok (!b) st1) h) λb H1 st1 φ1 s1 rs1 re1 h1=>h1.ok rs1 rfl
variable {rest:List AT}
theorem zkY(ha:PT X a (tTs S X ca)):PW X (.BoolOp .And [a] pos) (tTs S X ca):=zlZ ha
theorem zmU(ha:PT X a (tTs S X ca)):PW X (.BoolOp .Or [a] pos) (tTs S X ca):=zmW ha
theorem zoi(ha:PT X a (tTs S X ca))(hb:PW X (.BoolOp .And (b::rest) pos) (tTs S X cb)):PW X (.BoolOp .And (a::b::rest) pos) (tTs S X (.and ca cb)):=
 (zmZ ha hb).imp λσ H Q ⟨B,φ,st,ρ,rs,re,h⟩=>by
  erw[ev]at h;rw[zfp _ λk st1=>cond k (ev S.call ρ st1 cb) (.ok (.bl AC) st1)]at h;refine tTs.bind rs re (Run.bl_tru h) λk H1 st1 φ1 s1 rs1 re1 h1=>?_
  cases k with
  |false=>exact h1.ok rs1 rfl
  |true=>exact⟨B,φ1,st1,ρ,rs1,re1,h1⟩
theorem zpe(ha:PT X a (tTs S X ca))(hb:PW X (.BoolOp .Or (b::rest) pos) (tTs S X cb)):PW X (.BoolOp .Or (a::b::rest) pos) (tTs S X (.or ca cb)):=
 (zo6 ha hb).imp λσ H Q ⟨B,φ,st,ρ,rs,re,h⟩=>by
  erw[ev]at h;rw[zfp _ λk st1=>cond k (.ok (.bl AB) st1) (ev S.call ρ st1 cb)]at h;refine tTs.bind rs re (Run.bl_tru h) λk H1 st1 φ1 s1 rs1 re1 h1=>?_
  cases k with
  |true=>exact h1.ok rs1 rfl
  |false=>exact⟨B,φ1,st1,ρ,rs1,re1,h1⟩
theorem zkL{op:HE}(h:PE X a (tE S X ca)):PE X (.BoolOp op [a] pos) (tE S X ca):=znk h
theorem zkH(ha:PE X a (tE S X ca))(hb:PE X (.BoolOp .And (b::rest) pos) (tE S X cb)):PE X (.BoolOp .And (a::b::rest) pos) (tE S X (.and ca cb)):=
 (zoV ha hb).imp λσ H Q ⟨B,φ,st,ρ,rs,re,h⟩=>by
  erw[ev]at h;refine tE.bind rs re h λx H1 v st1 φ1 s1 rs1 re1 rv h1=>?_
  cases v with
  |bl k=>
   erw[yd]at rv;refine⟨k,rv,?_⟩
   cases k with
   |true=>exact⟨B,φ1,st1,ρ,rs1,re1,h1⟩
   |false=>exact h1.ok rs1 (by erw[yd])
  |_=>exact h1.elim
theorem zm1(ha:PE X a (tE S X ca))(hb:PE X (.BoolOp .Or (b::rest) pos) (tE S X cb)):PE X (.BoolOp .Or (a::b::rest) pos) (tE S X (.or ca cb)):=
 (zpF ha hb).imp λσ H Q ⟨B,φ,st,ρ,rs,re,h⟩=>by
  erw[ev]at h;refine tE.bind rs re h λx H1 v st1 φ1 s1 rs1 re1 rv h1=>?_
  cases v with
  |bl k=>
   erw[yd]at rv;refine⟨k,rv,?_⟩
   cases k with
   |false=>exact⟨B,φ1,st1,ρ,rs1,re1,h1⟩
   |true=>exact h1.ok rs1 (by erw[yd])
  |_=>exact h1.elim
theorem zm4(ha:PE X a (tE S X ca)):PE X (.UnaryOp .Not a pos) (tE S X (.not ca)):=
 (zoB ha).imp λσ H Q ⟨B,φ,st,ρ,rs,re,h⟩=>by
  erw[ev]at h;refine tE.bind rs re h λx H1 v st1 φ1 s1 rs1 re1 rv h1=>?_
  cases v with
  |bl k=>
   erw[yd]at rv;exact⟨k,rv,h1.ok rs1 (by erw[yd])⟩
  |_=>exact h1.elim
theorem zkg(ha:PE X a (tE S X ca)):PE X (.UnaryOp .USub a pos) (tE S X (.neg ca)):=
 (zo5 zmO ha).imp λσ H Q ⟨B,φ,st,ρ,rs,re,h⟩=>by
  erw[ev]at h;refine tE.bind rs re h λx H1 v st1 φ1 s1 rs1 re1 rv h1=>?_;split at h1
  .simp only[yd]at rv;exact⟨_,rv,h1.ok rs1 (by erw[yd])⟩
  .exact h1.elim
theorem znr(hc:PT X c (tTs S X cc))(ha:PE X a (tE S X ca))(hb:PE X b (tE S X cb)):PE X (.IfExp c a b pos) (tE S X (.ite cc ca cb)):=
 (zjz hc ha hb).imp λσ H Q ⟨B,φ,st,ρ,rs,re,h⟩=>by
  erw[ev]at h;have e:((ev S.call ρ st cc).bind λx st1=>onO (yaM st1 x) λk=>cond k (ev S.call ρ st1 ca) (ev S.call ρ st1 cb))=(ya6 (ev S.call ρ st cc)).bind λk st1=>cond k (ev S.call ρ st1 ca) (ev S.call ρ st1 cb):=by
   unfold ya6;rw[R.bind_assoc]
   congr 1
   funext x st1
   cases yaM st1 x<;>rfl
  rw[e]at h;refine tTs.bind rs re h λk H1 st1 φ1 s1 rs1 re1 h1=>?_
  cases k with
  |true=>exact⟨B,φ1,st1,ρ,rs1,re1,h1⟩
  |false=>exact⟨B,φ1,st1,ρ,rs1,re1,h1⟩
theorem ziP:PA X [] (tAs S X .nil):=ybm.imp λσ H Q ⟨B,φ,st,ρ,rs,re,h⟩=>by
 erw[evs]at h;exact h.ok rs (by erw[ye])
theorem zd4(ha:PE X a (tE S X ca))(hr:PA X es (tAs S X ces))(hs:starEach (a::es) X.env=(AC,eval a X.env)::starEach es X.env:=by rfl):PA X (a::es) (tAs S X (.cons ca ces)):=
 (zby ha hr hs).imp λσ H Q ⟨B,φ,st,ρ,rs,re,h⟩=>by
  erw[evs]at h;refine tE.bind rs re h λx H1 v st1 φ1 s1 rs1 re1 rv h1=>tAs.bind rs1 re1 h1 λxs H2 vs st2 φ2 s2 rs2 re2 rvs h2=>?_;refine h2.ok rs2 ?_;erw[ye];exact⟨x,xs,rfl,rv.step s2,rvs⟩
theorem zoz{k:Nat}(h:PA X es (tAs S X ces)):PE X (.Tuple es k pos) (tE S X (.tup ces)):=
 (znS h).imp λσ H Q ⟨B,φ,st,ρ,rs,re,h⟩=>by
  erw[ev]at h;refine tAs.bind rs re h λxs H1 vs st1 φ1 s1 rs1 re1 rv h1=>?_;split at h1
  .rename_i c;refine⟨by rw[<-zA,<-rv.length];exact c,λp hp=>h1 _ _ φ1 (.upd hp) (rs1.upd hp) (.tup_new hp rs1 rv)⟩
  .exact h1.elim
theorem znW(h:PA X es (tAs S X ces)):PE X (.List es pos) (tE S X (.lst ces)):=
 (zkp h).imp λσ H Q ⟨B,φ,st,ρ,rs,re,h⟩=>by
  erw[ev]at h;refine tAs.bind rs re h λxs H1 vs st1 φ1 s1 rs1 re1 rv h1=>?_;split at h1
  .rename_i c;refine⟨by rw[<-zA,<-rv.length];exact c,λp hp=>h1 _ _ φ1 (.upd hp) (rs1.upd hp) (.lst_new hp rs1 rv)⟩
  .exact h1.elim
theorem Step.push{p:AI}{o:HO}(hp:H p=AD):Step φ H (φ++[AA p]) (L2.upd H p o):=by
 refine⟨λb u n e=>by rw[zh (zm e hp)];exact e,by simp,λn a hn e=>?_,λb h=>?_⟩
 .rw[Ag hn]at e;exact e
 .rw[Bb]at h;rcases h with h|h
  .exact .inl h
  .have:b=p:=by simpa using h
   subst this;exact .inr hp
theorem yx.push{K:AE}{cl:Nat->AI}{p:AI}{u:HO}{o:Ob}(rs:yx K cl B φ H st)(hp:H p=AD)(hb:¬B p)(ho:ych K cl B (φ++[AA p]) (L2.upd H p u) o p):yx K cl B (φ++[AA p]) (L2.upd H p u) (st++[o]):=by
 have s:Step φ H (φ++[AA p]) (L2.upd H p u):=.push hp;have np:AA p∉φ:=λz=>by
  let⟨w,e⟩:=rs.there z;rw[hp]at e;cases e
 have hl:φ.length=st.length:=rs.len;refine⟨by simp[hl],λm n a e1 e2=>?_,λn a e=>?_,λn o' e ho'=>?_,λa h=>?_,λa h=>?_⟩
 .by_cases hm:m<φ.length
  .rw[Ag hm]at e1
   by_cases hn:n<φ.length
   .rw[Ag hn]at e2;exact rs.inj m n a e1 e2
   .rw[Am (by lia)]at e2;have:a=p:=by
     cases q:n-φ.length with
     |zero=>rw[q]at e2;simpa using e2.symm
     |succ k=>rw[q]at e2;simp at e2
    subst this;exact absurd (A2 e1) np
  .rw[Am (by lia)]at e1;have:m-φ.length=0/\a=p:=by
    cases q:m-φ.length with
    |zero=>rw[q]at e1;exact⟨rfl,by simpa using e1.symm⟩
    |succ k=>rw[q]at e1;simp at e1
   let⟨q1,rfl⟩:=this
   by_cases hn:n<φ.length
   .rw[Ag hn]at e2;exact absurd (A2 e2) np
   .rw[Am (by lia)]at e2;have:n-φ.length=0:=by
     cases q:n-φ.length with
     |zero=>rfl
     |succ k=>rw[q]at e2;simp at e2
    lia
 .by_cases hn:n<φ.length
  .rw[Ag hn]at e;let⟨o',q,r⟩:=rs.obj n a e;refine⟨o',by rw[Ag (by lia)];exact q,r.step s ?_⟩;rw[zh]
   rintro rfl
   exact np (A2 e)
  .rw[Am (by lia)]at e;have:n-φ.length=0/\a=p:=by
    cases q:n-φ.length with
    |zero=>rw[q]at e;exact⟨rfl,by simpa using e.symm⟩
    |succ k=>rw[q]at e;simp at e
   let⟨q1,rfl⟩:=this;refine⟨o,?_,ho⟩;rw[Am (by lia)];have:n-st.length=0:=by lia
   rw[this];rfl
 .by_cases hn:n<φ.length
  .rw[Ag (by lia)]at e;let⟨a,q⟩:=rs.liv n o' e ho';exact⟨a,by rw[Ag hn];exact q⟩
  .rw[Am (by lia)]at e;have:n-st.length=0:=by
    cases q:n-st.length with
    |zero=>rfl
    |succ k=>rw[q]at e;simp at e
   refine⟨p,?_⟩;rw[Am (by lia)];have:n-φ.length=0:=by lia
   rw[this];rfl
 .rw[Bb]at h;rcases h with h|h
  .exact rs.nb a h
  .have:a=p:=by simpa using h
   subst this;exact hb
 .let⟨w,e⟩:=rs.dom a h;exact⟨w,by rw[zh (zm e hp)];exact e⟩
theorem yx.nB{K:AE}{cl:Nat->AI}{p:AI}(rs:yx K cl B φ H st)(hp:H p=AD):¬B p:=λz=>by
 let⟨o,e⟩:=rs.dom p z;rw[hp]at e;cases e
theorem yd.loc_new{K:AE}{cl:Nat->AI}{p:AI}(rs:yx K cl B φ H st):yd K cl B (φ++[AA p]) H1 (.loc st.length) (.ref p):=by
 erw[yd];have hl:=rs.len;refine⟨by simp[hl],p,rfl,λb e=>?_⟩;rw[Am (by lia)]at e;have:st.length-φ.length=0:=by lia
 rw[this]at e;simpa using e.symm
theorem zlv(h:PA X es (tAs S X ces)):PE X (.List es pos) (tE S X (.newl ces)):=
 (zkp h).imp λσ H Q ⟨B,φ,st,ρ,rs,re,h⟩=>by
  erw[ev]at h;refine tAs.bind rs re h λxs H1 vs st1 φ1 s1 rs1 re1 rv h1=>?_;split at h1
  .rename_i c;refine⟨by rw[<-zA,<-rv.length];exact c,λp hp=>h1 _ _ (φ1++[AA p]) (.push hp) (rs1.push hp (rs1.nB hp) ⟨xs,zr,rv.step (.push hp)⟩) (.loc_new rs1)⟩
  .exact h1.elim
end
section
variable {S:Se}{X:Cx}{σ:St}{B:AI->Prop}{φ φ1:Ph}{H H1:Hp}{st:SO}{ρ:IC.Env}{pos p2:CJ}{a b c d:AT}{ca cb cc:Ce}{es:List AT}{ces:Ces}{K:AE}{cl:Nat->AI}
theorem zis{o:COp}{v w:PV}{α β:Type}{Rel:Ph->Hp->α->β->Prop}{k:Bool->R α}{Q:β->Hp->Prop}(h:Run S X σ B φ H Rel (onO (blO (yD o v w)) k) Q):∃b,yD o v w=AA (.bl b)/\Run S X σ B φ H Rel (k b) Q:=by
 cases e:yD o v w with
 |none=>rw[e]at h;exact h.elim
 |some z=>
  let⟨b,rfl⟩:=zd0 e;rw[e]at h;exact⟨b,rfl,h⟩
theorem zjo{op op':FZ}{o p:COp}(ho:OpR X (compareOp op) (rT2 S X (yD o)))(ho':OpR X (compareOp op') (rT2 S X (yD p)))(ha:PE X a (tE S X ca))(hb:PE X b (tE S X cb))(hc:PE X c (tE S X cc))
  (hm:lastMarks [op,op'] [b,c]=false:=by ac_rfl):PE X (.Compare a [op,op'] [b,c] pos) (tE S X (.chain o p ca cb cc)):=
 (zjp ho ho' ha hb hc hm).imp λσ H Q ⟨B,φ,st,ρ,rs,re,h⟩=>by
  erw[ev]at h;refine tE.bind rs re h λx H1 v st1 φ1 s1 rs1 re1 rv h1=>tE.bind rs1 re1 h1 λy H2 w st2 φ2 s2 rs2 re2 rw h2=>?_;let⟨k,e,h2⟩:=zis h2;refine⟨B,φ2,st2,v,w,.bl k,rs2,rv.step s2,rw,e,λz' H' φ' s' rs' rz=>?_⟩;erw[yd]at rz;refine⟨k,rz,?_⟩
  cases k with
  |false=>exact h2 _ H' φ' s' rs' (by erw[yd])
  |true=>
   refine tE.bind rs' (re2.step s') (Run.on s' h2) λz H3 v3 st3 φ3 s3 rs3 re3 rv3 h3=>?_;let⟨q,eq,hq⟩:=zac h3 rs3;exact⟨B,φ3,st3,w,v3,q,rs3,(rw.step s').step s3,rv3,eq,hq⟩
theorem zjQ{op op':FZ}{o p:COp}(ho:OpR X (compareOp op) (rT2 S X (yD o)))(ho':OpR X (compareOp op') (rT2 S X (yD p)))(ha:PE X a (tE S X ca))(hb:PE X b (tE S X cb))(hc:PE X c (tE S X cc))
  (hm:lastMarks [op,op'] [b,c]=false:=by ac_rfl):PT X (.Compare a [op,op'] [b,c] pos) (tTs S X (.chain o p ca cb cc)):=
 (zjI ho ho' ha hb hc hm).imp λσ H Q ⟨B,φ,st,ρ,rs,re,h⟩=>by
  erw[ev,ya6,R.bind_assoc]at h;refine tE.bind rs re h λx H1 v st1 φ1 s1 rs1 re1 rv h1=>tE.bind rs1 re1 h1 λy H2 w st2 φ2 s2 rs2 re2 rw h2=>?_;have h2':Run S X σ B φ2 H2 RB (onO (blO (yD o v w)) λk=>cond k ((ev S.call ρ st2 cc).bind λz st3=>(toR (yD p w z) st3).bind λx st=>onO (yaM st x) λb=>.ok b st) (.ok AC st2)) Q:=by
   cases e:yD o v w with
   |none=>rw[e]at h2;exact h2
   |some z=>
    let⟨b,rfl⟩:=zd0 e;rw[e]at h2
    cases b with
    |false=>exact h2
    |true=>
     erw[blO,onO,cond_true,R.bind_assoc]at h2 ⊢;exact h2
  let⟨k,e,h2⟩:=zis h2';refine⟨B,φ2,st2,v,w,.bl k,rs2,rv.step s2,rw,e,λz' H' φ' s' rs' rz=>?_⟩;erw[yd]at rz;refine⟨k,rz,?_⟩
  cases k with
  |false=>exact⟨AC,rfl,h2 _ H' φ' s' rs' rfl⟩
  |true=>
   refine tE.bind rs' (re2.step s') (Run.on s' h2) λz H3 v3 st3 φ3 s3 rs3 re3 rv3 h3=>?_
   cases eq:yD p w v3 with
   |none=>rw[eq]at h3;exact h3.elim
   |some q=>
    let⟨b,rfl⟩:=zd0 eq;rw[eq]at h3;refine⟨B,φ3,st3,w,v3,.bl b,rs3,(rw.step s').step s3,rv3,eq,λz2 H4 φ4 s4 rs4 rz4=>?_⟩;erw[yd]at rz4;exact⟨b,rz4,h3 b H4 φ4 s4 rs4 rfl⟩
theorem ye.at{vs:List PV}{xs:List V}{i:Int}{v:PV}(l:ye K cl B φ H vs xs)(h:at? vs i=AA v):∃x,atI xs i=AA x/\yd K cl B φ H v x:=by
 unfold at? at h;rw[l.length]at h;unfold atI
 cases e:ixI xs.length i with
 |none=>rw[e]at h;cases h
 |some j=>
  rw[e]at h;have e':ixN xs.length i=AA j:=e;rw[e'];exact l.get j h
theorem yx.list{n:Nat}{vs:List PV}{x:V}(rs:yx K cl B φ H st)(r:yd K cl B φ H (.loc n) x)(h:st[n]?=AA (.lst vs)):∃a xs,x=.ref a/\φ[n]?=AA (AA a)/\H a=AA (.lst xs)/\ye K cl B φ H vs xs:=by
 erw[yd]at r;let⟨hn,a,rfl,ha⟩:=r;let⟨b,hb⟩:=rs.liv n _ h (by intro z;cases z);obtain rfl:=ha b hb;let⟨o,ho,ro⟩:=rs.obj n b hb;rw[h]at ho;cases ho;let⟨xs,hx,l⟩:=ro;exact⟨b,xs,rfl,hb,hx,l⟩
def rTS(S:Se)(X:Cx)(f:SO->PV->PV->Option PV):R2:=λx y H Q=>∃B φ st v w z,yx X.K S.cl B φ H st/\yd X.K S.cl B φ H v x/\yd X.K S.cl B φ H w y/\f st v w=AA z /\
 ∀z' H' φ',Step φ H φ' H'->yx X.K S.cl B φ' H' st->yd X.K S.cl B φ' H' z z'->Q z' H'
theorem zcz{α:Type}{xs:List α}{i:PV}{z:α}(h:ya5 xs i=AA z):∃k,i=.int k/\at? xs k=AA z:=by
 cases i with
 |int k=>exact⟨k,rfl,h⟩
 |_=>cases h
theorem zl7:IxR X (rTS S X idxV):=by
 rintro value slice pins s σ H x y v u Q I rx ry ⟨B,φ,st,a,i,z,rs,ra,ri,e,q⟩ hs
 cases a with
 |tp k vs=>
  let⟨k,rfl,e⟩:=zcz e;erw[yd]at ra ri;subst ri;let⟨p,xs,rfl,rt,l⟩:=ra;let⟨w,e1,rw⟩:=l.at e;exact zgc value slice pins s σ H _ _ v u Q I rx ry (.inr (.inl ⟨p,xs,k,w,rfl,rfl,rt.sq,e1,q w H φ .rfl rs rw⟩)) hs
 |lst vs=>
  let⟨k,rfl,e⟩:=zcz e;erw[yd]at ra ri;subst ri;let⟨p,xs,rfl,rt,l⟩:=ra;let⟨w,e1,rw⟩:=l.at e;exact zgc value slice pins s σ H _ _ v u Q I rx ry (.inl ⟨p,xs,k,w,rfl,rfl,rt.sq,e1,q w H φ .rfl rs rw⟩) hs
 |loc n=>
  erw[idxV]at e;split at e
  .rename_i vs h1;let⟨k,rfl,e⟩:=zcz e;erw[yd]at ri;subst ri;let⟨p,xs,rfl,_,hx,l⟩:=rs.list ra h1;let⟨w,e1,rw⟩:=l.at e;exact zgc value slice pins s σ H _ _ v u Q I rx ry (.inl ⟨p,xs,k,w,rfl,rfl,.of hx,e1,q w H φ .rfl rs rw⟩) hs
  .cases e
 |str t=>
  erw[idxV]at e;split at e
  .rename_i hl
   cases e1:ya5 t.cps.toList i with
   |none=>rw[e1]at e;cases e
   |some c=>
    rw[e1]at e
    cases e
    let⟨k,rfl,e1⟩:=zcz e1;erw[yd]at ra ri;subst ra ri;exact zgc value slice pins s σ H _ _ v u Q I rx ry (.inr (.inr ⟨t,k,c,rfl,rfl,by rw[<-zA];exact hl,e1,q _ H φ .rfl rs (by erw[yd])⟩)) hs
  .cases e
 |_=>cases e
theorem znJ(ha:PE X a (tE S X ca))(hb:PE X b (tE S X cb))(hs:ybv b:=by exact λ_ _=>rfl):PE X (.Subscript a b pos) (tE S X (.idx ca cb)):=
 (zpf zl7 ha hb hs).imp λσ H Q ⟨B,φ,st,ρ,rs,re,h⟩=>by
  erw[ev]at h;refine tE.bind rs re h λx H1 v st1 φ1 s1 rs1 re1 rv h1=>tE.bind rs1 re1 h1 λy H2 w st2 φ2 s2 rs2 re2 rw h2=>?_;let⟨z,e,q⟩:=zac h2 rs2;exact⟨B,φ2,st2,v,w,z,rs2,rv.step s2,rw,e,q⟩
theorem ye.cut{vs:List PV}{xs:List V}(lo hi:Option Int)(l:ye K cl B φ H vs xs):ye K cl B φ H (IC.cut vs lo hi) (ycq xs lo hi):=by
 have e1:∀n o,ycE n o=HT.sIx n 0 o:=λn o=>by cases o<;>rfl
 have e2:∀n o,yc0 n o=HT.sIx n n o:=λn o=>by cases o<;>rfl
 unfold IC.cut ycq;rw[l.length,e1,e2];exact(l.drop _).take _
def tO(S:Se)(X:Cx)(c:Ce):TO:=λσ H Q=>tE S X c σ H λx H1=>(x=.non/\Q AD H1) \/ ∃i,x=.int i/\Q (AA i) H1
theorem zlT:PO X AD (tO S X (.cst .non)):=λpins s σ H Q I h=>by
 refine zlo pins s σ H Q I ?_;let⟨B,φ,st,ρ,rs,re,h⟩:=h;erw[ev]at h;rcases h.ok rs (x:=V.non) (by erw[yd])with q|⟨i,z,_⟩
 .exact q.2
 .cases z
theorem zkW(ha:PE X a (tE S X ca)):PO X (AA a) (tO S X ca):=by
 intro pins s σ H Q I hw;rw[evalPart_some];refine thn (ha pins s σ H _ I hw) λu s1 kq=>?_;let⟨x,H1,I1,r1,q1⟩:=kq;rcases q1 with⟨rfl,q⟩|⟨i,rfl,q⟩
 .cases r1
  exact⟨AD,H1,I1,.none,q⟩
 .let⟨t,rfl⟩:=r1;exact⟨AA i,H1,I1,.int i t,q⟩
def rSl(S:Se)(X:Cx):V->Option Int->Option Int->Hp->VK->Prop:=λx lo hi H Q=>∃B φ st v z,yx X.K S.cl B φ H st/\yd X.K S.cl B φ H v x/\ycz v lo hi=AA z /\
 ∀z' H' φ',Step φ H φ' H'->yx X.K S.cl B φ' H' st->yd X.K S.cl B φ' H' z z'->Q z' H'
theorem zbD{prog:A8}{w:Aj}{A:Ao}{E:AG->AJ->Prop}{s:AJ}{t sl:AI}{items:Array AG}{vl vu:AG}{lo hi:Option Int}{Q:AG->AJ->Prop}(ht:HM s.heap t items)(hs:s.heap.IsSliceOf sl vl vu .none)(pl:Ek vl lo)(pu:Ek vu hi)
  (hw:HT.sIx items.size 0 lo=0/\HT.sIx items.size items.size hi=items.size)
  (h:Q (.ref t) s):A1 (model prog w) A (getItem (.ref t) (.ref sl)) Q E s:=by
 let⟨os,hos,hcs,hds⟩:=id hs;have hTs:s.TypeIs (.ref sl) "slice":=⟨os,hos,hcs⟩;unfold getItem
 try with_reducible refine DW ?_
 first|refine AH (AV ?_)|skip
 refine AH (Fm ht.typeIs (by decide) ?_);refine AH (Bd (name:=AF "__getitem__") ht.typeIs BJ
  (CT BJ ht.typeIs FV ?_ (Fa _ _)))
 show A1 _ _ (Dx (.ref t) >>= _) _ _ s;refine AH (FQ ht ?_);refine AH (Fp hTs ?_);rw[if_pos (by decide)];refine AH (HT.sliceApplied_gen hs pl pu ?_);have hyes:(((HT.sIx items.size 0 lo:Nat):Int)==0&&(1:Int)==1&&(HT.sIx items.size items.size hi-HT.sIx items.size 0 lo)==items.size)=true:=by
  rw[hw.1,hw.2];simp
 show A1 _ _ (if (((HT.sIx items.size 0 lo:Nat):Int)==0&&(1:Int)==1&&(HT.sIx items.size items.size hi-HT.sIx items.size 0 lo)==items.size)=AB then _ else _) _ _ s;rw[if_pos hyes];refine AH (AH (Fp ht.typeIs (AV ?_)));rw[if_pos (by decide)]
 first
  |exact AH (AV (AV ⟨_,rfl,AV h⟩))
  |exact AH (Eh (AV ⟨_,rfl,AV h⟩))
  |(wp_step;wp_step;exact⟨_,rfl,AV h⟩)
noncomputable def ygo(K:AE):V->Option Int->Option Int->Hp->VK->Prop:=λx lo hi H Q=>∃a xs,x=.ref a/\SqT K H a xs /\
 (HT.sIx xs.length 0 lo=0/\HT.sIx xs.length xs.length hi=xs.length)/\Q (.ref a) H
theorem zj0:SlR X (ygo X.K):=by
 intro pins s σ H x v vl vu lo hi sl Q I rx hs pl pu h;let⟨a,xs,rfl,hx,hw,q⟩:=h
 cases rx
 let⟨its,r,ht,hz⟩:=I.tuple hx;have hlen:its.toArray.size=xs.length:=by rw[AZ];exact r.length.symm
 refine⟨"tuple",_,BJ.lookup,ht.typeIs,?_⟩;exact zbD ht hs pl pu (by rw[hlen];exact hw) ⟨.ref a,H,I,rfl,q⟩
noncomputable def yf3:V->Option Int->Option Int->Hp->VK->Prop:=λx lo hi H Q=>∃y:AQ,x=.str y/\y.length<=sizeLine/\Q (.str ⟨((y.cps.toList.drop (HT.sIx y.cps.toList.length 0 lo)).take (HT.sIx y.cps.toList.length y.cps.toList.length hi-HT.sIx y.cps.toList.length 0 lo)).toArray⟩) H
theorem yga(lo hi:Option Int)(n:Nat):Dj lo hi 1 n=sliceRange ((HT.sIx n 0 lo:Nat):Int) ((HT.sIx n n hi:Nat):Int) 1:=by
 unfold Dj;erw[show (1:Int) > 0 by decide,if_true]
 congr 1
 .cases lo with
  |none=>simp[HT.sIx]
  |some i=>
   erw[HT.sIx]
   by_cases h:i<0
   .simp only[h,if_true]<;>lia
   .simp only[h,if_false]<;>lia
 .cases hi with
  |none=>simp[HT.sIx]
  |some i=>
   erw[HT.sIx]
   by_cases h:i<0
   .simp only[h,if_true]<;>lia
   .simp only[h,if_false]<;>lia
theorem zg3(y:AQ)(lo hi:Option Int):Txt.slice y lo hi=⟨((y.cps.toList.drop (HT.sIx y.cps.toList.length 0 lo)).take (HT.sIx y.cps.toList.length y.cps.toList.length hi-HT.sIx y.cps.toList.length 0 lo)).toArray⟩:=by
 have hn:y.length=y.cps.toList.length:=by simp[Str.length]
 unfold Txt.slice;rw[yga,hn,sliceRange_one];have ha:=HT.sIx_le y.cps.toList.length 0 (DA _) lo;have hb:=HT.sIx_le y.cps.toList.length y.cps.toList.length (AU _) hi;generalize HT.sIx y.cps.toList.length 0 lo=a at *;generalize HT.sIx y.cps.toList.length y.cps.toList.length hi=b at *;split
 .rename_i c;erw[BD,List.length_range,AK,beq_iff_eq]at c;obtain⟨rfl,rfl⟩:a=0/\b=y.cps.toList.length:=by lia
  rw[Gj,Fw,GS]
 .rw[pick_run]
theorem zmz:SlR X yf3:=by
 intro pins s σ H x v vl vu lo hi sl Q I rx hs pl pu h;let⟨y,rfl,hz,q⟩:=h;let⟨t,rfl⟩:=rx;rw[<-zg3]at q;refine⟨"str",_,PySem.F.slot_str_getitem.lookup,Gg _ _ _,?_⟩;have go:∀l u:Option (Int×He),vl=partValue l->vu=partValue u->lo=l.map (·.1)->hi=u.map (·.1)->A1 (model X.prog X.w) X.A (getItem (.str y t) (.ref sl)) (EP X pins σ Q) X.xe s:=by
  rintro l u rfl rfl rfl rfl
  refine wpAny_getItem_str_slice (l:=l) (u:=u) (st:=AD) hs rfl ?_;exact post_val_or_str ⟨BO (Txt.slice_le y _ _) hz,λt' k=>⟨.str _,H,I.tok k,⟨_,rfl⟩,q⟩⟩
 cases pl with
 |none=>
  cases pu with
  |none=>exact go AD AD rfl rfl rfl rfl
  |int j u=>exact go AD (AA (j,u)) rfl rfl rfl rfl
 |int i t1=>
  cases pu with
  |none=>exact go (AA (i,t1)) AD rfl rfl rfl rfl
  |int j u=>exact go (AA (i,t1)) (AA (j,u)) rfl rfl rfl rfl
theorem zl9:SlR X (rSl S X):=by
 rintro pins s σ H x v vl vu lo hi sl Q I rx hs pl pu ⟨B,φ,st,w,z,rs,rw,e,q⟩
 have e1:∀n o,ycE n o=HT.sIx n 0 o:=λn o=>by cases o<;>rfl
 have e2:∀n o,yc0 n o=HT.sIx n n o:=λn o=>by cases o<;>rfl
 cases w with
 |tp k vs=>
  erw[ycz]at e;split at e
  .rename_i c
   cases e
   have rw':=rw;erw[yd]at rw;let⟨p,xs,rfl,rt,l⟩:=rw;refine zj0 pins s σ H _ v vl vu lo hi sl Q I rx hs pl pu ⟨p,xs,rfl,rt.sq,?_,q _ H φ .rfl rs rw'⟩;rw[l.length,e1,e2]at c;exact c
  .rename_i c
   cases e
   erw[yd]at rw;let⟨p,xs,rfl,rt,l⟩:=rw;refine zn2 pins s σ H _ v vl vu lo hi sl Q I rx hs pl pu ⟨p,xs,rfl,rt.sq,?_,λt ht=>q _ _ φ (.upd ht) (rs.upd ht) (.tup_new ht rs (l.cut lo hi))⟩;rw[l.length,e1,e2]at c;exact c
 |str y=>
  erw[ycz]at e;split at e
  .rename_i c
   cases e
   erw[yd]at rw;subst rw;refine zmz pins s σ H _ v vl vu lo hi sl Q I rx hs pl pu ⟨y,rfl,by rw[<-zA];exact c,?_⟩;have:=q (.str ⟨(cut y.cps.toList lo hi).toArray⟩) H φ .rfl rs (by erw[yd]);rw[cut,e1,e2]at this;exact this
  .cases e
 |lst vs=>
  erw[ycz]at e
  cases e
  erw[yd]at rw;let⟨p,xs,rfl,rt,l⟩:=rw;exact zin pins s σ H _ v vl vu lo hi sl Q I rx hs pl pu ⟨p,xs,rfl,rt.sq,λt ht=>q _ _ φ (.upd ht) (rs.upd ht) (.lst_new ht rs (l.cut lo hi))⟩
 |scr vs=>
  erw[ycz]at e
  cases e
  erw[yd]at rw;let⟨p,xs,rfl,rt,l⟩:=rw;exact zin pins s σ H _ v vl vu lo hi sl Q I rx hs pl pu ⟨p,xs,rfl,(by rcases rt with rt|rt;exact .inl rt.1;exact .inr rt),λt ht=>q _ _ φ (.upd ht) (rs.upd ht) (.lst_new ht rs (l.cut lo hi))⟩
 |_=>cases e
theorem znK{lo hi:Option AT}(ha:PE X a (tE S X ca))(hl:PO X lo (tO S X cb))(hh:PO X hi (tO S X cc)):PE X (.Subscript a (.Slice lo hi AD p2) pos) (tE S X (.slc ca cb cc)):=
 (zka zl9 ha hl hh).imp λσ H Q ⟨B,φ,st,ρ,rs,re,h⟩=>by
  erw[ev]at h;have oi:∀{v:PV} {x:V} {o:Option Int} {B φ H},yd X.K S.cl B φ H v x->yb2 v=AA o->(x=.non/\o=AD) \/ ∃i,x=.int i/\o=AA i:=λ{v x o B φ H} r e=>by
   cases v with
   |non=>erw[yd]at r;cases e;exact .inl ⟨r,rfl⟩
   |int i=>erw[yd]at r;cases e;exact .inr ⟨i,r,rfl⟩
   |_=>cases e
  refine tE.bind rs re h λx H1 v st1 φ1 s1 rs1 re1 rv h1=>tE.bind rs1 re1 h1 λy H2 w st2 φ2 s2 rs2 re2 rw h2=>?_
  cases eo:yb2 w with
  |none=>rw[eo]at h2;exact h2.elim
  |some o1=>
   rw[eo]at h2;have key:tO S X cc σ H2 λu H3=>rSl S X x o1 u H3 Q:=by
    refine tE.bind rs2 re2 h2 λy' H3 w' st3 φ3 s3 rs3 re3 rw' h3=>?_;let⟨z,e,q⟩:=zac h3 rs3;unfold ycs at e
    cases eo':yb2 w' with
    |none=>rw[eo']at e;cases e
    |some o2=>
     rw[eo']at e;have fin:rSl S X x o1 o2 H3 Q:=⟨B,φ3,st3,v,z,rs3,(rv.step s2).step s3,e,q⟩;rcases oi rw' eo' with⟨rfl,rfl⟩|⟨i,rfl,rfl⟩
     .exact .inl ⟨rfl,fin⟩
     .exact .inr ⟨i,rfl,fin⟩
   rcases oi rw eo with⟨rfl,rfl⟩|⟨i,rfl,rfl⟩
   .exact .inl ⟨rfl,key⟩
   .exact .inr ⟨i,rfl,key⟩
end
section
variable {S:Se}{X:Cx}{σ:St}{B:AI->Prop}{φ φ1:Ph}{H H1:Hp}{st:SO}{ρ:IC.Env}{p pos p2:CJ}{a b c d:AT}{ca cb cc:Ce}{es:List AT}{ces:Ces}{K:AE}{cl:Nat->AI}
def rB(S:Se)(X:Cx)(k:Blt):List V->Hp->VK->Prop:=λxs H Q=>∃B φ st vs z,yx X.K S.cl B φ H st/\ye X.K S.cl B φ H vs xs/\yar k st vs=AA z /\
 ∀z' H' φ',Step φ H φ' H'->yx X.K S.cl B φ' H' st->yd X.K S.cl B φ' H' z z'->Q z' H'
theorem ye.one{v:PV}{xs:List V}(l:ye K cl B φ H [v] xs):∃x,xs=[x]/\yd K cl B φ H v x:=by
 erw[ye]at l;let⟨y,ys,rfl,r,rfl⟩:=l;exact⟨y,rfl,r⟩
theorem ye.two{v w:PV}{xs:List V}(l:ye K cl B φ H [v,w] xs):∃x y,xs=[x,y]/\yd K cl B φ H v x/\yd K cl B φ H w y:=by
 erw[ye]at l;let⟨y,ys,rfl,r,z,zs,rfl,r2,rfl⟩:=l;exact⟨y,z,rfl,r,r2⟩
theorem zck{k:Blt}{st:SO}{vs:List PV}{z:PV}(h:yar k st vs=AA z)(h2:∀x y,yar k st [x,y]=AD):∃x,vs=[x]:=by
 match vs,h with
 |[x],_=>exact⟨x,rfl⟩
 |[x,y],h=>rw[h2]at h;cases h
theorem zde{v:PV}{x:V}{vs:List PV}(rs:yx K cl B φ H st)(r:yd K cl B φ H v x)(h:yad st v=AA vs):∃a xs,x=.ref a/\SqL K H a xs/\ye K cl B φ H vs xs:=by
 cases v with
 |lst ws=>
  cases h
  erw[yd]at r;let⟨a,xs,rfl,rt,l⟩:=r;exact⟨a,xs,rfl,rt.sq,l⟩
 |loc n=>
  erw[yad]at h;split at h
  .rename_i ws hw
   cases h
   let⟨a,xs,rfl,_,hx,l⟩:=rs.list r hw;exact⟨a,xs,rfl,.of hx,l⟩
  .cases h
 |_=>cases h
theorem znh{v:PV}{x:V}{vs:List PV}(rs:yx K cl B φ H st)(r:yd K cl B φ H v x)(h:yb4 st v=AA vs):∃a xs,x=.ref a/\(SqL K H a xs \/ SqT K H a xs)/\ye K cl B φ H vs xs:=by
 cases v with
 |tp k ws=>
  cases h
  erw[yd]at r;let⟨a,xs,rfl,rt,l⟩:=r;exact⟨a,xs,rfl,.inr rt.sq,l⟩
 |lst ws=>
  let⟨a,xs,e,q,l⟩:=zde rs r (vs:=vs) h;exact⟨a,xs,e,.inl q,l⟩
 |loc n=>
  let⟨a,xs,e,q,l⟩:=zde rs r (vs:=vs) h;exact⟨a,xs,e,.inl q,l⟩
 |_=>cases h
theorem zob:yae X (.builtin "len") (rB S X .len):=by
 rintro pins s σ H xs us Q I r ⟨B,φ,st,vs,z,rs,l,e,q⟩
 let⟨v,rfl⟩:=zck e λ_ _=>rfl;let⟨x,rfl,rv⟩:=l.one;erw[yar,lenV]at e;split at e
 .rename_i t;split at e
  .rename_i c
   cases e
   erw[yd]at rv;subst rv;exact zeJ pins s σ H _ us Q I r ⟨t,rfl,by rw[<-zA];exact c,q _ H φ .rfl rs (by erw[yd])⟩
  .cases e
 .cases e1:yb4 st v with
  |none=>rw[e1]at e;cases e
  |some ws=>
   rw[e1]at e
   cases e
   let⟨a,ys,rfl,h,l⟩:=znh rs rv e1;refine zeQ pins s σ H _ us Q I r ⟨a,ys,rfl,?_,q _ H φ .rfl rs (by erw[yd];rw[l.length])⟩;exact h
theorem znn:yae X (.type "int") (rB S X .int):=by
 rintro pins s σ H xs us Q I r ⟨B,φ,st,vs,z,rs,l,e,q⟩
 let⟨v,rfl⟩:=zck e λ_ _=>rfl;let⟨x,rfl,rv⟩:=l.one;erw[yar]at e
 cases v with
 |int i=>
  cases e
  erw[yd]at rv;subst rv;exact zfe pins s σ H _ us Q I r (.inl ⟨i,rfl,q _ H φ .rfl rs (by erw[yd])⟩)
 |bl k=>
  cases e
  erw[yd]at rv;subst rv;exact zfe pins s σ H _ us Q I r (.inr ⟨k,rfl,q _ H φ .rfl rs (by erw[yd,bi])⟩)
 |_=>cases e
theorem zot:yae X (.builtin "abs") (rB S X .abs):=by
 rintro pins s σ H xs us Q I r ⟨B,φ,st,vs,z,rs,l,e,q⟩
 let⟨v,rfl⟩:=zck e λ_ _=>rfl;let⟨x,rfl,rv⟩:=l.one;erw[yar]at e
 cases v with
 |int i=>
  cases e
  erw[yd]at rv;subst rv;exact ziW pins s σ H _ us Q I r ⟨i,rfl,q _ H φ .rfl rs (by erw[yd])⟩
 |_=>cases e
theorem zlb{k:Blt}{st:SO}{vs:List PV}{z:PV}(h:yar k st vs=AA z)(h2:∀x,yar k st [x]=AD):∃x y,vs=[x,y]:=by
 match vs,h with
 |[x,y],_=>exact⟨x,y,rfl⟩
 |[x],h=>rw[h2]at h;cases h
theorem zny(hc:X.calm=AB):yae X (.builtin "min") (rB S X .min):=by
 rintro pins s σ H xs us Q I r ⟨B,φ,st,vs,z,rs,l,e,q⟩
 let⟨v,w,rfl⟩:=zlb e λ_=>rfl;let⟨x,y,rfl,rv,rw⟩:=l.two;erw[yar,yd3]at e;split at e
 .cases e
  erw[yd]at rv rw;subst rv rw;exact ziN hc pins s σ H _ us Q I r ⟨_,_,rfl,q _ H φ .rfl rs (by erw[yd])⟩
 .cases e
theorem zkI:∀{vs:List PV} {m:Int},ydz vs=AA m->∃ns:List Int,vs=ns.map .int/\m∈ns/\∀a∈ns,a<=m
 |[],m,h=>by cases h
 |[.int i],m,h=>by cases h;exact⟨[i],rfl,by simp,by simp⟩
 |.int i::w::r,m,h=>by
  erw[ydz]at h;split at h
  .rename_i c e
   cases h
   let⟨ns,e1,e2,e3⟩:=zkI e;refine⟨i::ns,by rw[e1];rfl,?_,λa ha=>?_⟩
   .split
    .exact AX _ e2
    .exact BG
   .rcases A3.mp ha with rfl|ha
    .split<;>lia
    .have:=e3 a ha;split<;>lia
  .cases h
 |.non::r,m,h=>by cases r<;>cases h
 |.bl _::r,m,h=>by cases r<;>cases h
 |.str _::r,m,h=>by cases r<;>cases h
 |.tp _ _::r,m,h=>by cases r<;>cases h
 |.lst _::r,m,h=>by cases r<;>cases h
 |.loc _::r,m,h=>by cases r<;>cases h
 |.exn _::r,m,h=>by cases r<;>cases h
 |.scr _::r,m,h=>by cases r<;>cases h
theorem ye.ints:∀{ns:List Int} {xs:List V},ye K cl B φ H (ns.map .int) xs->xs=ns.map V.int
 |[],xs,h=>by simpa only[Aa,ye] using h
 |n::ns,xs,h=>by
  erw[AL,ye]at h;let⟨y,ys,rfl,r,l⟩:=h;erw[yd]at r;rw[r,ye.ints l];rfl
theorem ye.bls:∀{ns:List Bool} {xs:List V},ye K cl B φ H (ns.map .bl) xs->xs=ns.map V.bl
 |[],xs,h=>by simpa only[Aa,ye] using h
 |n::ns,xs,h=>by
  erw[AL,ye]at h;let⟨y,ys,rfl,r,l⟩:=h;erw[yd]at r;rw[r,ye.bls l];rfl
theorem zkU{v w z:PV}(e:maxV v w=AA z):∃i j,v=.int i/\w=.int j/\z=.int (if i<j then j else i):=by
 unfold maxV at e;split at e
 .exact⟨_,_,rfl,rfl,(AY e).symm⟩
 .cases e
theorem zoI(hc:X.calm=AB):yae X (.builtin "max") (rB S X .max):=by
 rintro pins s σ H xs us Q I r ⟨B,φ,st,vs,z,rs,l,e,q⟩
 rcases vs with _|⟨v,_|⟨w,_|⟨u',t⟩⟩⟩
 .simp[yar]at e
 .let⟨x,rfl,rv⟩:=l.one;erw[yar]at e
  cases e1:yad st v with
  |none=>rw[e1]at e;cases e
  |some ws=>
   rw[e1]at e;erw[Bg]at e
   cases e2:ydz ws with
   |none=>rw[e2]at e;cases e
   |some m=>
    rw[e2]at e;obtain rfl:=AY e;let⟨ns,rfl,hm,hb⟩:=zkI e2;let⟨a,ys,rfl,h,l⟩:=zde rs rv e1;rw[l.ints]at h;refine ziO hc pins s σ H _ us Q I r ⟨a,ns,rfl,h,List.length_pos_of_mem hm,λM h1 h2=>?_⟩;have:M=m:=by
     have:=hb M h1;have:=h2 m hm;lia
    subst this;exact q _ H φ .rfl rs (by erw[yd])
 .let⟨x,y,rfl,rv,rw⟩:=l.two;have e:maxV v w=AA z:=e;let⟨i,j,rfl,rfl,rfl⟩:=zkU e;erw[yd]at rv rw;subst rv rw;exact ziM hc pins s σ H _ us Q I r ⟨i,j,rfl,q (.int (if i<j then j else i)) H φ .rfl rs (by erw[yd])⟩
 .simp[yar]at e
theorem ziY:yae X (.type "tuple") (rB S X .tuple):=by
 rintro pins s σ H xs us Q I r ⟨B,φ,st,vs,z,rs,l,e,q⟩
 let⟨v,rfl⟩:=zck e λ_ _=>rfl;let⟨x,rfl,rv⟩:=l.one;erw[yar,yeH]at e;split at e
 .cases e
  erw[yd]at rv;let⟨a,ys,rfl,rt,l⟩:=rv;exact zcd pins s σ H _ us Q I r ⟨a,ys,rfl,.inr ⟨rt.sq,q _ H φ .rfl rs (by erw[yd];exact⟨a,ys,rfl,rt,l⟩)⟩⟩
 .cases e1:yad st v with
  |none=>rw[e1]at e;cases e
  |some ws=>
   rw[e1]at e
   cases e
   let⟨a,ys,rfl,h,l⟩:=zde rs rv e1;exact zcd pins s σ H _ us Q I r ⟨a,ys,rfl,.inl ⟨h,λt ht=>q _ _ φ (.upd ht) (rs.upd ht) (.tup_new ht rs l)⟩⟩
theorem zkq:∀{vs:List PV} {m:Bool},IC.allB vs=AA m->∃ns:List Bool,vs=ns.map .bl/\m=ns.all id
 |[],m,h=>by cases h;exact⟨[],rfl,rfl⟩
 |.bl i::r,m,h=>by
  erw[IC.allB]at h;split at h
  .rename_i c e
   cases h
   let⟨ns,e1,e2⟩:=zkq e;exact⟨i::ns,by rw[e1];rfl,by rw[e2];rfl⟩
  .cases h
 |.non::r,m,h=>by cases h
 |.int _::r,m,h=>by cases h
 |.str _::r,m,h=>by cases h
 |.tp _ _::r,m,h=>by cases h
 |.lst _::r,m,h=>by cases h
 |.loc _::r,m,h=>by cases h
 |.exn _::r,m,h=>by cases h
 |.scr _::r,m,h=>by cases h
theorem zoJ(hc:X.calm=AB):yae X (.builtin "all") (rB S X .all):=by
 rintro pins s σ H xs us Q I r ⟨B,φ,st,vs,z,rs,l,e,q⟩
 let⟨v,rfl⟩:=zck e λ_ _=>rfl;let⟨x,rfl,rv⟩:=l.one;erw[yar]at e
 cases e1:yad st v with
 |none=>rw[e1]at e;cases e
 |some ws=>
  rw[e1]at e;erw[Bg]at e
  cases e2:IC.allB ws with
  |none=>rw[e2]at e;cases e
  |some m=>
   rw[e2]at e
   cases e
   let⟨ns,rfl,rfl⟩:=zkq e2;let⟨a,ys,rfl,h,l⟩:=zde rs rv e1;rw[l.bls]at h;exact zjR hc pins s σ H _ us Q I r ⟨a,ns,rfl,h,q _ H φ .rfl rs (by erw[yd])⟩
variable {x:AQ}{id T:String}{k:Blt}
theorem zn5(hc:yae X (.builtin id) (rB S X k))(hg:Gl X x)(hm:X.mg x=AD)(hv:bootBuiltins x=AA (.builtin id))(ha:PA X (a::es) (tAs S X ces))(hn:x ≠ "__name__":=by decide)(hdb:(x==("__debug__":AQ))=false:=by decide)
  (he:starEach (a::es) X.env=(AC,eval a X.env)::starEach es X.env:=by rfl) (hpl:(backTo pos (starEach es X.env)).any (·.1)=false:=by rfl):PE X (.Call (.Name x p) (a::es) [] pos) (tE S X (.blt k ces)):=
 (zfJ hc hg hm hv ha hn hdb he hpl).imp λσ H Q ⟨B,φ,st,ρ,rs,re,h⟩=>by
  erw[ev]at h;refine tAs.bind rs re h λxs H1 vs st1 φ1 s1 rs1 re1 rv h1=>?_;let⟨z,e,q⟩:=zac h1 rs1;exact⟨B,φ1,st1,vs,z,rs1,rv,e,q⟩
theorem zmp(hc:yae X (.type T) (rB S X k))(hg:Gl X x)(hm:X.mg x=AD)(hv:bootBuiltins x=AA (.type T))(ha:PA X (a::es) (tAs S X ces))(hn:x ≠ "__name__":=by decide)(hdb:(x==("__debug__":AQ))=false:=by decide)
  (he:starEach (a::es) X.env=(AC,eval a X.env)::starEach es X.env:=by rfl) (hpl:(backTo pos (starEach es X.env)).any (·.1)=false:=by rfl):PE X (.Call (.Name x p) (a::es) [] pos) (tE S X (.blt k ces)):=
 (zhP hc hg hm hv ha hn hdb he hpl).imp λσ H Q ⟨B,φ,st,ρ,rs,re,h⟩=>by
  erw[ev]at h;refine tAs.bind rs re h λxs H1 vs st1 φ1 s1 rs1 re1 rv h1=>?_;let⟨z,e,q⟩:=zac h1 rs1;exact⟨B,φ1,st1,vs,z,rs1,rv,e,q⟩
end
section
variable {S:Se}{X:Cx}{σ:St}{B:AI->Prop}{φ φ1:Ph}{H H1:Hp}{st:SO}{ρ:IC.Env}{p pos p2 apos:CJ}{a b c d:AT}{ca cb cc:Ce}{es:List AT}{ces:Ces}{K:AE}{cl:Nat->AI}
theorem Step.put{l:AI}{u:HO}(hl:AA l∈φ):Step φ H φ (L2.upd H l u):=
 ⟨λb o n e=>by rw[zh (show b≠l from λz=>n (by rw[z];exact hl))];exact e,AU _,λ_ _ _ e=>e,λ_ h=>.inl h⟩
theorem yx.put{n:Nat}{l:AI}{u:HO}{o:Ob}(rs:yx K cl B φ H st)(hn:φ[n]?=AA (AA l))(ho:ych K cl B φ (L2.upd H l u) o l):yx K cl B φ (L2.upd H l u) (st.set n o):=by
 have hm:AA l∈φ:=A2 hn;have s:Step φ H φ (L2.upd H l u):=.put hm;have hlt:n<st.length:=by rw[<-rs.len];exact(BK.mp hn).1
 refine⟨by rw[B1];exact rs.len,rs.inj,λm a e=>?_,λm o' e ho'=>?_,rs.nb,λa h=>?_⟩
 .by_cases hmn:m=n
  .subst hmn;rw[hn]at e;cases e;exact⟨o,by rw[A9 hlt],ho⟩
  .let⟨o',q,r⟩:=rs.obj m a e;refine⟨o',by rw[AO (BL hmn)];exact q,r.step s ?_⟩;rw[zh]
   rintro rfl
   exact hmn (rs.inj m n a e hn)
 .by_cases hmn:m=n
  .subst hmn;exact⟨l,hn⟩
  .rw[AO (BL hmn)]at e;exact rs.liv m o' e ho'
 .let⟨w,e⟩:=rs.dom a h
  by_cases z:a=l
  .subst z;exact⟨u,zr⟩
  .exact⟨w,by rw[zh z];exact e⟩
theorem ybZ:1000000<=sizeLine:=by rw[D1];decide
theorem zhN{m:Mth}{v:PV}{st:SO}{α β:Type}{Rel:Ph->Hp->α->β->Prop}{k:Bool->R α}{Q:β->Hp->Prop}(h:Run S X σ B φ H Rel (onO (yaL m st v) k) Q):∃b,yaL m st v=AA b/\Run S X σ B φ H Rel (k b) Q:=by
 cases e:yaL m st v with
 |none=>rw[e]at h;exact h.elim
 |some z=>rw[e]at h;exact⟨z,rfl,h⟩
theorem zg2(ha:PE X a (tE S X ca))(hb:PE X b (tE S X cb))(hs:starEach [b] X.env=[(AC,eval b X.env)]:=by rfl)(hbase:attributeBase a "append" X.env (eval a X.env)=eval a X.env:=by rfl)(hline:(apos.endLine==pos.line)=true:=by rfl)
  (hfew:((backTo pos (starEach [b] X.env)).all (λx=>!x.1)&&(backToKw pos (keywordEach [] X.env)).all (λx=>x.1.isSome)&&decide (([b]:List AT).length+([]:List CQ).length+(if ([]:List CQ).isEmpty then 0 else 1)<30))=true:=by rfl):
  PE X (.Call (.Attribute a "append" apos) [b] [] pos) (tE S X (.mth .append ca (.cons cb .nil))):=
 (zpp PySem.F.plainAttrs_list FC PySem.F.type_list_append ze9 ha (zd4 (S:=S) hb ziP hs) hbase hfew hline hs rfl).imp λσ H Q ⟨B,φ,st,ρ,rs,re,h⟩=>by
  erw[ev]at h;refine tE.bind rs re h λx H1 v st1 φ1 s1 rs1 re1 rv h1=>?_;let⟨_,e1,h1⟩:=zhN h1;have t1:∃ws,yad st1 v=AA ws:=by
   erw[yaL]at e1
   cases q:yad st1 v with
   |none=>rw[q]at e1;cases e1
   |some ws=>exact⟨ws,rfl⟩
  let⟨ws,t1⟩:=t1;let⟨l,xs,rfl,hl,_⟩:=zde rs1 rv t1;refine⟨.inl ⟨rfl,xs,hl⟩,tAs.bind rs1 re1 h1 λys H2 vs st2 φ2 s2 rs2 re2 rvs h2=>?_⟩;have rv2:=rv.step s2;rcases vs with _|⟨w,_|⟨w',t⟩⟩
  .exact h2.elim
  .let⟨y,rfl,rw⟩:=rvs.one;unfold ycg at h2;erw[ydM]at h2;split at h2
   .rename_i n;split at h2
    .rename_i zs hz;split at h2
     .rename_i c;let⟨l',xs',e,hn,hx,lr⟩:=rs2.list rv2 hz
      cases e
      refine⟨l,xs',y,rfl,rfl,hx,by have:=ybZ;have:=lr.length;lia,?_⟩;exact h2 _ _ φ2 (.put (A2 hn)) (rs2.put hn ⟨_,zr,(lr.append (by erw[ye];exact⟨y,[],rfl,rw,rfl⟩)).step (.put (A2 hn))⟩) (by erw[yd])
     .exact h2.elim
    .exact h2.elim
   .exact h2.elim
  .exact h2.elim
theorem zoG(ha:PE X a (tE S X ca)):PE X a (tE S X (.frz ca)):=
 ha.imp λσ H Q ⟨B,φ,st,ρ,rs,re,h⟩=>by
  erw[ev]at h;refine tE.bind rs re h λx H1 v st1 φ1 s1 rs1 re1 rv h1=>?_;unfold ydt at h1;split at h1
  .rename_i n;split at h1
   .rename_i vs hv;let⟨l,xs,rfl,hn,hx,lr⟩:=rs1.list rv hv;have hm:AA l∈φ1:=A2 hn;have hlt:n<φ1.length:=(BK.mp hn).1;have nl:AA l∉φ1.set n none:=λz=>by
     let⟨m,e⟩:=DP.mp z
     by_cases hmn:m=n
     .subst hmn;rw[A9 hlt]at e;cases e
     .rw[AO (BL hmn)]at e;exact hmn (rs1.inj m n l e hn)
    have sb:∀b,AA b∈φ1.set n AD->AA b∈φ1:=λb z=>by
     let⟨m,e⟩:=DP.mp z
     by_cases hmn:m=n
     .subst hmn;rw[A9 hlt]at e;cases e
     .rw[AO (BL hmn)]at e;exact A2 e
    have s:Step φ1 H1 (φ1.set n AD) H1:=⟨λ_ _ _ e=>e,by simp,λm a hm' e=>by
     by_cases hmn:m=n
     .subst hmn;rw[A9 hlt]at e;cases e
     .rw[AO (BL hmn)]at e;exact e,λb z=>.inl (sb b z)⟩
    refine h1 _ H1 (φ1.set n AD) s ⟨by simp[rs1.len],λm k a e1 e2=>?_,λm a e=>?_,λm o e ho=>?_,λa z=>rs1.nb a (sb a z),rs1.dom⟩ ?_
    .by_cases h1':m=n
     .subst h1';rw[A9 hlt]at e1;cases e1
     .by_cases h2':k=n
      .subst h2';rw[A9 hlt]at e2;cases e2
      .rw[AO (BL h1')]at e1;rw[AO (BL h2')]at e2;exact rs1.inj m k a e1 e2
    .by_cases hmn:m=n
     .subst hmn;rw[A9 hlt]at e;cases e
     .rw[AO (BL hmn)]at e;let⟨o,q,r⟩:=rs1.obj m a e;exact⟨o,by rw[AO (BL hmn)];exact q,r.step s rfl⟩
    .by_cases hmn:m=n
     .subst hmn;rw[A9 (by rw[<-rs1.len];exact hlt)]at e;cases e;exact absurd rfl ho
     .rw[AO (BL hmn)]at e ⊢;exact rs1.liv m o e ho
    .simp only[yd];exact⟨l,xs,rfl,⟨hx,rs1.nb l hm,nl⟩,lr.step s⟩
   .exact h1.elim
  .exact h1.ok rs1 rv
end
section
variable (S:Se)(X:Cx)
def yaE(B:AI->Prop)(φ:Ph)(H:Hp)(f:Fl)(D:Ends):Prop:=
 match f with
 |.nx ρ' st'=>∀σ' H' φ',Step φ H φ' H'->yx X.K S.cl B φ' H' st'->yL X.K S.cl B φ' H' ρ' σ'->D.nx σ' H'
 |.rt v st'=>∀x H' φ',Step φ H φ' H'->yx X.K S.cl B φ' H' st'->yd X.K S.cl B φ' H' v x->D.rt x H'
 |.bk ρ' st'=>∀σ' H' φ',Step φ H φ' H'->yx X.K S.cl B φ' H' st'->yL X.K S.cl B φ' H' ρ' σ'->D.bk σ' H'
 |.ct ρ' st'=>∀σ' H' φ',Step φ H φ' H'->yx X.K S.cl B φ' H' st'->yL X.K S.cl B φ' H' ρ' σ'->D.ct σ' H'
 |.exc k ρ' st'=>∀σ' φ1 H1 e s',Step φ H φ1 H1->yL X.K S.cl B φ1 H1 ρ' σ'->ExcAt S X σ' B φ1 H1 k st' e s'->X.xe e s'
 |.bad=>False
def tS(c:Cs):TS:=λD σ H=>∃B φ st ρ,yx X.K S.cl B φ H st/\yL X.K S.cl B φ H ρ σ/\yaE S X B φ H (ex S.call ρ st c) D
def tSs(c:Css):TS:=λD σ H=>∃B φ st ρ,yx X.K S.cl B φ H st/\yL X.K S.cl B φ H ρ σ/\yaE S X B φ H (exs S.call ρ st c) D
end
section
variable {S:Se}{X:Cx}{σ:St}{B:AI->Prop}{φ φ1:Ph}{H H1:Hp}{st:SO}{ρ:IC.Env}{D:Ends}{pos p2 px:CJ}{a b c o:AT}{ca cb cc:Ce}{s1:Bp}{ss ss':List Bp}{c1:Cs}{cs cs':Css}
theorem yaE.on{f:Fl}(s:Step φ H φ1 H1)(h:yaE S X B φ H f D):yaE S X B φ1 H1 f D:=by
 cases f with
 |nx ρ st=>exact λσ' H' φ' t=>h σ' H' φ' (s.trans t)
 |rt ρ st=>exact λσ' H' φ' t=>h σ' H' φ' (s.trans t)
 |bk ρ st=>exact λσ' H' φ' t=>h σ' H' φ' (s.trans t)
 |ct ρ st=>exact λσ' H' φ' t=>h σ' H' φ' (s.trans t)
 |exc k ρ st=>exact λσ' φ2 H2 e s' t=>h σ' φ2 H2 e s' (s.trans t)
 |bad=>exact h
theorem tE.fl{k:PV->SO->Fl}{P:V->Hp->Prop}(rs:yx X.K S.cl B φ H st)(re:yL X.K S.cl B φ H ρ σ)(h:yaE S X B φ H ((ev S.call ρ st ca).fl ρ k) D)
  (n:∀x H1 v st1 φ1,Step φ H φ1 H1->yx X.K S.cl B φ1 H1 st1->yL X.K S.cl B φ1 H1 ρ σ->yd X.K S.cl B φ1 H1 v x->yaE S X B φ1 H1 (k v st1) D->P x H1):tE S X ca σ H P:=by
 refine⟨B,φ,st,ρ,rs,re,?_⟩
 cases e:ev S.call ρ st ca with
 |ok v st'=>
  rw[e]at h;exact λx H' φ' s rs' rv=>n x H' v st' φ' s rs' (re.step s) rv (h.on s)
 |exc k st'=>
  rw[e]at h;exact λe s' x=>h σ φ H e s' .rfl re x
 |bad=>rw[e]at h;exact h
theorem PS.imp{t t':TS}(h:PS X s1 t')(k:∀D σ H,t D σ H->t' D σ H):PS X s1 t:=λpins s σ H D I q=>h pins s σ H D I (k D σ H q)
theorem PSs.imp{t t':TS}(h:PSs X ss t')(k:∀D σ H,t D σ H->t' D σ H):PSs X ss t:=λpins s σ H D I q=>h pins s σ H D I (k D σ H q)
theorem yL.set{K:AE}{cl:Nat->AI}(r:yL K cl B φ H ρ σ)(i:Nat){v:PV}{x:V}(rv:yd K cl B φ H v x):yL K cl B φ H (ρ.set i (AA v)) (σ.set i (AA x)):=by
 refine⟨by rw[B1,B1];exact r.len,λj w e=>?_⟩
 by_cases h:j=i
 .subst h
  by_cases hl:j<ρ.length
  .rw[A9 hl]at e
   cases e
   exact⟨x,by rw[A9 (by rw[<-r.len];exact hl)],rv⟩
  .rw[BU (by rw[B1];lia)]at e
   cases e
 .rw[AO (BL h)]at e ⊢;exact r.get j w e
theorem zoL:PSs X [] (tSs S X .nil):=ycH.imp λD σ H ⟨B,φ,st,ρ,rs,re,h⟩=>by
 erw[exs]at h;exact h σ H φ .rfl rs re
theorem zlm(h1:PS X s1 (tS S X c1))(h2:PSs X ss (tSs S X cs)):PSs X (s1::ss) (tSs S X (.cons c1 cs)):=
 (zfK h1 h2).imp λD σ H ⟨B,φ,st,ρ,rs,re,h⟩=>by
  erw[exs]at h;refine⟨B,φ,st,ρ,rs,re,?_⟩
  cases e:ex S.call ρ st c1 with
  |nx ρ1 st1=>
   rw[e]at h;exact λσ' H' φ' s rs' re'=>⟨B,φ',st1,ρ1,rs',re',h.on s⟩
  |rt v st1=>rw[e]at h;exact h
  |bk ρ1 st1=>rw[e]at h;exact h
  |ct ρ1 st1=>rw[e]at h;exact h
  |exc k ρ1 st1=>rw[e]at h;exact h
  |bad=>rw[e]at h;exact h
theorem zlR(he:PE X a (tE S X ca))(hs:swapsWith a AD pos.line X.env=pure false:=by rfl):PS X (.Expr a pos) (tS S X (.expr ca)):=
 (zlJ he hs).imp λD σ H ⟨B,φ,st,ρ,rs,re,h⟩=>by
  erw[ex]at h;exact tE.fl rs re h λx H1 v st1 φ1 s rs1 re1 rv h1=>h1 σ H1 φ1 .rfl rs1 re1
theorem zoR(he:PE X a (tE S X ca)):PS X (.Return (AA a) pos) (tS S X (.ret ca)):=
 (zkw he).imp λD σ H ⟨B,φ,st,ρ,rs,re,h⟩=>by
  erw[ex]at h;exact tE.fl rs re h λx H1 v st1 φ1 s rs1 re1 rv h1=>h1 x H1 φ1 .rfl rs1 rv
theorem zly:PS X (.Return AD pos) (tS S X (.ret (.cst .non))):=
 ycS.imp λD σ H ⟨B,φ,st,ρ,rs,re,h⟩=>by
  erw[ex,ev,R.fl]at h;exact h .non H φ .rfl rs (by erw[yd])
theorem zoM{i:Nat}{x:AQ}(hN:X.N.Nodup)(hi:X.N[i]?=AA x)(hx:Loc X.env.scope x)(he:PE X a (tE S X ca))(hs:swapsWith a (AA (.Name x px)) pos.line X.env=pure false:=by rfl)
  (hf:X.fn x=AB \/ X.env.scope.names.lookup x=AA .local:=by first|exact .inl rfl|exact .inr rfl|assumption):PS X (.Assign [.Name x px] a pos) (tS S X (.asg (.n i) ca)):=
 (zkz hN hi hx he hs hf).imp λD σ H ⟨B,φ,st,ρ,rs,re,h⟩=>by
  erw[ex]at h;exact tE.fl rs re h λx H1 v st1 φ1 s rs1 re1 rv h1=>h1 _ H1 φ1 .rfl rs1 (re1.set i rv)
theorem flT(r:R PV)(f:Bool->SO->Fl):(r.fl ρ λx st1=>onF (yaM st1 x) λk=>f k st1)=(ya6 r).fl ρ f:=by
 cases r with
 |ok v s=>
  erw[R.fl,ya6,R.bind]
  cases yaM s v<;>rfl
 |exc c s=>rfl
 |bad=>rfl
theorem tTs.fl{k:Bool->SO->Fl}{P:Bool->Hp->Prop}(rs:yx X.K S.cl B φ H st)(re:yL X.K S.cl B φ H ρ σ)(h:yaE S X B φ H ((ya6 (ev S.call ρ st ca)).fl ρ k) D)
  (n:∀b H1 st1 φ1,Step φ H φ1 H1->yx X.K S.cl B φ1 H1 st1->yL X.K S.cl B φ1 H1 ρ σ->yaE S X B φ1 H1 (k b st1) D->P b H1):tTs S X ca σ H P:=by
 refine⟨B,φ,st,ρ,rs,re,?_⟩
 cases e:ya6 (ev S.call ρ st ca)with
 |ok v st'=>
  rw[e]at h;exact λx H' φ' s rs' rv=>by
   subst rv;exact n v H' st' φ' s rs' (re.step s) (h.on s)
 |exc k st'=>
  rw[e]at h;exact λe s' x=>h σ φ H e s' .rfl re x
 |bad=>rw[e]at h;exact h
theorem zpb(hc:PT X c (tTs S X cc))(ha:PSs X ss (tSs S X cs))(hb:PSs X ss' (tSs S X cs')):PS X (.If c ss ss' pos) (tS S X (.ite cc cs cs')):=
 (zpm hc ha hb).imp λD σ H ⟨B,φ,st,ρ,rs,re,h⟩=>by
  erw[ex]at h;rw[flT _ λk st1=>cond k (exs S.call ρ st1 cs) (exs S.call ρ st1 cs')]at h;refine tTs.fl rs re h λk H1 st1 φ1 s rs1 re1 h1=>?_
  cases k with
  |true=>exact⟨B,φ1,st1,ρ,rs1,re1,h1⟩
  |false=>exact⟨B,φ1,st1,ρ,rs1,re1,h1⟩
theorem znU{i:Nat}{x:AQ}{op:D0}{bo:BOp}(hN:X.N.Nodup)(hi:X.N[i]?=AA x)(hx:Loc X.env.scope x)(he:PE X a (tE S X ca))(ho:PIp X op (rT2 S X (ybP bo)))
  (hf:X.fn x=AB \/ X.env.scope.names.lookup x=AA .local:=by first|exact .inl rfl|exact .inr rfl|assumption) (hd:(x==("__debug__":AQ))=false:=by decide) (hcd:(x==("__classdict__":AQ))=false:=by decide):PS X (.AugAssign (.Name x px) op a pos) (tS S X (.aug i bo ca)):=
 (zkN hN hi hx he ho hf).imp λD σ H ⟨B,φ,st,ρ,rs,re,h⟩=>by
  erw[ex]at h
  cases q:ρ[i]? with
  |none=>rw[q]at h;exact h.elim
  |some w=>
   cases w with
   |none=>rw[q]at h;exact h.elim
   |some w=>
    rw[q]at h;let⟨y,hy,rw⟩:=re.get i w q;refine⟨y,hy,tE.fl rs re h λz H1 v st1 φ1 s rs1 re1 rv h1=>?_⟩
    cases e:ybP bo w v with
    |none=>rw[e]at h1;exact h1.elim
    |some u=>
     rw[e]at h1;exact⟨B,φ1,st1,w,v,u,rs1,rw.step s,rv,e,λz' H' φ' s' rs' rz=>h1 _ H' φ' s' rs' ((re1.step s').set i rz)⟩
end
section
variable (S:Se)(X:Cx)
structure Drw(B:AI->Prop)(φ0:Ph)(H0:Hp)(xs:List PV)(J:It):Prop where
 stop:∀φ H,Step φ0 H0 φ H->J.stop xs.length H
 go:∀(i:Nat) φ H,Step φ0 H0 φ H->i<xs.length->J.go i H
 yld:∀(i:Nat) φ H st x H' (B':AI->Prop),(∀y,B' y->B y \/ H0 y=AD)->Step φ0 H0 φ H->yx X.K S.cl B' φ H st->i<xs.length->J.yld i H x H'->∃v,xs[i]?=AA v/\yd X.K S.cl B' φ H' v x/\∀b o,H b=AA o->H' b=AA o
noncomputable abbrev RD(B:AI->Prop):Ph->Hp->List PV->It->Prop:=λφ H=>Drw S X B φ H
def tI(c:Cit):TI:=λσ H R=>∃B φ st ρ,yx X.K S.cl B φ H st/\yL X.K S.cl B φ H ρ σ/\Run S X σ B φ H (RD S X B) (evi S.call ρ st c) R
end
section
variable {S:Se}{X:Cx}{σ:St}{B:AI->Prop}{φ φ1:Ph}{H H1:Hp}{st:SO}{ρ:IC.Env}{D:Ends}{pos p p2 px:CJ}{a b c o tg l:AT}{ca cb cc:Ce}{es:List AT}{ces:Ces}{ss:List Bp}{cs:Css}{ci:Cit}{ct:Tg}
theorem zmt:PE X a (tE S X .nope):=λpins s σ H Q I ⟨B,φ,st,ρ,rs,re,h⟩=>by
 erw[ev]at h;exact h.elim
theorem zkS{s1:Bp}:PS X s1 (tS S X .nope):=λpins s σ H D I ⟨B,φ,st,ρ,rs,re,h⟩=>by
 erw[ex]at h;exact h.elim
theorem PI.imp{t t':TI}(h:PI X tg l t')(k:∀σ H R,t σ H R->t' σ H R):PI X tg l t:=λpins s σ H R I q=>h pins s σ H R I (k σ H R q)
theorem zoW{tl:TE}(hl:PE X l tl):PI X tg l (λσ H R=>tl σ H λx H1=>∃a,x=.ref a/\(((∃xs,SqL X.K H1 a xs)/\R (Itl X.K a) H1) \/ ((∃xs,SqT X.K H1 a xs)/\R (Itt X.K a) H1))):=by
 intro pins s σ H R I h;refine thn (hl pins s σ H _ I h) λv s1 kq=>?_;let⟨x,H1,I1,r1,q1⟩:=kq;let⟨a,e,q1⟩:=q1;subst e
 cases r1
 rcases q1 with⟨⟨xs,hq⟩,q⟩|⟨⟨xs,hq⟩,q⟩
 .let⟨its,rv,p,hz⟩:=I1.list hq;refine EM p.isList ?_;refine⟨s1.heap.objs.size,[s1.heap.objs.size],_,_,H1,rfl,I1.kept (t':=s1.toks) λb o e=>AR _ e,ziI a _,⟨_,A0 _ rfl,rfl,rfl⟩,λb hb=>?_,q⟩;have e:b=s1.heap.objs.size:=by simpa using hb
  subst e;exact I1.fpOk (AU _) (I1.hok.fresh (AU _))
 .let⟨its,rv,p,hz⟩:=I1.tuple hq;refine Bm (show s1.heap.IsTuple a its.toArray from p) ?_;refine⟨s1.heap.objs.size,[s1.heap.objs.size],_,_,H1,rfl,I1.kept (t':=s1.toks) λb o e=>AR _ e,zgO a _,⟨_,A0 _ rfl,rfl,rfl⟩,λb hb=>?_,q⟩;have e:b=s1.heap.objs.size:=by simpa using hb
  subst e;exact I1.fpOk (AU _) (I1.hok.fresh (AU _))
theorem zma{k:Bool}{vs:List PV}{xs:List V}{y:AI}(rt:ybM X.K B φ H k y xs)(l:ye X.K S.cl B φ H vs xs):Drw S X B φ H vs (Itt X.K y):=by
 have hl:=l.length;refine⟨λφ' H' s=>⟨xs,(rt.step s).sq,by lia⟩,λi φ' H' s hi=>⟨xs,xs[i]'(by lia),(rt.step s).sq,by simp[show i<xs.length by lia]⟩,λi φ' H' st x H2 B' hB s rs hi q=>?_⟩;let⟨rfl,q⟩:=q;obtain⟨v,hv⟩:∃v,vs[i]?=AA v:=⟨vs[i],by simp[hi]⟩;let⟨x',hx',rv⟩:=l.get i hv;have:=q xs (rt.step s).sq;rw[this]at hx'
 cases hx'
 exact⟨v,hv,(rv.moreB hB).step s,λ_ _ e=>e⟩
theorem zkZ{vs:List PV}{xs:List V}{y:AI}(rt:ycD B φ H y xs)(l:ye X.K S.cl B φ H vs xs):Drw S X B φ H vs (Itl X.K y):=by
 have hl:=l.length;refine⟨λφ' H' s=>⟨xs,(rt.step s).sq,by lia⟩,λi φ' H' s hi=>⟨xs,xs[i]'(by lia),(rt.step s).sq,by simp[show i<xs.length by lia]⟩,λi φ' H' st x H2 B' hB s rs hi q=>?_⟩;let⟨rfl,q⟩:=q;obtain⟨v,hv⟩:∃v,vs[i]?=AA v:=⟨vs[i],by simp[hi]⟩;let⟨x',hx',rv⟩:=l.get i hv;have:=q xs (rt.step s).sq;rw[this]at hx'
 cases hx'
 exact⟨v,hv,(rv.moreB hB).step s,λ_ _ e=>e⟩
theorem zoh(hl:PE X l (tE S X ca)):PI X tg l (tI S X (.seq ca)):=
 (zoW hl).imp λσ H R ⟨B,φ,st,ρ,rs,re,h⟩=>by
  erw[evi]at h;refine tE.bind rs re h λx H1 v st1 φ1 s1 rs1 re1 rv h1=>?_
  cases v with
  |tp k vs=>
   erw[yd]at rv;let⟨y,xs,rfl,rt,l⟩:=rv;exact⟨y,rfl,.inr ⟨⟨xs,rt.sq⟩,h1.ok rs1 (zma rt l)⟩⟩
  |lst vs=>
   erw[yd]at rv;let⟨y,xs,rfl,rt,l⟩:=rv;exact⟨y,rfl,.inl ⟨⟨xs,rt.sq⟩,h1.ok rs1 (zkZ rt l)⟩⟩
  |_=>exact h1.elim
theorem zdR:∀(n:Nat) (lo d:Int) (i:Nat),(yp n lo d)[i]?=if i<n then AA (.int (lo+i*d))else AD
 |0,lo,d,i=>by simp[yp]
 |n+1,lo,d,0=>by simp[yp]
 |n+1,lo,d,i+1=>by
  erw[yp,AM];rw[zdR n (lo+d) d i]
  by_cases h:i<n
  .rw[if_pos h,if_pos (by lia),Int.natCast_succ,EO,CZ,Int.add_assoc,Dl d]
  .rw[if_neg h,if_neg (by lia)]
theorem zbi:∀(n:Nat) (lo d:Int),(yp n lo d).length=n
 |0,lo,d=>rfl
 |n+1,lo,d=>by simp[yp,zbi n]
theorem zih{lo:Int}{n:Nat}:Drw S X B φ H (yp n lo 1) (Itr lo n):=by
 refine⟨λφ' H' s=>by rw[zbi];exact AU _,λi φ' H' s hi=>by rw[zbi]at hi;exact hi,λi φ' H' st x H2 B' hB s rs hi q=>?_⟩;rw[zbi]at hi;let⟨rfl,rfl⟩:=q;refine⟨.int (lo+i),?_,by erw[yd],λ_ _ e=>e⟩;rw[zdR,if_pos hi,CW]
theorem zhH{o:Option (List PV)}{st:SO}{Q:It->Hp->Prop}(h:Run S X σ B φ H (RD S X B) (toL o st) Q):∃xs,o=AA xs/\Run S X σ B φ H (RD S X B) (.ok xs st) Q:=by
 cases o with
 |none=>exact h.elim
 |some z=>exact⟨z,rfl,h⟩
theorem ziH(hg:Gl X "range")(hm:X.mg "range"=AD)(ha:PE X a (tE S X ca))(hs:starEach [a] X.env=[(AC,eval a X.env)]:=by rfl):PI X tg (.Call (.Name "range" p) [a] [] pos) (tI S X (.range1 ca)):=
 (zhn hg hm (zby ha ybm hs) hs).imp λσ H R ⟨B,φ,st,ρ,rs,re,h⟩=>by
  erw[evi]at h;refine tE.bind rs re h λx H1 v st1 φ1 s1 rs1 re1 rv h1=>?_;let⟨xs,e,h1⟩:=zhH h1
  cases v with
  |int j=>
   erw[ybL]at e;split at e
   .cases e
    erw[yd]at rv;subst rv;exact⟨j,rfl,by lia,by lia,h1.ok rs1 zih⟩
   .cases e
  |_=>cases e
theorem zc1:∀(xs:List PV) (k i:Nat),(yaa k xs)[i]?=(xs[i]?).map λx=>.tup [.int ((k+i:Nat):Int),x]
 |[],k,i=>by simp[yaa]
 |x::xs,k,0=>by simp[yaa]
 |x::xs,k,i+1=>by
  erw[yaa,AM];rw[zc1 xs (k+1) i];have:k+1+i=k+(i+1):=by lia
  rw[this]
theorem zcY:∀(xs:List PV) (k:Nat),(yaa k xs).length=xs.length
 |[],k=>rfl
 |x::xs,k=>by simp[yaa,zcY xs]
theorem zjf{k:Bool}{vs:List PV}{xs:List V}{y:AI}(rt:ybM X.K B φ H k y xs)(l:ye X.K S.cl B φ H vs xs):Drw S X B φ H (yaa 0 vs) (Ite X.K y):=by
 have hl:=l.length;have hp:=zcY vs 0;refine⟨λφ' H' s=>⟨xs,(rt.step s).sq,by lia⟩,λi φ' H' s hi=>⟨xs,xs[i]'(by lia),(rt.step s).sq,by simp[show i<xs.length by lia]⟩,λi φ' H' st x H2 B' hB s rs hi q=>?_⟩;let⟨T,hT,rfl,q⟩:=q;obtain⟨v,hv⟩:∃v,vs[i]?=AA v:=⟨vs[i]'(by lia),by simp[show i<vs.length by lia]⟩;let⟨x',hx',rv⟩:=l.get i hv;have e:=q xs x' (rt.step s).sq hx';subst e;refine⟨.tup [.int i,v],?_,.tup_new hT rs ?_,λb o e=>by rw[zh (zm e hT)];exact e⟩
 .rw[zc1,hv];simp
 .simp only[ye,yd];exact⟨_,_,rfl,rfl,x',[],rfl,(rv.moreB hB).step s,rfl⟩
theorem zlz{es:List AT}{kk:Nat}{tp:CJ}(hg:Gl X "enumerate")(hm:X.mg "enumerate"=AD)(ha:PE X a (tE S X ca))(hs:starEach [a] X.env=[(AC,eval a X.env)]:=by rfl):
  PI X (.Tuple es kk tp) (.Call (.Name "enumerate" p) [a] [] pos) (tI S X (.enum ca)):=
 (zi3 hg hm (zby ha ybm hs) hs).imp λσ H R ⟨B,φ,st,ρ,rs,re,h⟩=>by
  erw[evi]at h;refine tE.bind rs re h λx H1 v st1 φ1 s1 rs1 re1 rv h1=>?_
  cases v with
  |tp k vs=>
   erw[yd]at rv;let⟨y,xs,rfl,rt,l⟩:=rv;exact⟨y,rfl,⟨xs,rt.sq⟩,h1.ok rs1 (zjf rt l)⟩
  |_=>exact h1.elim
def tG(S:Se)(X:Cx)(t:Tg):TG:=λv σ H Q=>∃B φ st ρ w ρ',yx X.K S.cl B φ H st/\yL X.K S.cl B φ H ρ σ/\yd X.K S.cl B φ H w v/\yJ t w ρ=AA ρ'/\∀σ',yL X.K S.cl B φ H ρ' σ'->Q σ' H
theorem PG.imp{t t':TG}(h:PG X tg t')(k:∀v σ H Q,t v σ H Q->t' v σ H Q):PG X tg t:=λpins s σ H v u Q I rv q=>h pins s σ H v u Q I rv (k v σ H Q q)
theorem zlW{i:Nat}{x:AQ}(hN:X.N.Nodup)(hi:X.N[i]?=AA x)(hx:Loc X.env.scope x)(hf:X.fn x=AB \/ X.env.scope.names.lookup x=AA .local:=by first|exact .inl rfl|exact .inr rfl|assumption):PG X (.Name x pos) (tG S X (.n i)):=
 (zhG hN hi hx hf).imp λv σ H Q ⟨B,φ,st,ρ,w,ρ',rs,re,rv,e,q⟩=>by
  cases e
  exact q _ (re.set i rv)
noncomputable def gNs(l:List Nat):TGs:=λvs σ H Q=>vs.length=l.length/\Q ((l.zip vs).foldl (λσ p=>σ.set p.1 (AA p.2)) σ) H
theorem PGs.imp{es:List AT}{t t':TGs}(h:PGs X es t')(k:∀v σ H Q,t v σ H Q->t' v σ H Q):PGs X es t:=λpins s σ H vs us Q I rv q=>h pins s σ H vs us Q I rv (k vs σ H Q q)
theorem zmo:PGs X [] (gNs []):=ycT.imp λvs σ H Q ⟨h,q⟩=>by
 cases vs with
 |nil=>exact⟨rfl,q⟩
 |cons _ _=>cases h
theorem zj1{es:List AT}{l:List Nat}{i:Nat}{x:AQ}(hN:X.N.Nodup)(hi:X.N[i]?=AA x)(hx:Loc X.env.scope x)(h2:PGs X es (gNs l))(hf:X.fn x=AB \/ X.env.scope.names.lookup x=AA .local:=by first|exact .inl rfl|exact .inr rfl|assumption):PGs X (.Name x pos::es) (gNs (i::l)):=
 (zjK (zhG hN hi hx hf) h2).imp λvs σ H Q ⟨h,q⟩=>by
  cases vs with
  |nil=>cases h
  |cons v vs=>exact⟨v,vs,rfl,by simpa using h,q⟩
theorem yL.sets{K:AE}{cl:Nat->AI}:∀(l:List Nat) {vs:List PV} {xs:List V} {ρ:IC.Env} {σ:St},yL K cl B φ H ρ σ->ye K cl B φ H vs xs ->
  yL K cl B φ H ((l.zip vs).foldl (λρ p=>ρ.set p.1 (AA p.2)) ρ) ((l.zip xs).foldl (λσ p=>σ.set p.1 (AA p.2)) σ)
 |[],vs,xs,ρ,σ,re,l=>by simpa using re
 |i::is,[],xs,ρ,σ,re,l=>by
  erw[ye]at l;subst l;simpa using re
 |i::is,v::vs,xs,ρ,σ,re,l=>by
  erw[ye]at l;let⟨y,ys,rfl,r,l⟩:=l;erw[Dz,D6];exact yL.sets is (re.set i r) l
theorem znA{es:List AT}{l:List Nat}{k:Nat}(hc:X.calm=AB)(h:PGs X es (gNs l))(hn:(assignEach es X.env).length=l.length:=by rfl)(hst:(assignEach es X.env).findIdx? (·.1)=none:=by rfl):PG X (.Tuple es k pos) (tG S X (.t l)):=
 (zoU hc h hn hst).imp λv σ H Q ⟨B,φ,st,ρ,w,ρ',rs,re,rv,e,q⟩=>by
  cases w with
  |tp kk vs=>
   erw[yJ]at e;split at e
   .rename_i c
    cases e
    erw[yd]at rv;let⟨y,xs,rfl,rt,lr⟩:=rv;have hl:=lr.length;exact⟨y,xs,rfl,rt.sq,by lia,by lia,q _ (yL.sets l re lr)⟩
   .cases e
  |_=>cases e
theorem zlN{es:List AT}{l:List Nat}{k:Nat}(he:PE X a (tE S X ca))(hg:PG X (.Tuple es k p2) (tG S X (.t l)))(hs:swapsWithSole [.Tuple es k p2] a pos.line X.env=pure false:=by rfl)(hw:swappedStores [.Tuple es k p2] a X.env=pure none:=by rfl):
  PS X (.Assign [.Tuple es k p2] a pos) (tS S X (.asg (.t l) ca)):=
 (zkF he hg hs hw).imp λD σ H ⟨B,φ,st,ρ,rs,re,h⟩=>by
  erw[ex]at h;refine tE.fl rs re h λx H1 v st1 φ1 s rs1 re1 rv h1=>?_
  cases e:yJ (.t l) v ρ with
  |none=>rw[e]at h1;exact h1.elim
  |some ρ'=>
   rw[e]at h1;exact⟨B,φ1,st1,ρ,v,ρ',rs1,re1,rv,e,λσ' re'=>h1 σ' H1 φ1 .rfl rs1 re'⟩
theorem tI.fl{k:List PV->SO->Fl}{P:It->Hp->Prop}(rs:yx X.K S.cl B φ H st)(re:yL X.K S.cl B φ H ρ σ)(h:yaE S X B φ H ((evi S.call ρ st ci).fl ρ k) D)
  (n:∀x H1 v st1 φ1,Step φ H φ1 H1->yx X.K S.cl B φ1 H1 st1->yL X.K S.cl B φ1 H1 ρ σ->Drw S X B φ1 H1 v x->yaE S X B φ1 H1 (k v st1) D->P x H1):tI S X ci σ H P:=by
 refine⟨B,φ,st,ρ,rs,re,?_⟩
 cases e:evi S.call ρ st ci with
 |ok v st'=>
  rw[e]at h;exact λx H' φ' s rs' rv=>n x H' v st' φ' s rs' (re.step s) rv (h.on s)
 |exc k st'=>
  rw[e]at h;exact λe s' x=>h σ φ H e s' .rfl re x
 |bad=>rw[e]at h;exact h
theorem zoD(hp:E8 (model X.prog X.w) X.A X.env X.xe)(hc:X.calm=AB)(hi:PI X tg l (tI S X ci))(hg:PG X tg (tG S X ct))(hb:PSs X ss (tSs S X cs))(hs:∀x,foldedSetIterable l X.env x=pure x:=by intro _;rfl):
  PS X (.For tg l ss [] pos) (tS S X (.for ct ci cs)):=
 (zmT hp hc hi hg hb hs).imp λD σ H ⟨B,φ,st,ρ,rs,re,h⟩=>by
  erw[ex]at h;refine tI.fl rs re h λJ H1 xs st1 φ1 s1 rs1 re1 dr h1=>?_;refine⟨λi m σ H=>∃φ st ρ,i+m=xs.length/\Step φ1 H1 φ H/\yx X.K S.cl B φ H st/\yL X.K S.cl B φ H ρ σ/\yaE S X B φ H (forL ct (λρ2 st2=>exs S.call ρ2 st2 cs) (xs.drop i) ρ st) D,
   ⟨xs.length,φ1,st1,ρ,by lia,.rfl,rs1,re1,by simpa using h1⟩,?_⟩
  rintro i m σ2 H2 ⟨φ2,st2,ρ2,hm,s2,rs2,re2,h2⟩
  by_cases hi:i<xs.length
  .refine .inr ⟨dr.go i φ2 H2 s2 hi,λσ' H'=>∃φ st ρ,Step φ1 H1 φ H'/\yx X.K S.cl B φ H' st/\yL X.K S.cl B φ H' ρ σ'/\yaE S X B φ H' (forL ct (λρ2 st2=>exs S.call ρ2 st2 cs) (xs.drop (i+1)) ρ st) D,
    λσ' H' ⟨φ,st,ρ,s,q⟩=>⟨m-1,by lia,φ,st,ρ,by lia,s,q⟩,λx H3 hy=>?_⟩
   let⟨v,hv,rv,kk⟩:=dr.yld i φ2 H2 st2 x H3 B (λ_ z=>.inl z) s2 rs2 hi hy;have e:xs.drop i=v::xs.drop (i+1):=by
    rw[EG hi];rw[Cu hi]at hv;rw[AY hv]
   have s3:Step φ2 H2 φ2 H3:=⟨λb o _ e=>kk b o e,AU _,λ_ _ _ e=>e,λ_ h=>.inl h⟩;have rs3:yx X.K S.cl B φ2 H3 st2:=rs2.same kk;rw[e,forL]at h2
   cases eb:yJ ct v ρ2 with
   |none=>rw[eb]at h2;exact h2.elim
   |some ρ3=>
    rw[eb]at h2;refine⟨B,φ2,st2,ρ2,v,ρ3,rs3,re2.step s3,rv,eb,λσ' re'=>⟨B,φ2,st2,ρ3,rs3,re',?_⟩⟩;have h3:=yaE.on s3 h2;dsimp only at h3
    cases ee:exs S.call ρ3 st2 cs with
    |nx ρ4 st4=>
     rw[ee]at h3;exact λσ4 H4 φ4 s4 rs4 re4=>⟨φ4,st4,ρ4,s2.trans (s3.trans s4),rs4,re4,yaE.on s4 h3⟩
    |ct ρ4 st4=>
     rw[ee]at h3;exact λσ4 H4 φ4 s4 rs4 re4=>⟨φ4,st4,ρ4,s2.trans (s3.trans s4),rs4,re4,yaE.on s4 h3⟩
    |bk ρ4 st4=>rw[ee]at h3;exact h3
    |rt v4 st4=>rw[ee]at h3;exact h3
    |exc k ρ4 st4=>rw[ee]at h3;exact h3
    |bad=>rw[ee]at h3;exact h3
  .have e:i=xs.length:=by lia
   subst e;rw[GT,forL]at h2;exact .inl ⟨dr.stop φ2 H2 s2,h2 σ2 H2 φ2 .rfl rs2 re2⟩
theorem zjW(hp:E8 (model X.prog X.w) X.A X.env X.xe)(hc:PT X c (tTs S X cc))(hb:PSs X ss (tSs S X cs)):PS X (.While c ss [] pos) (tS S X (.while cc cs)):=
 (zjT hp hc hb).imp λD σ H ⟨B,φ,st,ρ,rs,re,h⟩=>by
  erw[ex]at h;refine⟨λm σ H=>∃φ st ρ,yx X.K S.cl B φ H st/\yL X.K S.cl B φ H ρ σ/\yaE S X B φ H (yat (λρ2 st2=>ev S.call ρ2 st2 cc) (λρ2 st2=>exs S.call ρ2 st2 cs) m ρ st) D,⟨100000,φ,st,ρ,rs,re,h⟩,?_⟩
  rintro m σ2 H2 ⟨φ2,st2,ρ2,rs2,re2,h2⟩
  cases m with
  |zero=>exact h2.elim
  |succ m=>
   rw[yat]at h2;rw[flT _ λk st1=>cond k (yaq (exs S.call ρ2 st1 cs) λρ2 st2=>yat (λρ2 st2=>ev S.call ρ2 st2 cc) (λρ2 st2=>exs S.call ρ2 st2 cs) m ρ2 st2) (.nx ρ2 st1)]at h2;refine tTs.fl rs2 re2 h2 λk H3 st3 φ3 s3 rs3 re3 h3=>?_
   cases k with
   |false=>exact h3 σ2 H3 φ3 .rfl rs3 re3
   |true=>
    refine⟨λσ' H'=>∃φ st ρ,yx X.K S.cl B φ H' st/\yL X.K S.cl B φ H' ρ σ'/\yaE S X B φ H' (yat (λρ2 st2=>ev S.call ρ2 st2 cc) (λρ2 st2=>exs S.call ρ2 st2 cs) m ρ st) D,
     λσ' H' q=>⟨m,by lia,q⟩,B,φ3,st3,ρ2,rs3,re3,?_⟩
    erw[cond_true]at h3
    cases ee:exs S.call ρ2 st3 cs with
    |nx ρ4 st4=>
     rw[ee]at h3;exact λσ4 H4 φ4 s4 rs4 re4=>⟨φ4,st4,ρ4,rs4,re4,yaE.on s4 h3⟩
    |ct ρ4 st4=>
     rw[ee]at h3;exact λσ4 H4 φ4 s4 rs4 re4=>⟨φ4,st4,ρ4,rs4,re4,yaE.on s4 h3⟩
    |bk ρ4 st4=>rw[ee]at h3;exact h3
    |rt v4 st4=>rw[ee]at h3;exact h3
    |exc k ρ4 st4=>rw[ee]at h3;exact h3
    |bad=>rw[ee]at h3;exact h3
end
section
variable (S:Se)(K:AE)
def ye0{α β:Type}(B:AI->Prop)(φ:Ph)(H:Hp)(Rel:Ph->Hp->α->β->Prop)(r:R α)(Q:β->Hp->Prop):Prop:=
 match r with
 |.ok v st'=>∀x H' φ',Step φ H φ' H'->yx K S.cl B φ' H' st'->Rel φ' H' v x->Q x H'
 |_=>False
def tE0(c:Ce):TE:=λσ H Q=>∃B φ st ρ,yx K S.cl B φ H st/\yL K S.cl B φ H ρ σ/\ye0 S K B φ H (λφ H=>yd K S.cl B φ H) (ev S.call ρ st c) Q
def tT0(c:Ce):TT:=λσ H Q=>∃B φ st ρ,yx K S.cl B φ H st/\yL K S.cl B φ H ρ σ/\ye0 S K B φ H RB (ya6 (ev S.call ρ st c)) Q
def tG0(t:Tg):TG:=λv σ H Q=>∃B φ st ρ w ρ',yx K S.cl B φ H st/\yL K S.cl B φ H ρ σ/\yd K S.cl B φ H w v/\yJ t w ρ=AA ρ'/\∀σ',yL K S.cl B φ H ρ' σ'->Q σ' H
end
section
variable {S:Se}{X:Cx}{K:AE}{cl:Nat->AI}{σ:St}{B:AI->Prop}{φ φ1:Ph}{H H1:Hp}{st:SO}{ρ:IC.Env}{pos p p2 px:CJ}{a b c o tg l elt iter:AT}{ca cb cc ce:Ce}{ci:Cit}{ct:Tg}
theorem zk9(hK:X.K=K)(h:PE X a (tE S X ca)):PE X a (tE0 S K ca):=by
 subst hK;refine h.imp λσ H Q kq=>?_;let⟨B,φ,st,ρ,rs,re,q⟩:=kq;refine ⟨B,φ,st,ρ,rs,re,?_⟩
 cases e:ev S.call ρ st ca with
 |ok v st'=>rw[e]at q;exact q
 |exc k st'=>rw[e]at q;exact q.elim
 |bad=>rw[e]at q;exact q
theorem zlV(hK:X.K=K)(h:PT X a (tTs S X ca)):PTs X [a] (tT0 S K ca):=by
 subst hK;refine zk7 (h.imp λσ H Q kq=>?_);let⟨B,φ,st,ρ,rs,re,q⟩:=kq;refine ⟨B,φ,st,ρ,rs,re,?_⟩
 cases e:ya6 (ev S.call ρ st ca)with
 |ok v st'=>rw[e]at q;exact q
 |exc k st'=>rw[e]at q;exact q.elim
 |bad=>rw[e]at q;exact q
theorem ziV:PTs X [] (tT0 S K (.cst (.bl AB))):=λpins s σ H Q I ⟨B,φ,st,ρ,rs,re,q⟩=>by
 refine zlt pins s σ H Q I ?_;erw[ev,ya6,R.bind,yaM,onO]at q;exact q AB H φ .rfl rs rfl
theorem zlx(hK:X.K=K)(h:PG X tg (tG S X ct)):PG X tg (tG0 S K ct):=by
 subst hK;exact h
theorem ybM.skip{k:Bool}{D y:AI}{u:HO}{xs:List V}(hD:B D)(r:ybM K B φ H k y xs):ybM K B φ (L2.upd H D u) k y xs:=by
 rcases r with⟨r,b,n⟩|r
 .exact .inl ⟨by rw[zh (show y≠D from λz=>b (z ▸ hD))];exact r,b,n⟩
 .exact .inr r
mutual
theorem yd.skip{D:AI}{u:HO}(hD:B D):∀(v:PV) (x:V),yd K cl B φ H v x->yd K cl B φ (L2.upd H D u) v x
 |.non,x,h=>by erw[yd]at h ⊢;exact h
 |.bl b,x,h=>by erw[yd]at h ⊢;exact h
 |.int i,x,h=>by erw[yd]at h ⊢;exact h
 |.str y,x,h=>by erw[yd]at h ⊢;exact h
 |.tp k vs,x,h=>by
  erw[yd]at h ⊢;let⟨y,xs,e,r,l⟩:=h;exact⟨y,xs,e,r.skip hD,ye.skip hD vs xs l⟩
 |.lst vs,x,h=>by
  erw[yd]at h ⊢;let⟨y,xs,e,⟨r,b,n⟩,l⟩:=h;exact⟨y,xs,e,⟨by rw[zh (show y≠D from λz=>b (z ▸ hD))];exact r,b,n⟩,ye.skip hD vs xs l⟩
 |.loc n,x,h=>by erw[yd]at h ⊢;exact h
 |.exn c,x,h=>by
  erw[yd]at h ⊢;let⟨y,e,r,b,n⟩:=h;exact⟨y,e,by rw[zh (show y≠D from λz=>b (z ▸ hD))];exact r,b,n⟩
 |.scr vs,x,h=>by
  erw[yd]at h ⊢;let⟨y,xs,e,r,l⟩:=h;refine⟨y,xs,e,?_,ye.skip hD vs xs l⟩;rcases r with⟨r,b,n⟩|r
  .refine .inl ⟨?_,b,n⟩;have ne:y≠D:=λz=>b (z ▸ hD);rcases r with r|⟨o,r⟩
   .exact .inl (by rw[zh ne];exact r)
   .exact .inr ⟨o,by rw[zh ne];exact r⟩
  .exact .inr r
theorem ye.skip{D:AI}{u:HO}(hD:B D):∀(v:List PV) (x:List V),ye K cl B φ H v x->ye K cl B φ (L2.upd H D u) v x
 |[],x,h=>by erw[ye]at h ⊢;exact h
 |v::vs,x,h=>by
  erw[ye]at h ⊢;let⟨y,ys,e,r,l⟩:=h;exact⟨y,ys,e,yd.skip hD v y r,ye.skip hD vs ys l⟩
end
theorem DK.skip{D:AI}{u:HO}(hD:B D):∀{kvs:List (PV×PV)} {ks:List (Key×V)},DK K cl B φ H kvs ks->DK K cl B φ (L2.upd H D u) kvs ks
 |[],ks,h=>h
 |(k,v)::r,ks,h=>by
  let⟨q,x,t,e,m,rv,l⟩:=h;exact⟨q,x,t,e,m,rv.skip hD,DK.skip hD l⟩
theorem DT.skip{D:AI}{u:HO}(hD:B D):∀{kvs:List (PV×PV)} {ks:List (List Key×V)},DT K cl B φ H kvs ks->DT K cl B φ (L2.upd H D u) kvs ks
 |[],ks,h=>h
 |(k,v)::r,ks,h=>by
  let⟨q,x,t,e,m,rv,l⟩:=h;exact⟨q,x,t,e,m,rv.skip hD,DT.skip hD l⟩
theorem FS.skip{D:AI}{u:HO}(hD:B D):∀{kvs:List (AQ×PV)} {ks:List (AQ×V)},FS K cl B φ H kvs ks->FS K cl B φ (L2.upd H D u) kvs ks
 |[],ks,h=>h
 |(k,v)::r,ks,h=>by
  let⟨x,t,e,rv,l⟩:=h;exact⟨x,t,e,rv.skip hD,FS.skip hD l⟩
theorem yx.skip{D:AI}{u:HO}(hD:B D)(rs:yx K cl B φ H st):yx K cl B φ (L2.upd H D u) st:=by
 refine⟨rs.len,rs.inj,λn y e=>?_,rs.liv,rs.nb,λy h=>?_⟩
 .let⟨o,q,r⟩:=rs.obj n y e;have ne:y≠D:=λz=>rs.nb y (A2 e) (z ▸ hD);refine⟨o,q,?_⟩
  cases o with
  |lst vs=>
   let⟨xs,hx,l⟩:=r;exact⟨xs,by rw[zh ne];exact hx,l.skip hD⟩
  |dct t kvs=>
   cases t with
   |false=>
    let⟨xs,hx,l⟩:=r;exact⟨xs,by rw[zh ne];exact hx,l.skip hD⟩
   |true=>
    let⟨xs,hx,l⟩:=r;exact⟨xs,by rw[zh ne];exact hx,l.skip hD⟩
  |ins c fs=>
   let⟨ks,⟨dx,hx⟩,l⟩:=r;exact⟨ks,⟨dx,by rw[zh ne];exact hx⟩,l.skip hD⟩
  |dead=>exact r.elim
 .by_cases z:y=D
  .subst z;exact⟨u,zr⟩
  .let⟨w,e⟩:=rs.dom y h;exact⟨w,by rw[zh z];exact e⟩
theorem yL.skip{D:AI}{u:HO}(hD:B D)(re:yL K cl B φ H ρ σ):yL K cl B φ (L2.upd H D u) ρ σ:=⟨re.len,λi v e=>by
 let⟨x,h,q⟩:=re.get i v e;exact⟨x,h,q.skip hD⟩⟩
noncomputable def Bx(B:AI->Prop)(D:AI):AI->Prop:=λy=>B y \/ y=D
theorem zhq{D:AI}(hn:H D=AD):∀y,Bx B D y->B y \/ H y=none:=λy z=>z.elim .inl λq=>.inr (q ▸ hn)
theorem yd.more{D:AI}(hn:H D=AD){v:PV}{x:V}(h:yd K cl B φ H v x):yd K cl (Bx B D) φ H v x:=h.moreB (zhq hn)
theorem ye.more{D:AI}(hn:H D=AD){v:List PV}{x:List V}(h:ye K cl B φ H v x):ye K cl (Bx B D) φ H v x:=h.moreB (zhq hn)
mutual
theorem yd.less{D:AI}:∀(v:PV) (x:V),yd K cl (Bx B D) φ H v x->yd K cl B φ H v x
 |.non,x,h=>by erw[yd]at h ⊢;exact h
 |.bl b,x,h=>by erw[yd]at h ⊢;exact h
 |.int i,x,h=>by erw[yd]at h ⊢;exact h
 |.str y,x,h=>by erw[yd]at h ⊢;exact h
 |.tp k vs,x,h=>by
  erw[yd]at h ⊢;let⟨y,xs,e,r,l⟩:=h;refine⟨y,xs,e,?_,ye.less vs xs l⟩;rcases r with⟨r,b,n⟩|r
  .exact .inl ⟨r,λz=>b (.inl z),n⟩
  .exact .inr r
 |.lst vs,x,h=>by
  erw[yd]at h ⊢;let⟨y,xs,e,⟨r,b,n⟩,l⟩:=h;exact⟨y,xs,e,⟨r,λz=>b (.inl z),n⟩,ye.less vs xs l⟩
 |.loc n,x,h=>by erw[yd]at h ⊢;exact h
 |.exn c,x,h=>by
  erw[yd]at h ⊢;let⟨y,e,r,b,n⟩:=h;exact⟨y,e,r,λz=>b (.inl z),n⟩
 |.scr vs,x,h=>by
  erw[yd]at h ⊢;let⟨y,xs,e,r,l⟩:=h;refine⟨y,xs,e,?_,ye.less vs xs l⟩;rcases r with⟨r,b,n⟩|r
  .exact .inl ⟨r,λz=>b (.inl z),n⟩
  .exact .inr r
theorem ye.less{D:AI}:∀(v:List PV) (x:List V),ye K cl (Bx B D) φ H v x->ye K cl B φ H v x
 |[],x,h=>by erw[ye]at h ⊢;exact h
 |v::vs,x,h=>by
  erw[ye]at h ⊢;let⟨y,ys,e,r,l⟩:=h;exact⟨y,ys,e,yd.less v y r,ye.less vs ys l⟩
end
theorem DK.more{D:AI}(hn:H D=AD):∀{kvs:List (PV×PV)} {ks:List (Key×V)},DK K cl B φ H kvs ks->DK K cl (Bx B D) φ H kvs ks
 |[],ks,h=>h
 |(k,v)::r,ks,h=>by
  let⟨q,x,t,e,m,rv,l⟩:=h;exact⟨q,x,t,e,m,rv.more hn,DK.more hn l⟩
theorem DT.more{D:AI}(hn:H D=AD):∀{kvs:List (PV×PV)} {ks:List (List Key×V)},DT K cl B φ H kvs ks->DT K cl (Bx B D) φ H kvs ks
 |[],ks,h=>h
 |(k,v)::r,ks,h=>by
  let⟨q,x,t,e,m,rv,l⟩:=h;exact⟨q,x,t,e,m,rv.more hn,DT.more hn l⟩
theorem FS.more{D:AI}(hn:H D=AD):∀{kvs:List (AQ×PV)} {ks:List (AQ×V)},FS K cl B φ H kvs ks->FS K cl (Bx B D) φ H kvs ks
 |[],ks,h=>h
 |(k,v)::r,ks,h=>by
  let⟨x,t,e,rv,l⟩:=h;exact⟨x,t,e,rv.more hn,FS.more hn l⟩
theorem DK.less{D:AI}:∀{kvs:List (PV×PV)} {ks:List (Key×V)},DK K cl (Bx B D) φ H kvs ks->DK K cl B φ H kvs ks
 |[],ks,h=>h
 |(k,v)::r,ks,h=>by
  let⟨q,x,t,e,m,rv,l⟩:=h;exact⟨q,x,t,e,m,rv.less,DK.less l⟩
theorem DT.less{D:AI}:∀{kvs:List (PV×PV)} {ks:List (List Key×V)},DT K cl (Bx B D) φ H kvs ks->DT K cl B φ H kvs ks
 |[],ks,h=>h
 |(k,v)::r,ks,h=>by
  let⟨q,x,t,e,m,rv,l⟩:=h;exact⟨q,x,t,e,m,rv.less,DT.less l⟩
theorem FS.less{D:AI}:∀{kvs:List (AQ×PV)} {ks:List (AQ×V)},FS K cl (Bx B D) φ H kvs ks->FS K cl B φ H kvs ks
 |[],ks,h=>h
 |(k,v)::r,ks,h=>by
  let⟨x,t,e,rv,l⟩:=h;exact⟨x,t,e,rv.less,FS.less l⟩
theorem yx.less{D:AI}(rs:yx K cl (Bx B D) φ H st):yx K cl B φ H st:=by
 refine⟨rs.len,rs.inj,λn y e=>?_,rs.liv,λy h z=>rs.nb y h (.inl z),λy h=>rs.dom y (.inl h)⟩;let⟨o,q,r⟩:=rs.obj n y e;refine⟨o,q,?_⟩
 cases o with
 |lst vs=>let⟨xs,hx,l⟩:=r;exact⟨xs,hx,l.less⟩
 |dct t kvs=>cases t<;>(let⟨xs,hx,l⟩:=r;exact⟨xs,hx,l.less⟩)
 |ins c fs=>let⟨ks,hx,l⟩:=r;exact⟨ks,hx,l.less⟩
 |dead=>exact r.elim
theorem yx.more{D:AI}{u:HO}(hn:H D=AD)(rs:yx K cl B φ H st):yx K cl (Bx B D) φ (L2.upd H D u) st:=by
 have nD:AA D∉φ:=λz=>by
  let⟨w,e⟩:=rs.there z;rw[hn]at e;cases e
 have s:Step φ H φ (L2.upd H D u):=.upd hn;have rs':=rs.upd (o:=u) hn;refine⟨rs.len,rs.inj,λn y e=>?_,rs.liv,λy h z=>z.elim (rs.nb y h) λq=>nD (q ▸ h),λy h=>?_⟩
 .let⟨o,q,r⟩:=rs.obj n y e;have ne:y≠D:=λz=>nD (z ▸ A2 e);have hD:Bx B D D:=.inr rfl;refine⟨o,q,?_⟩
  cases o with
  |lst vs=>let⟨xs,hx,l⟩:=r;exact⟨xs,by rw[zh ne];exact hx,(l.more hn).skip hD⟩
  |dct t kvs=>
   cases t with
   |false=>let⟨xs,hx,l⟩:=r;exact⟨xs,by rw[zh ne];exact hx,(l.more hn).skip hD⟩
   |true=>let⟨xs,hx,l⟩:=r;exact⟨xs,by rw[zh ne];exact hx,(l.more hn).skip hD⟩
  |ins c fs=>let⟨ks,⟨dx,hx⟩,l⟩:=r;exact⟨ks,⟨dx,by rw[zh ne];exact hx⟩,(l.more hn).skip hD⟩
  |dead=>exact r.elim
 .rcases h with h|h
  .exact rs'.dom y h
  .subst h;exact⟨u,zr⟩
theorem yL.more{D:AI}{u:HO}(hn:H D=AD)(re:yL K cl B φ H ρ σ):yL K cl (Bx B D) φ (L2.upd H D u) ρ σ:=⟨re.len,λi v e=>by
 let⟨x,h,q⟩:=re.get i v e;exact⟨x,h,(q.more hn).skip (.inr rfl)⟩⟩
noncomputable def yaC:Tg->List (Option Nat)->Bool
 |.n i,sl=>decide (sl[i]?=AA AD)
 |.t l,sl=>l.all λi=>decide (sl[i]?=AA AD)
theorem zfS:∀(l:List Nat) (vs:List PV) (ρ:IC.Env) (j:Nat),j∉l->((l.zip vs).foldl (λρ p=>ρ.set p.1 (AA p.2)) ρ)[j]?=ρ[j]?
 |[],vs,ρ,j,h=>by simp
 |i::is,[],ρ,j,h=>by simp
 |i::is,v::vs,ρ,j,h=>by
  erw[Dz,D6];rw[zfS is vs _ j λz=>h (AX _ z),AO]
  rintro rfl
  exact h BG
theorem zf6:∀(l:List Nat) (vs:List PV) (ρ:IC.Env),((l.zip vs).foldl (λρ p=>ρ.set p.1 (AA p.2)) ρ).length=ρ.length
 |[],vs,ρ=>by simp
 |i::is,[],ρ=>by simp
 |i::is,v::vs,ρ=>by
  erw[Dz,D6];rw[zf6 is vs,B1]
theorem yL.untgt{sl:List (Option Nat)}{ρ0 ρ1:IC.Env}{v:PV}(hf:yaC ct sl=AB)(h0:∀(i:Nat),sl[i]?=AA AD->ρ0[i]?=AA AD)(hb:yJ ct v ρ0=AA ρ1)(re:yL K cl B φ H ρ1 σ):yL K cl B φ H ρ0 σ:=by
 cases ct with
 |n i=>
  cases hb
  erw[yaC,decide_eq_true_eq]at hf;refine⟨by rw[<-re.len,B1],λj w e=>re.get j w ?_⟩;rw[AO]
  .exact e
  .rintro rfl
   rw[h0 _ hf]at e;cases e
 |t l=>
  cases v with
  |tp k vs=>
   erw[yJ]at hb;split at hb
   .cases hb
    erw[yaC,BP,decide_eq_true_eq]at hf;refine⟨by rw[<-re.len,zf6],λj w e=>re.get j w ?_⟩;rw[zfS]
    .exact e
    .intro z;rw[h0 _ (hf j z)]at e;cases e
   .cases hb
  |_=>cases hb
theorem yL.inn{sl:List (Option Nat)}(re:yL K cl B φ H ρ σ):yL K cl B φ H (sl.map λo=>o.bind λj=>(ρ[j]?).join) (L2.inn sl σ):=by
 unfold L2.inn;refine⟨by simp,λi v e=>?_⟩;rw[Bq]at e ⊢
 cases q:sl[i]? with
 |none=>rw[q]at e;cases e
 |some o=>
  rw[q]at e
  cases o with
  |none=>cases e
  |some j=>
   erw[D8,Bg,Option.some.injEq]at e ⊢
   cases q2:ρ[j]? with
   |none=>rw[q2]at e;cases e
   |some w=>
    rw[q2]at e;erw[Option.join_some]at e;subst e;let⟨x,hx,rv⟩:=re.get j v q2;exact⟨x,by rw[hx];rfl,rv⟩
theorem yce:1000000<sizeLine:=by rw[D1];decide
theorem zm2{α:Type}{o:Option Bool}{k:Bool->R α}{z:α}{s:SO}(h:onO o k=.ok z s):∃b,o=AA b/\k b=.ok z s:=by
 cases o with
 |none=>cases h
 |some b=>exact⟨b,rfl,h⟩
theorem zaX{α β:Type}{r:R α}{k:α->SO->R β}{z:β}{s:SO}(h:r.bind k=.ok z s):∃a s1,r=.ok a s1/\k a s1=.ok z s:=by
 cases r with
 |ok a s1=>exact⟨a,s1,rfl,h⟩
 |exc c s=>cases h
 |bad=>cases h
theorem zhQ{sl:List (Option Nat)}(hf:yaC ct sl=AB){H:Hp}{Q:VK}(h:tE S X (.comp sl ct ci cc ce) σ H Q):ydi sl (tI S X ci) (tG0 S X.K ct) (tT0 S X.K cc) (tE0 S X.K ce) σ H Q:=by
  let⟨B,φ,st,ρ,rs,re,h⟩:=h;erw[ev]at h;refine⟨B,φ,st,ρ,rs,re,(Run.bind h).mono λJ H1 kq=>?_⟩;let⟨xs,st1,φ1,s1,rs1,dr,h1⟩:=kq;refine λD hD=>?_
  generalize hone:(λ(x:PV) (st2:SO)=>match yJ ct x (sl.map λo=>o.bind λj=>(ρ[j]?).join)with
   |none=>(R.bad:R (Option PV))
   |some ρ1=>(ev S.call ρ1 st2 cc).bind λb st3=>onO (yaM st3 b) λk=>cond k ((ev S.call ρ1 st3 ce).bind λy st4=>.ok (AA y) st4) (.ok AD st3))=one at h1
  cases e:yaR one xs st1 with
  |exc k s=>rw[e]at h1;exact h1.elim
  |bad=>rw[e]at h1;exact h1.elim
  |ok zs st5=>
   rw[e]at h1;erw[yci]at h1;split at h1
   case isFalse=>exact h1.elim
   rename_i hz;have nB:¬B D:=rs1.nB hD;have nD:AA D∉φ1:=λz=>by
    let⟨w,e⟩:=rs1.there z;rw[hD]at e;cases e
   refine⟨λi m σc ys H2=>∃φ2 st2 vs rest,i+m=xs.length/\Step φ1 H1 φ2 H2/\H2 D=AA (.lst ys)/\AA D∉φ2/\yx X.K S.cl (Bx B D) φ2 H2 st2/\yL X.K S.cl (Bx B D) φ2 H2 (sl.map λo=>o.bind λj=>(ρ[j]?).join) σc /\
     ye X.K S.cl (Bx B D) φ2 H2 vs ys/\yaR one (xs.drop i) st2=.ok rest st5/\vs++rest=zs,
    ⟨xs.length,φ1,st1,[],zs,by lia,.upd hD,zr,nD,rs1.more hD,(yL.inn (re.step s1)).more hD,by erw[ye],by simpa using e,rfl⟩,?_⟩
   rintro i m σc ys H2 ⟨φ2,st2,vs,rest,hm,s2,hD2,nD2,rs2,re2,l2,ec,ez⟩
   refine⟨hD2,?_⟩
   by_cases hi:i<xs.length
   .have hl2:=l2.length;have hml:=yce;have hzl:=congrArg CY ez;rw[Af]at hzl;refine .inr ⟨dr.go i φ2 H2 s2 hi,by lia,λσ' ys' H'=>∃φ2 st2 vs rest,Step φ1 H1 φ2 H'/\H' D=AA (.lst ys')/\AA D∉φ2/\yx X.K S.cl (Bx B D) φ2 H' st2/\yL X.K S.cl (Bx B D) φ2 H' (sl.map λo=>o.bind λj=>(ρ[j]?).join) σ' /\
     ye X.K S.cl (Bx B D) φ2 H' vs ys'/\yaR one (xs.drop (i+1)) st2=.ok rest st5/\vs++rest=zs,λσ' ys' H' ⟨φ2,st2,vs,rest,q⟩=>⟨m-1,by lia,φ2,st2,vs,rest,by lia,q⟩,λx H3 hy=>?_⟩
    let⟨v,hv,rv,kk⟩:=dr.yld i φ2 H2 st2 x H3 (Bx B D) (λy z=>z.elim .inl λq=>.inr (q ▸ hD)) s2 rs2 hi hy;have s3:Step φ2 H2 φ2 H3:=⟨λb o _ e=>kk b o e,AU _,λ_ _ _ e=>e,λ_ h=>.inl h⟩;have rs3:yx X.K S.cl (Bx B D) φ2 H3 st2:=rs2.same kk;have ed:xs.drop i=v::xs.drop (i+1):=by
     rw[EG hi];rw[Cu hi]at hv;rw[AY hv]
    rw[ed,yaR]at ec;let⟨o,st3,e1,ec⟩:=zaX ec;let⟨rest',st4,e2,ec⟩:=zaX ec;rw[<-hone]at e1;dsimp only at e1
    cases eb:yJ ct v (sl.map λo=>o.bind λj=>(ρ[j]?).join)with
    |none=>rw[eb]at e1;cases e1
    |some ρ1=>
     rw[eb]at e1;dsimp only at e1;let⟨bv,st6,e3,e1⟩:=zaX e1;let⟨k,e4,e1⟩:=zm2 e1;have er:st4=st5/\yb6 o rest'=rest:=by
      injection ec with q1 q2;exact⟨q2,q1⟩
     let⟨rfl,rfl⟩:=er;refine⟨Bx B D,φ2,st2,_,v,ρ1,rs3,re2.step s3,rv,eb,λσ4 re4=>⟨Bx B D,φ2,st2,ρ1,rs3,re4,?_⟩⟩;have et:ya6 (ev S.call ρ1 st2 cc)=.ok k st6:=by
      rw[e3];erw[ya6,R.bind,e4,onO]
     rw[et]
     rintro k' H5 φ5 s5 rs5 rfl
     have nD5:AA D∉φ5:=λz=>by
      rcases s5.new D z with q|q
      .exact nD2 q
      .rw[kk D _ hD2]at q;cases q
     have hD5:H5 D=AA (.lst ys):=s5.keep D _ nD2 (kk D _ hD2);have s25:Step φ1 H1 φ5 H5:=s2.trans (s3.trans s5);have l5:=(l2.step s3).step s5;have re5:yL X.K S.cl (Bx B D) φ5 H5 ρ1 σ4:=re4.step s5;have h0:∀(i:Nat),sl[i]?=AA AD->(sl.map λo=>o.bind λj=>(ρ[j]?).join)[i]?=AA none:=λi q=>by
      rw[Bq,q];rfl
     cases k with
     |false=>
      erw[cond_false]at e1
      cases e1
      exact⟨φ5,_,vs,rest',s25,hD5,nD5,rs5,yL.untgt hf h0 eb re5,l5,e2,ez⟩
     |true=>
      erw[cond_true]at e1;let⟨y,st7,e5,e1⟩:=zaX e1
      cases e1
      refine⟨Bx B D,φ5,st6,ρ1,rs5,re5,?_⟩;rw[e5];intro y' H6 φ6 s6 rs6 ry;have nD6:AA D∉φ6:=λz=>by
       rcases s6.new D z with q|q
       .exact nD5 q
       .rw[hD5]at q;cases q
      have hD6:H6 D=AA (.lst ys):=s6.keep D _ nD5 hD5;have hBD:Bx B D D:=.inr rfl;refine⟨hD6,φ6,_,vs++[y],rest',?_,zr,nD6,rs6.skip hBD,(yL.untgt hf h0 eb (re5.step s6)).skip hBD,((l5.step s6).append (by erw[ye];exact⟨y',[],rfl,ry,rfl⟩)).skip hBD,e2,?_⟩
      .have s16:=s25.trans s6;exact⟨λb o n q=>by rw[zh (zm q hD)];exact s16.keep b o n q,s16.len,s16.pre,s16.new⟩
      .simpa [yb6] using ez
   .have ei:i=xs.length:=by lia
    subst ei;rw[GT,yaR]at ec
    cases ec
    refine .inl ⟨dr.stop φ2 H2 s2,h1 (.ref D) H2 φ2 s2 rs2.less ?_⟩;erw[yd];exact⟨D,ys,rfl,⟨hD2,nB,nD2⟩,by rw[<-ez,BE];exact l2.less⟩
theorem zlP{sc:Bi}{NC:List AQ}{sl:List (Option Nat)}{ifs:List AT}(hc:X.calm=AB)(O:yao X sc NC sl)(hf:yaC ct sl=AB)(hi:PI X tg iter (tI S X ci))(hg:∀j,PG (cxC X sc NC j) tg (tG0 S X.K ct))
  (ht:∀j,PTs (cxC X sc NC j) ifs (tT0 S X.K cc)) (he:∀j,PE (cxC X sc NC j) elt (tE0 S X.K ce)) (hs:∀x,foldedSetIterable iter X.env x=pure x:=by intro _;rfl):
  PE X (.ListComp elt [⟨tg,iter,ifs,0⟩] sc pos) (tE S X (.comp sl ct ci cc ce)):=
 (zmb hc O hi hg ht he hs).imp λσ H Q h=>zhQ hf h
end
end L2
namespace IC
open PySem
def RLe{α:Type}(r q:R α):Prop:=r=.bad \/ r=q
def FLe(f g:Fl):Prop:=f=.bad \/ f=g
abbrev Cl:=Nat->List PV->SO->R PV
def CLe(c d:Cl):Prop:=∀f a s,RLe (c f a s) (d f a s)
theorem RLe.rfl{α:Type}{r:R α}:RLe r r:=.inr (DI _)
theorem FLe.rfl{f:Fl}:FLe f f:=.inr (DI _)
theorem RLe.bind{α β:Type}{r q:R α}{k l:α->SO->R β}(h:RLe r q)(hk:∀a s,RLe (k a s) (l a s)):RLe (r.bind k) (q.bind l):=by
 rcases h with h|h
 .subst h;exact .inl (DI _)
 .subst h
  cases r with
  |ok a s=>exact hk a s
  |exc c s=>exact .rfl
  |bad=>exact .rfl
theorem RLe.fl{α:Type}{r q:R α}{ρ:Env}{k l:α->SO->Fl}(h:RLe r q)(hk:∀a s,FLe (k a s) (l a s)):FLe (r.fl ρ k) (q.fl ρ l):=by
 rcases h with h|h
 .subst h;exact .inl (DI _)
 .subst h
  cases r with
  |ok a s=>exact hk a s
  |exc c s=>exact .rfl
  |bad=>exact .rfl
theorem RLe.comp{r q:R (List PV)}(h:RLe r q):RLe (yci r) (yci q):=by
 rcases h with h|h
 .subst h;exact .inl (DI _)
 .subst h;exact .rfl
theorem zhL{α:Type}{x:PV}{k l:Bool->R α}(h:∀b,RLe (k b) (l b)):RLe (onBl x k) (onBl x l):=by
 cases x with
 |bl b=>exact h b
 |_=>exact .rfl
theorem zeD{α:Type}{x:Option Bool}{k l:Bool->R α}(h:∀b,RLe (k b) (l b)):RLe (onO x k) (onO x l):=by
 cases x with
 |some b=>exact h b
 |none=>exact .rfl
theorem zkD{x:Option Bool}{k l:Bool->Fl}(h:∀b,FLe (k b) (l b)):FLe (onF x k) (onF x l):=by
 cases x with
 |some b=>exact h b
 |none=>exact .rfl
theorem zn1{α:Type}{x:Option (Option Int)}{k l:Option Int->R α}(h:∀b,RLe (k b) (l b)):RLe (onP x k) (onP x l):=by
 cases x with
 |some b=>exact h b
 |none=>exact .rfl
theorem zdc{α:Type}{b:Bool}{r q r' q':R α}(h:RLe r q)(h':RLe r' q'):RLe (cond b r r') (cond b q q'):=by
 cases b
 .exact h'
 .exact h
theorem zfO{b:Bool}{r q r' q':Fl}(h:FLe r q)(h':FLe r' q'):FLe (cond b r r') (cond b q q'):=by
 cases b
 .exact h'
 .exact h
theorem zcG{f g:PV->SO->R (Option PV)}(h:∀x s,RLe (f x s) (g x s)):∀xs s,RLe (yaR f xs s) (yaR g xs s)
 |[],s=>.rfl
 |x::xs,s=>(h x s).bind λo s1=>(zcG h xs s1).bind λys s2=>.rfl
theorem zcS{f g:Fl}{k l:Env->SO->Fl}(h:FLe f g)(hk:∀ρ s,FLe (k ρ s) (l ρ s)):FLe (yaq f k) (yaq g l):=by
 rcases h with h|h
 .subst h;exact .inl (DI _)
 .subst h
  cases f with
  |nx ρ s=>exact hk ρ s
  |ct ρ s=>exact hk ρ s
  |_=>exact .rfl
theorem zdX{t:Tg}{f g:Env->SO->Fl}(h:∀ρ s,FLe (f ρ s) (g ρ s)):∀xs ρ s,FLe (forL t f xs ρ s) (forL t g xs ρ s)
 |[],ρ,s=>.rfl
 |x::xs,ρ,s=>by
  unfold forL
  cases yJ t x ρ with
  |none=>exact .rfl
  |some ρ1=>exact zcS (h ρ1 s) λρ2 s2=>zdX h xs ρ2 s2
theorem zeX{t u:Env->SO->R PV}{f g:Env->SO->Fl}(ht:∀ρ s,RLe (t ρ s) (u ρ s))(h:∀ρ s,FLe (f ρ s) (g ρ s)):∀n ρ s,FLe (yat t f n ρ s) (yat u g n ρ s)
 |0,ρ,s=>.rfl
 |n+1,ρ,s=>by
  unfold yat;exact(ht ρ s).fl λx s1=>zkD λb=>zfO (zcS (h ρ s1) λρ2 s2=>zeX ht h n ρ2 s2) .rfl
mutual
theorem zd{c d:Cl}(h:CLe c d):∀(e:Ce) (ρ:Env) (s:SO),RLe (ev c ρ s e) (ev d ρ s e)
 |.cst v,ρ,s=>by exact .rfl
 |.var i,ρ,s=>by exact .rfl
 |.bin o a b,ρ,s=>by
  exact(zd h a ρ s).bind λx s1=>(zd h b ρ s1).bind λy s2=>.rfl
 |.neg a,ρ,s=>by
  exact(zd h a ρ s).bind λx s1=>.rfl
 |.not a,ρ,s=>by
  exact(zd h a ρ s).bind λx s1=>.rfl
 |.and a b,ρ,s=>by
  refine(zd h a ρ s).bind λx s1=>?_;exact zhL λk=>zdc (zd h b ρ s1) .rfl
 |.or a b,ρ,s=>by
  refine(zd h a ρ s).bind λx s1=>?_;exact zhL λk=>zdc .rfl (zd h b ρ s1)
 |.cmp o a b,ρ,s=>by
  exact(zd h a ρ s).bind λx s1=>(zd h b ρ s1).bind λy s2=>.rfl
 |.chain o p a b k,ρ,s=>by
  refine(zd h a ρ s).bind λx s1=>(zd h b ρ s1).bind λy s2=>?_;exact zeD λq=>zdc ((zd h k ρ s2).bind λz s3=>.rfl) .rfl
 |.ite k a b,ρ,s=>by
  exact(zd h k ρ s).bind λx s1=>zeD λq=>zdc (zd h a ρ s1) (zd h b ρ s1)
 |.tup es,ρ,s=>by
  exact(zaD h es ρ s).bind λx s1=>.rfl
 |.lst es,ρ,s=>by
  exact(zaD h es ρ s).bind λx s1=>.rfl
 |.newl es,ρ,s=>by
  exact(zaD h es ρ s).bind λx s1=>.rfl
 |.dict0 t,ρ,s=>by exact .rfl
 |.idx a i,ρ,s=>by
  exact(zd h a ρ s).bind λx s1=>(zd h i ρ s1).bind λy s2=>.rfl
 |.slc a l u,ρ,s=>by
  exact(zd h a ρ s).bind λx s1=>(zd h l ρ s1).bind λy s2=>zn1 λo=>(zd h u ρ s2).bind λz s3=>.rfl
 |.call f es,ρ,s=>by
  exact(zaD h es ρ s).bind λx s1=>h f x s1
 |.blt b es,ρ,s=>by
  exact(zaD h es ρ s).bind λx s1=>.rfl
 |.mth m o es,ρ,s=>by
  exact(zd h o ρ s).bind λx s1=>zeD λ_=>(zaD h es ρ s1).bind λy s2=>.rfl
 |.isi a ts,ρ,s=>by
  exact(zd h a ρ s).bind λx s1=>.rfl
 |.comp sl tg it k e,ρ,s=>by
  refine(zhp h it ρ s).bind λxs s1=>?_;have q:=λ(f g:PV->SO->R (Option PV)) (hfg:∀x s,RLe (f x s) (g x s))=>zcG hfg xs s1;refine RLe.comp (zcG (λx s2=>?_) xs s1)
  cases yJ tg x _ with
  |none=>exact .rfl
  |some ρ1=>
   dsimp only;exact(zd h k ρ1 s2).bind λb s3=>zeD λq=>zdc ((zd h e ρ1 s3).bind λy s4=>.rfl) .rfl
 |.nope,ρ,s=>by exact .rfl
 |.frz a,ρ,s=>by
  exact(zd h a ρ s).bind λx s1=>.rfl
 |.dix D a,ρ,s=>by
  exact(zd h a ρ s).bind λx s1=>.rfl
 |.din a D,ρ,s=>by
  exact(zd h a ρ s).bind λx s1=>.rfl
 |.fld q a f,ρ,s=>by
  exact(zd h a ρ s).bind λx s1=>.rfl
 |.new q i es,ρ,s=>by
  refine(zaD h es ρ s).bind λx s1=>RLe.bind ?_ λv s2=>.rfl;rcases h i (.loc s1.length::x) (s1++[.ins q []])with e|e
  .rw[e];exact .inl (DI _)
  .rw[e];exact .rfl
 |.mcl q i m o es,ρ,s=>by
  exact(zd h o ρ s).bind λx s1=>zeD λ_=>(zaD h es ρ s1).bind λy s2=>h i (x::y) s2
theorem zaD{c d:Cl}(h:CLe c d):∀(e:Ces) (ρ:Env) (s:SO),RLe (evs c ρ s e) (evs d ρ s e)
 |.nil,ρ,s=>by exact .rfl
 |.cons e es,ρ,s=>by
  exact(zd h e ρ s).bind λx s1=>(zaD h es ρ s1).bind λy s2=>.rfl
theorem zhp{c d:Cl}(h:CLe c d):∀(e:Cit) (ρ:Env) (s:SO),RLe (evi c ρ s e) (evi d ρ s e)
 |.seq e,ρ,s=>by
  exact(zd h e ρ s).bind λx s1=>.rfl
 |.range1 a,ρ,s=>by
  exact(zd h a ρ s).bind λx s1=>.rfl
 |.range2 a b,ρ,s=>by
  exact(zd h a ρ s).bind λx s1=>(zd h b ρ s1).bind λy s2=>.rfl
 |.rangeD a b,ρ,s=>by
  exact(zd h a ρ s).bind λx s1=>(zd h b ρ s1).bind λy s2=>.rfl
 |.enum e,ρ,s=>by
  exact(zd h e ρ s).bind λx s1=>.rfl
 |.zip a b,ρ,s=>by
  exact(zd h a ρ s).bind λx s1=>(zd h b ρ s1).bind λy s2=>.rfl
 |.revl e,ρ,s=>by
  exact(zd h e ρ s).bind λx s1=>.rfl
 |.revr e,ρ,s=>by
  exact(zd h e ρ s).bind λx s1=>.rfl
 |.chars e,ρ,s=>by
  exact(zd h e ρ s).bind λx s1=>.rfl
end
mutual
theorem zo8{c d:Cl}(h:CLe c d):∀(x:Cs) (ρ:Env) (s:SO),FLe (ex c ρ s x) (ex d ρ s x)
 |.expr e,ρ,s=>by
  exact(zd h e ρ s).fl λx s1=>.rfl
 |.asg t e,ρ,s=>by
  exact(zd h e ρ s).fl λx s1=>.rfl
 |.six o i e,ρ,s=>by
  exact(zd h e ρ s).fl λx s1=>(zd h o ρ s1).fl λy s2=>(zd h i ρ s2).fl λz s3=>.rfl
 |.dput o i e,ρ,s=>by
  exact(zd h e ρ s).fl λx s1=>(zd h o ρ s1).fl λy s2=>(zd h i ρ s2).fl λz s3=>.rfl
 |.aug i o e,ρ,s=>by
  first|unfold ev|unfold ex|unfold evs|unfold evi|unfold exs
  split
  .exact(zd h e ρ s).fl λx s1=>.rfl
  .exact .rfl
 |.ret e,ρ,s=>by
  exact(zd h e ρ s).fl λx s1=>.rfl
 |.ite k a b,ρ,s=>by
  exact(zd h k ρ s).fl λx s1=>zkD λq=>zfO (zaQ h a ρ s1) (zaQ h b ρ s1)
 |.for t it b,ρ,s=>by
  exact(zhp h it ρ s).fl λxs s1=>zdX (λρ2 s2=>zaQ h b ρ2 s2) xs ρ s1
 |.while k b,ρ,s=>by
  exact zeX (λρ2 s2=>zd h k ρ2 s2) (λρ2 s2=>zaQ h b ρ2 s2) _ ρ s
 |.nope,ρ,s=>by exact .rfl
 |.mkr i D n es,ρ,s=>by
  refine(zd h n ρ s).fl λx s1=>?_;split
  .exact((zaD h es _ s1).bind λvs s2=>h _ vs s2).fl λv s3=>.rfl
  .exact .rfl
 |.sfl q o f e,ρ,s=>by
  exact(zd h e ρ s).fl λx s1=>(zd h o ρ s1).fl λy s2=>.rfl
theorem zaQ{c d:Cl}(h:CLe c d):∀(x:Css) (ρ:Env) (s:SO),FLe (exs c ρ s x) (exs d ρ s x)
 |.nil,ρ,s=>by exact .rfl
 |.cons x xs,ρ,s=>by
  first|unfold ev|unfold ex|unfold evs|unfold evi|unfold exs
  rcases zo8 h x ρ s with e|e
  .rw[e];exact .inl (DI _)
  .rw[e]
   cases ex d ρ s x with
   |nx ρ1 s1=>exact zaQ h xs ρ1 s1
   |_=>exact .rfl
end
theorem zeL(T:Nat->Option Fn):∀k,CLe (yc T k) (yc T (k+1))
 |0,f,a,s=>.inl (DI _)
 |k+1,f,a,s=>by
  have h:=zeL T k;rw[yc,yc]
  cases T f with
  |none=>exact .rfl
  |some fn=>
   dsimp only;split
   .split
    .split
     .rcases zaQ h fn.body (a.map AA++Ae (fn.ns-fn.np) AD) []with e|e
      .rw[e];exact .inl (DI _)
      .rw[e];exact .rfl
     .exact .rfl
    .rcases zaQ h fn.body (a.map AA++Ae (fn.ns-fn.np) AD) s with e|e
     .rw[e];exact .inl (DI _)
     .rw[e];exact .rfl
   .exact .rfl
theorem zal{T:Nat->Option Fn}{k:Nat}{f:Nat}{a:List PV}{s s':SO}{v:PV}(h:yc T k f a s=.ok v s'):∀j,yc T (k+j) f a s=.ok v s'
 |0=>h
 |j+1=>by
  have q:=zal h j;rcases zeL T (k+j) f a s with e|e
  .rw[q]at e;cases e
  .rw[DZ]at e;rw[<-e];exact q
end IC
namespace L2
open PySem PySem.Spec PyProof.Rows IC
def spI(K:AE)(cl:Nat->AI)(call:Nat->List PV->SO->R PV)(f:Nat):Sp:=λvs H Q E=>∃B φ st args,yx K cl B φ H st/\ye K cl B φ H args vs/\match call f args st with
 |.ok v st'=>∀x H' φ',Step φ H φ' H'->yx K cl B φ' H' st'->yd K cl B φ' H' v x->Q x H'
 |.exc c st'=>∀H' φ',Step φ H φ' H'->yx K cl B φ' H' st'->E (.ref (cl c)) AD H'
 |.bad=>False
section
variable {S:Se}{X:Cx}{k:Nat}{f:AI}{fd:BC}{ps ks:List AQ}{sp:Sp}{dvs:List V}{ds:List AG}{x:AQ}{p pos:CJ}{e:AT}{es:List AT}{t tk:TA}{CX:CXT}{σ:St}{H:Hp}
theorem zdo{pins:List (AI×Bu)}{s:AJ}{Q:VK}{us:List AG}{vs:List V}{E:XK}(F:yaJ X.prog X.w X.K X.mg X.base CX k f fd ps sp)(hr:yav k X.A)(hb:Binds X.K fd ps ds)(hd:Vals dvs ds)
  (I:Inv X pins σ H s) (r:Vals vs us) (h:sp (vs++dvs) H Q E) (hx:∀e s',CX X.stack H s E e s'->X.xe e s'):A1 (model X.prog X.w) X.A (call (.ref f) us) (EP X pins σ Q) X.xe s:=by
 have r2:Vals (vs++dvs) (us++ds):=r.append hd;have hl:(us++ds).length=ps.length:=by rw[<-r2.length];exact F.len _ _ _ _ h
 refine Ge (De (F.run X.A X.stack s H ⟨us,[]⟩ (us++ds) (vs++dvs) Q E hr I.env0 (hb s us I.kIn hl) r2 h) λr s' hq=>?_)
 cases r with
 |error e=>exact hx e s' hq
 |ok fl=>
  cases fl with
  |ret u=>exact I.after hq
  |next=>exact Bc hq
  |brk=>exact Bc hq
  |cont=>exact Bc hq
noncomputable def ycw(CX:CXT)(X:Cx)(sp:Sp)(dvs:List V)(t:TA):TE:=λσ H Q=>t σ H λvs H1=>∃E:XK,sp (vs++dvs) H1 Q E/\∀pins s e s',Inv X pins σ H1 s->CX X.stack H1 s E e s'->X.xe e s'
theorem ziS(F:yaJ X.prog X.w X.K X.mg X.base CX k f fd ps sp)(hr:yav k X.A)(hg:Gl X x)(hm:X.mg x=AA (.ref f))(hk:Ap X.K (.ref f)=AB)(hb:Binds X.K fd ps ds)(hd:Vals dvs ds)
  (ha:PA X (e::es) t) (hdb:(x==("__debug__":AQ))=false:=by decide) (he:starEach (e::es) X.env=(AC,eval e X.env)::starEach es X.env:=by rfl) (hpl:(backTo pos (starEach es X.env)).any (·.1)=false:=by rfl):
  PE X (.Call (.Name x p) (e::es) [] pos) (ycw CX X sp dvs t):=by
 intro pins s σ H Q I h;refine BY (zc8 I hg hm ?_ hdb);refine Cz (h₀:=X.base) I.ok.mod.kin hk (thn (ha pos pins s σ H _ I h) λus s1 kq=>?_) he hpl;let⟨vs,H1,I1,r,E,q,hx⟩:=kq;refine ⟨I1.kIn,?_⟩;exact zdo F hr hb hd I1 r q λe s' c=>hx pins s1 e s' I1 c
theorem zhX(F:yaJ X.prog X.w X.K X.mg X.base CX k f fd ps sp)(hr:yav k X.A)(hg:Gl X x)(hm:X.mg x=AA (.ref f))(hk:Ap X.K (.ref f)=AB)(hb:Binds X.K fd ps ds)(hd:Vals dvs ds)
  (hdb:(x==("__debug__":AQ))=false:=by decide):PE X (.Call (.Name x p) [] [] pos) (ycw CX X sp dvs yda):=by
 intro pins s σ H Q I h;let⟨E,q,hx⟩:=h;refine BY (zc8 I hg hm ?_ hdb);exact FX I.kIn hk (zdo F hr hb hd I .nil q λe s' c=>hx pins s e s' I c)
variable {B:AI->Prop}{φ:Ph}{st:SO}{ces:Ces}{fi:Nat}
theorem za9{vs:List PV}{xs:List V}{Q:VK}(rs:yx X.K S.cl B φ H st)(l:ye X.K S.cl B φ H vs xs)(h:Run S X σ B φ H (RV S X B) (S.call fi vs st) Q):
  ∃E:XK,spI X.K S.cl S.call fi xs H Q E/\∀pins s e s',Inv X pins σ H s->CX1 X.prog X.w X.stack H s E e s'->X.xe e s':=by
 cases c:S.call fi vs st with
 |ok v st'=>
  rw[c]at h;refine⟨λ_ _ _=>False,⟨B,φ,st,vs,rs,l,by rw[c];exact h⟩,λpins s e s' _ z=>?_⟩;let⟨_,_,_,_,_,_,_,_,_,_,_,_,_,_,z⟩:=z;exact z.elim
 |exc k st'=>
  rw[c]at h;refine⟨λcls _ H'=>cls=.ref (S.cl k)/\∃φ',Step φ H φ' H'/\yx X.K S.cl B φ' H' st',⟨B,φ,st,vs,rs,l,by rw[c];exact λH' φ' s r=>⟨rfl,φ',s,r⟩⟩,λpins s e s' I z=>h e s' (.inl ⟨pins,H,s,φ,I,.rfl,z⟩)⟩
 |bad=>rw[c]at h;exact h.elim
theorem zlF(F:yaJ X.prog X.w X.K X.mg X.base (CX1 X.prog X.w) k f fd ps (spI X.K S.cl S.call fi))(hr:yav k X.A)(hg:Gl X x)(hm:X.mg x=AA (.ref f))(hk:Ap X.K (.ref f)=AB)(hb:Binds X.K fd ps [])
  (ha:PA X (e::es) (tAs S X ces)) (hdb:(x==("__debug__":AQ))=false:=by decide) (he:starEach (e::es) X.env=(AC,eval e X.env)::starEach es X.env:=by rfl) (hpl:(backTo pos (starEach es X.env)).any (·.1)=false:=by rfl):
  PE X (.Call (.Name x p) (e::es) [] pos) (tE S X (.call fi ces)):=
 (ziS F hr hg hm hk hb .nil ha hdb he hpl).imp λσ H Q ⟨B,φ,st,ρ,rs,re,h⟩=>by
  erw[ev]at h;refine tAs.bind rs re h λxs H1 vs st1 φ1 s1 rs1 re1 rv h1=>?_;rw[BE];exact za9 rs1 rv h1
theorem zjE(F:yaJ X.prog X.w X.K X.mg X.base (CX1 X.prog X.w) k f fd ps (spI X.K S.cl S.call fi))(hr:yav k X.A)(hg:Gl X x)(hm:X.mg x=AA (.ref f))(hk:Ap X.K (.ref f)=AB)(hb:Binds X.K fd ps [])
  (hdb:(x==("__debug__":AQ))=false:=by decide):PE X (.Call (.Name x p) [] [] pos) (tE S X (.call fi .nil)):=
 (zhX F hr hg hm hk hb .nil hdb).imp λσ H Q ⟨B,φ,st,ρ,rs,re,h⟩=>by
  erw[ev,evs,R.bind]at h;exact za9 rs (by erw[ye];rfl) h
end
section
variable {P:A8}{w:Aj}{K:AE}{mg:AQ->Option AG}{base:BB}{cl:Nat->AI}{T:Nat->Option IC.Fn}{fi:Nat}{fn:IC.Fn}{x qual:AQ}{stm:Bp}{f:AI}{fd:BC}{N ps:List AQ}{k:Nat}
theorem CX1.mono{outer:List BX}{H:Hp}{s:AJ}{E E':XK}{e:AG}{s':AJ}(h:CX1 P w outer H s E e s')(n:∀cls H',E cls AD H'->E' cls AD H'):CX1 P w outer H s E' e s':=by
 let⟨a,cls,a0,H',Bh,r1,r2,r3,r4,r5,r6,r7,r8,r9,r10⟩:=h;exact⟨a,cls,a0,H',Bh,r1,r2,r3,r4,r5,r6,r7,r8,r9,n _ _ r10⟩
theorem yL.start{B:AI->Prop}{φ:Ph}{H:Hp}{args:List PV}{vs:List V}(l:ye K cl B φ H args vs)(n:Nat)(hn:N.length-vs.length=n):yL K cl B φ H (args.map AA++Ae n AD) (L2.start N vs):=by
 have hl:=l.length;unfold L2.start;refine⟨by simp[hl,hn],λi v e=>?_⟩
 by_cases hi:i<args.length
 .rw[Ag (by simpa using hi),Bq]at e
  cases q:args[i]? with
  |none=>rw[q]at e;cases e
  |some v'=>
   rw[q]at e
   cases e
   let⟨y,hy,rv⟩:=l.get i q;exact⟨y,by rw[Ag (by simp;lia),Bq,hy];rfl,rv⟩
 .rw[Am (by simp;lia),Eb]at e;split at e<;>cases e
theorem leave{N:List AQ}{scope:Bi}{cd:AG}{A:Ao}{outer:List BX}{s₀:AJ}{H₀:Hp}{E:XK}{call:Nat->List PV->SO->R PV}{σ:St}{B:AI->Prop}{φ:Ph}{H:Hp}{c:Nat}{st':SO}{e:AG}{s':AJ}
  (h:ExcAt ⟨cl,call,AB⟩ (yaX (CX1 P w) P w K mg base N qual scope f cd A outer s₀ H₀ E) σ B φ H c st' e s') (n:∀φ' H',Step φ H φ' H'->yx K cl B φ' H' st'->E (.ref (cl c)) AD H'):
  (yaX (CX1 P w) P w K mg base N qual scope f cd A outer s₀ H₀ E).xe e s':=by
 rcases h with⟨pins,H1,s,φ1,I,s1,q⟩|⟨_,pins,H1,s,φ1,h',e0,vs,I,s1,rs,mk,rfl,rfl⟩|⟨_,pins,H1,s,I,q⟩
 .exact yee pins σ H1 s e s' I (q.mono λcls H' ⟨e1,φ',s2,r⟩=>by subst e1;exact n φ' H' (s1.trans s2) r)
 .exact zhM I mk (n φ1 H1 s1 rs)
 .exact yep I (q.mono λcls H' ⟨e1,φ',s2,r⟩=>by subst e1;exact n φ' H' s2 r)
theorem zkh(hT:T fi=AA fn):∀(args:List PV) (st:SO),yc T (k+1) fi args st ≠ .bad->args.length=fn.np:=λargs st hne=>by
 apply Classical.byContradiction;intro c;apply hne;rw[yc,hT];exact if_neg c
theorem zn8(hT:T fi=AA fn)(hnp:ps.length=fn.np){vs:List V}{H:Hp}{Q:VK}{E:XK}(h:spI K cl (yc T (k+1)) fi vs H Q E):vs.length=ps.length:=by
 let⟨B,φ,st,args,rs,l,h⟩:=h;rw[hnp,<-l.length];refine zkh (k:=k) hT args st λz=>?_;rw[z]at h;exact h
theorem zk0(hT:T fi=AA fn)(hns:N.length=fn.ns){scope:Bi}{cdv:AG}{A:Ao}{outer:List BX}{s:AJ}{vs:List V}{H:Hp}{Q:VK}{E:XK}(h:spI K cl (yc T (k+1)) fi vs H Q E):
  tSs ⟨cl,yc T k,AB⟩ (yaX (CX1 P w) P w K mg base N qual scope f cdv A outer s H E) fn.body {nx:=λ_ H'=>Q .non H',rt:=Q} (L2.start N vs) H:=by
 let⟨B,φ,st,args,rs,l,h⟩:=h;have hl:args.length=fn.np:=zkh (k:=k) hT args st λz=>by rw[z]at h;exact h
 have hlen:=l.length;rw[yc,hT]at h;dsimp only at h;rw[if_pos hl]at h
 by_cases hp:fn.pure=AB
 .rw[if_pos hp]at h
  by_cases hz:nLs args=AB
  .rw[if_pos hz]at h;have rs0:yx K cl (λa=>B a \/ AA a∈φ) [] H []:=⟨rfl,λm n a e=>by simp at e,λn a e=>by simp at e,λn o e=>by simp at e,λa z=>by simp at z,λa z=>z.elim (rs.dom a) rs.there⟩;have back:∀{φ':Ph} {H':Hp},Step [] H φ' H'->Step φ H φ H'/\yx K cl B φ H' st:=λ{φ' H'} s'=>
    have kk:∀b o,H b=AA o->H' b=AA o:=λb o e=>s'.keep b o (by simp) e
    ⟨⟨λb o _ e=>kk b o e,AU _,λ_ _ _ e=>e,λ_ h=>.inl h⟩,rs.same kk⟩
   refine⟨_,[],[],_,rs0,yL.start (ye.inn rs.nb args vs hz l) (fn.ns-fn.np) (by lia),?_⟩;show yaE _ _ _ _ _ (exs (yc T k) (args.map AA++Ae (fn.ns-fn.np) AD) [] fn.body) _
   cases e:exs (yc T k) (args.map AA++Ae (fn.ns-fn.np) AD) [] fn.body with
   |nx ρ' st'=>
    rw[e]at h;intro σ' H' φ' s' rs' re';let⟨s2,r2⟩:=back s';exact h .non H' φ s2 r2 (by erw[yd])
   |rt v st'=>
    rw[e]at h;dsimp only at h
    by_cases hv:nL v=AB
    .rw[if_pos hv]at h;intro y H' φ' s' rs' rv;let⟨s2,r2⟩:=back s';exact h y H' φ s2 r2 (yd.out v y hv rv)
    .rw[if_neg hv]at h;exact h.elim
   |exc c ρ' st'=>
    rw[e]at h;intro σ' φ1 H1 ev s' s1 _ ex;refine leave ex λφ2 H2 s2 _=>?_;let⟨s3,r3⟩:=back (s1.trans s2);exact h H2 φ s3 r3
   |bk ρ' st'=>rw[e]at h;exact h.elim
   |ct ρ' st'=>rw[e]at h;exact h.elim
   |bad=>rw[e]at h;exact h.elim
  .rw[if_neg hz]at h;exact h.elim
 .rw[if_neg hp]at h;refine⟨B,φ,st,_,rs,yL.start l (fn.ns-fn.np) (by lia),?_⟩;show yaE _ _ _ _ _ (exs (yc T k) (args.map AA++Ae (fn.ns-fn.np) AD) st fn.body) _
  cases e:exs (yc T k) (args.map AA++Ae (fn.ns-fn.np) AD) st fn.body with
  |nx ρ' st'=>
   rw[e]at h;intro σ' H' φ' s' rs' re';exact h .non H' φ' s' rs' (by erw[yd])
  |rt v st'=>
   rw[e]at h;intro y H' φ' s' rs' rv;exact h y H' φ' s' rs' rv
  |exc c ρ' st'=>
   rw[e]at h;intro σ' φ1 H1 ev s' s1 _ ex;exact leave ex λφ2 H2 s2 r2=>h H2 φ2 (s1.trans s2) r2
  |bk ρ' st'=>rw[e]at h;exact h.elim
  |ct ρ' st'=>rw[e]at h;exact h.elim
  |bad=>rw[e]at h;exact h.elim
end
noncomputable def tyN:Ty->String
 |.int=>"int" | .bool=>"bool" | .str=>"str" | .tuple=>"tuple" | .list=>"list" | _=>""
structure yeS(K:AE)(t:Ty):Prop where
 n:BZ K (.type "NoneType") (.type (tyN t))=AA (ybz .non t)
 b:BZ K (.type "bool") (.type (tyN t))=AA (ybz (.bl AB) t)
 i:BZ K (.type "int") (.type (tyN t))=AA (ybz (.int 0) t)
 s:BZ K (.type "str") (.type (tyN t))=AA (ybz (.str GM) t)
 p:BZ K (.type "tuple") (.type (tyN t))=AA (ybz (.tp AB []) t)
 l:BZ K (.type "list") (.type (tyN t))=AA (ybz (.lst []) t)
section
variable {S:Se}{X:Cx}{σ:St}{B:AI->Prop}{φ:Ph}{H:Hp}{st:SO}{p pos p2 px:CJ}{a b c d o:AT}{ca cb cc:Ce}{t:Ty}
def yfr(S:Se)(X:Cx)(t:Ty):List V->Hp->VK->Prop:=λxs H Q=>∃B φ st v x z,xs=[x,.ty (tyN t)]/\yx X.K S.cl B φ H st/\yd X.K S.cl B φ H v x/\yaK v [t]=AA z/\ydG t=AB /\
 ∀z' H' φ',Step φ H φ' H'->yx X.K S.cl B φ' H' st->yd X.K S.cl B φ' H' z z'->Q z' H'
theorem zng(Z:yeS X.K t):yae X (.builtin "isinstance") (yfr S X t):=by
 rintro pins s σ H xs us Q I r ⟨B,φ,st,v,x,z,rfl,rs,rv,e,hb,q⟩
 let⟨u,c',rfl,ru,rc⟩:=vals2 r
 cases (show c'=F8 (tyN t)from rc)
 have fin:∀(k:Bool) (tk:Nat),z=.bl k->EP X pins σ Q (.bool k) {s with toks:=tk}:=λk tk ez=>⟨.bl k,H,I.tok tk,rfl,q _ H φ .rfl rs (by subst ez;erw[yd])⟩
 cases v with
 |non=>
  erw[yd]at rv;subst rv
  cases (show u=Bz from ru)
  erw[yaK,hb,if_true]at e;exact C6 PySem.W.kitx_none I.kIn C1 Z.n (λz=>nomatch z) λtk=>fin _ tk (by cases e;cases t<;>rfl)
 |bl k=>
  erw[yd]at rv;subst rv
  cases (show u=Do k from ru)
  erw[yaK,hb,if_true]at e;exact C6 PySem.W.kitx_bool I.kIn C1 Z.b (λz=>nomatch z) λtk=>fin _ tk (by cases e;cases t<;>rfl)
 |int k=>
  erw[yd]at rv;subst rv;let⟨tk,rfl⟩:=ru;erw[yaK,hb,if_true]at e;exact C6 PySem.W.kitx_int I.kIn C1 Z.i (λz=>nomatch z) λtk=>fin _ tk (by cases e;cases t<;>rfl)
 |str k=>
  erw[yd]at rv;subst rv;let⟨tk,rfl⟩:=ru;erw[yaK,hb,if_true]at e;exact C6 PySem.W.kitx_str I.kIn C1 Z.s (λz=>nomatch z) λtk=>fin _ tk (by cases e;cases t<;>rfl)
 |tp k vs=>
  erw[yd]at rv;let⟨y,ys,rfl,rt,l⟩:=rv
  cases (show u=Ah y from ru)
  erw[yaK,hb,if_true]at e;let⟨its,_,⟨o,g,c,_,_⟩,_⟩:=I.tuple rt.sq;exact C6 PySem.W.kitx_tuple I.kIn ⟨o,g,c⟩ Z.p (λz=>nomatch z) λtk=>fin _ tk (by cases e;cases t<;>rfl)
 |lst vs=>
  erw[yd]at rv;let⟨y,ys,rfl,rt,l⟩:=rv
  cases (show u=Ah y from ru)
  erw[yaK,hb,if_true]at e;let⟨_,_,n,_,h1⟩:=(show yV X.prog X.w H s.heap y (.lst ys)from I.hok y _ rt.1);exact C6 PySem.W.kitx_list I.kIn ⟨_,h1,rfl⟩ Z.l (λz=>nomatch z) λtk=>fin _ tk (by cases e;cases t<;>rfl)
 |loc n=>cases e
 |scr n=>cases e
 |exn n=>erw[yaK,B8,List.all_nil,hb,Cv,if_true]at e;cases e
theorem zmM{T:AQ}(Z:yeS X.K t)(ht:ydG t=AB)(hg:Gl X "isinstance")(hm:X.mg "isinstance"=AD)(hgT:Gl X T)(hmT:X.mg T=AD)(hT:bootBuiltins T=AA (.type (tyN t)))(ha:PE X a (tE S X ca))(hnT:T ≠ "__name__":=by decide)(hdT:(T==("__debug__":AQ))=false:=by decide)
  (he:starEach [a,.Name T p2] X.env=(AC,eval a X.env)::starEach [.Name T p2] X.env:=by rfl) (hpl:(backTo pos (starEach [.Name T p2] X.env)).any (·.1)=false:=by rfl):
  PE X (.Call (.Name "isinstance" p) [a,.Name T p2] [] pos) (tE S X (.isi ca [t])):=
 (zfJ (zng Z) hg hm G5 (zby ha (zby (zkR (v:=.ty (tyN t)) hgT hmT hT rfl hnT hdT) ybm) he) (by decide) (by decide) he hpl).imp λσ H Q ⟨B,φ,st,ρ,rs,re,h⟩=>by
  erw[ev]at h;refine tE.bind rs re h λx H1 v st1 φ1 s1 rs1 re1 rv h1=>?_;let⟨z,e,q⟩:=zac h1 rs1;exact⟨B,φ1,st1,v,x,z,rfl,rs1,rv,e,ht,q⟩
theorem zjN{st4:SO}{x y v:PV}(h:ybB st x y v=AA st4):∃n xs k j,x=.loc n/\st[n]?=AA (.lst xs)/\y=.int k/\ixI xs.length k=AA j/\st4=st.set n (.lst (xs.set j v)):=by
 cases x with
 |loc n=>
  erw[ybB]at h
  cases q:st[n]? with
  |none=>rw[q]at h;cases h
  |some o=>
   rw[q]at h
   cases o with
   |lst xs=>
    cases y with
    |int k=>
     dsimp only at h
     cases q2:ixI xs.length k with
     |none=>rw[q2]at h;cases h
     |some j=>rw[q2]at h;exact⟨n,xs,k,j,rfl,q,rfl,q2,(AY h).symm⟩
    |_=>cases h
   |_=>cases h
 |_=>cases h
theorem ye.put{K:AE}{cl:Nat->AI}:∀{vs:List PV} {xs:List V} (j:Nat) {v:PV} {x:V},ye K cl B φ H vs xs->yd K cl B φ H v x->ye K cl B φ H (vs.set j v) (xs.set j x)
 |[],xs,j,v,x,l,r=>by erw[ye]at l;subst l;simp[ye]
 |w::vs,xs,0,v,x,l,r=>by
  erw[ye]at l;let⟨y,ys,rfl,_,l⟩:=l;erw[A5,ye];exact⟨x,ys,rfl,r,l⟩
 |w::vs,xs,j+1,v,x,l,r=>by
  erw[ye]at l;let⟨y,ys,rfl,ry,l⟩:=l;erw[A6,ye];exact⟨y,ys.set j x,rfl,ry,ye.put j l r⟩
theorem zm3(he:PE X a (tE S X ca))(ho:PE X b (tE S X cb))(hi:PE X c (tE S X cc))(hs:swapsWithSole [.Subscript b c px] a pos.line X.env=pure false:=by rfl)(hw:swappedStores [.Subscript b c px] a X.env=pure none:=by rfl)
  (hg:PG X (.Subscript b c px) (yfn (tE S X cb) (tE S X cc) ydy):=by exact zke ‹_› ‹_› zgk):PS X (.Assign [.Subscript b c px] a pos) (tS S X (.six cb cc ca)):=
 (zkF he hg hs hw).imp λD σ H ⟨B,φ,st,ρ,rs,re,h⟩=>by
  erw[ex]at h;refine tE.fl rs re h λv' H1 v st1 φ1 s1 rs1 re1 rv h1=>tE.fl rs1 re1 h1 λx' H2 x st2 φ2 s2 rs2 re2 rx h2=>tE.fl rs2 re2 h2 λy' H3 y st3 φ3 s3 rs3 re3 ry h3=>?_
  cases e:ybB st3 x y v with
  |none=>rw[e]at h3;exact h3.elim
  |some st4=>
   rw[e]at h3;let⟨n,xs,k,j,rfl,hn,rfl,hj,rfl⟩:=zjN e;erw[yd]at ry;subst ry;let⟨l,ys,rfl,hp,hx,lr⟩:=rs3.list (rx.step s3) hn;refine⟨l,ys,k,j,rfl,rfl,hx,by rw[<-lr.length];exact hj,?_⟩;have s4:Step φ3 H3 φ3 (L2.upd H3 l (.lst (ys.set j v'))):=.put (A2 hp);exact h3 σ _ φ3 s4 (rs3.put hp ⟨_,zr,(lr.put j ((rv.step s2).step s3)).step s4⟩) (re3.step s4)
end
section
variable {S:Se}{X:Cx}{σ:St}{B:AI->Prop}{φ:Ph}{H:Hp}{st:SO}{p pos p2 px py pt pt2 apos:CJ}{a b c d o:AT}{ca cb cc:Ce}{kt k2:Nat}
theorem znI{i j:Nat}{x y:AQ}(hc:X.calm=AB)(hN:X.N.Nodup)(hi:X.N[i]?=AA x)(hj:X.N[j]?=AA y)(hij:i≠j)(h:PS X (.Assign [.Tuple [.Name x px,.Name y py] kt pt] (.Tuple [a,b] k2 pt2) pos) (yff i j (tAs S X (.cons ca (.cons cb .nil))))):
  PS X (.Assign [.Tuple [.Name x px,.Name y py] kt pt] (.Tuple [a,b] k2 pt2) pos) (tS S X (.asg (.t [i,j]) (.tup (.cons ca (.cons cb .nil))))):=
 h.imp λD σ H ⟨B,φ,st,ρ,rs,re,h⟩=>by
  erw[ex,ev]at h;refine⟨B,φ,st,ρ,rs,re,?_⟩
  cases e:evs S.call ρ st (.cons ca (.cons cb .nil))with
  |bad=>rw[e]at h;exact h
  |exc k st'=>rw[e]at h;exact λe s' x=>h σ φ H e s' .rfl re x
  |ok vs st'=>
   rw[e]at h;intro xs H' φ' s rs' l;erw[R.bind]at h;split at h
   .rcases vs with _|⟨v,_|⟨w,_|⟨u,t⟩⟩⟩
    .exact h.elim
    .exact h.elim
    .let⟨v',w',rfl,rv,rw⟩:=l.two;refine⟨v',w',rfl,?_⟩;exact h _ H' φ' s rs' (((re.step s).set i rv).set j rw)
    .exact h.elim
   .exact h.elim
theorem zmc{bo:BOp}{v w z:PV}(h:ybP bo v w=AA z):∃i j,v=.int i/\w=.int j/\IC.binI bo i j=AA z:=by
 unfold ybP at h;split at h
 .exact⟨_,_,rfl,rfl,h⟩
 .cases h
theorem zkO:PIp X .Add (rT2 S X (ybP .add)):=by
 rintro pins s σ H x y v u Q I rx ry ⟨B,φ,st,a,b,z,rs,ra,rb,e,q⟩
 let⟨i,j,rfl,rfl,e⟩:=zmc e
 cases e
 erw[yd]at ra rb;subst ra rb;exact zoO pins s σ H _ _ v u Q I rx ry ⟨i,j,rfl,rfl,q _ H φ .rfl rs (by erw[yd])⟩
end
end L2
namespace WK
open PySem L2 IC
def GC(K:AE)(mg:AQ->Option AG)(cl:Nat->AI)(x:AQ)(v:PV):Prop:=∃y:AI,mg x=AA (.ref y)/\∀B φ H,yd K cl B φ H v (.ref y)
theorem zo0{S:Se}{X:Cx}{x:AQ}{v:PV}{pos:CJ}(hg:Gl X x)(h:GC X.K X.mg S.cl x v)(hd:(x==("__debug__":AQ))=false:=by decide):PE X (.Name x pos) (tE S X (.cst v)):=by
 let⟨y,hm,hk⟩:=h;exact zmd hg hm hk hd
theorem zky:bootBuiltins "int"=AA (.type "int"):=by decide +kernel
theorem zmh:bootBuiltins "bool"=AA (.type "bool"):=by decide +kernel
theorem zn7:bootBuiltins "str"=AA (.type "str"):=by decide +kernel
theorem zfN:bootBuiltins "tuple"=AA (.type "tuple"):=by decide +kernel
theorem znw:bootBuiltins "len"=AA (.builtin "len"):=by decide +kernel
theorem zow:bootBuiltins "abs"=AA (.builtin "abs"):=by decide +kernel
theorem zoj:bootBuiltins "min"=AA (.builtin "min"):=by decide +kernel
theorem zmX:bootBuiltins "max"=AA (.builtin "max"):=by decide +kernel
theorem zos:bootBuiltins "all"=AA (.builtin "all"):=by decide +kernel
theorem zmf{k:Nat}{A:Ao}(r:yav k A):A.units+1<cLine:=by have:=r.units;lia
end WK
namespace L2
open PySem PySem.Spec PyProof.Rows IC
noncomputable def shC:Sum Ce Int->Option Int
 |.inl _=>AD
 |.inr i=>AA i
noncomputable def yaS:List (Option Int)->List V->List V
 |[],_=>[]
 |some i::r,zs=>.int i::yaS r zs
 |none::r,z::zs=>z::yaS r zs
 |none::_,[]=>[]
noncomputable def pick:List (Option Int)->List V->List V
 |none::r,v::vs=>v::pick r vs
 |some _::r,_::vs=>pick r vs
 |_,_=>[]
noncomputable def nKw:List (Option Int)->Nat
 |[]=>0
 |none::r=>nKw r+1
 |some _::r=>nKw r
noncomputable def ycY:Ces->Nat
 |.nil=>0
 |.cons _ r=>ycY r+1
def gK(np:Nat)(sh:List (Option Int))(vs zs:List V):List V:=if vs.length=np/\zs.length=nKw sh then vs++yaS sh zs else []
theorem zhA{call:Nat->List PV->SO->R PV}{ρ:IC.Env}:∀(a:Ces) {st st':SO} {vs:List PV},evs call ρ st a=.ok vs st'->vs.length=ycY a
 |.nil,st,st',vs,h=>by erw[evs]at h;cases h;rfl
 |.cons e r,st,st',vs,h=>by
  erw[evs]at h
  cases q:ev call ρ st e with
  |ok v s1=>
   rw[q]at h;erw[R.bind]at h
   cases q2:evs call ρ s1 r with
   |ok ws s2=>
    rw[q2]at h
    cases h
    simp[ycY,zhA r q2]
   |exc c s=>rw[q2]at h;cases h
   |bad=>rw[q2]at h;cases h
  |exc c s=>rw[q]at h;cases h
  |bad=>rw[q]at h;cases h
theorem ziG{call:Nat->List PV->SO->R PV}{ρ:IC.Env}:∀(a b:Ces) (st:SO),evs call ρ st (ya7 a b)=(evs call ρ st a).bind λvs st1=>(evs call ρ st1 b).bind λws st2=>.ok (vs++ws) st2
 |.nil,b,st=>by
  erw[ya7,evs,R.bind,As]
  cases evs call ρ st b<;>rfl
 |.cons e r,b,st=>by
  erw[ya7,evs]
  cases ev call ρ st e with
  |ok v st1=>
   erw[R.bind];rw[ziG r b st1]
   cases evs call ρ st1 r with
   |ok vs st2=>
    erw[R.bind]
    cases evs call ρ st2 b<;>rfl
   |exc c s=>rfl
   |bad=>rfl
  |exc c s=>rfl
  |bad=>rfl
section
variable {S:Se}{X:Cx}{k:Nat}{f:AI}{fd:BC}{ps ks:List AQ}{sp:Sp}{x:AQ}{p pos kpos:CJ}{e:AT}{es:List AT}{kws:List CQ}{nm:Option AQ}{t tk:TA}{CX:CXT}{ca:Ce}{ces:Ces}{items:List (Sum Ce Int)}{g:List AG->List AG->List AG}{gV:List V->List V->List V}
theorem zcf{K:AE}{cl:Nat->AI}{B:AI->Prop}{φ:Ph}{H:Hp}{call:Nat->List PV->SO->R PV}{ρ:IC.Env}:∀(items:List (Sum Ce Int)) {st st':SO} {vs:List PV} {xs:List V},evs call ρ st (yR items)=.ok vs st'->ye K cl B φ H vs xs->yaS (items.map shC) (pick (items.map shC) xs)=xs/\(pick (items.map shC) xs).length=nKw (items.map shC)
 |[],st,st',vs,xs,h,l=>by
  erw[yR,evs]at h
  cases h
  erw[ye]at l;subst l;exact⟨rfl,rfl⟩
 |.inl c::r,st,st',vs,xs,h,l=>by
  erw[yR,evs]at h;let⟨v,s1,e1,h⟩:=zaX h;let⟨ws,s2,e2,h⟩:=zaX h
  cases h
  erw[ye]at l;let⟨y,ys,rfl,_,l⟩:=l;let⟨q1,q2⟩:=zcf r e2 l;erw[AL,shC,pick,yaS,nKw,AS,q1,q2];exact⟨trivial,trivial⟩
 |.inr i::r,st,st',vs,xs,h,l=>by
  erw[yR,evs,ev]at h;let⟨v,s1,e1,h⟩:=zaX h;let⟨ws,s2,e2,h⟩:=zaX h
  cases h
  cases e1
  erw[ye,yd]at l;let⟨y,ys,rfl,rfl,l⟩:=l;let⟨q1,q2⟩:=zcf r e2 l;erw[AL,shC,pick,yaS,nKw,q1,q2];exact⟨trivial,trivial⟩
def tK(S:Se)(X:Cx)(items:List (Sum Ce Int)):TA:=λσ H Q=>∃B φ st ρ,yx X.K S.cl B φ H st/\yL X.K S.cl B φ H ρ σ/\Run S X σ B φ H (RL S X B) (evs S.call ρ st (yR items)) λxs H'=>Q (pick (items.map shC) xs) H'
theorem PK.imp{t t':TA}(h:PK X kws t')(k:∀σ H Q,t σ H Q->t' σ H Q):PK X kws t:=λpos pins s σ H Q I q=>h pos pins s σ H Q I (k σ H Q q)
theorem zoY:PK X [] (tK S X []):=ydD.imp λσ H Q ⟨B,φ,st,ρ,rs,re,h⟩=>by
 erw[yR,evs]at h;exact h.ok rs (x:=[]) (by erw[ye])
theorem zpC{i:Int}(h:PK X kws (tK S X items)):PK X kws (tK S X (.inr i::items)):=h.imp λσ H Q ⟨B,φ,st,ρ,rs,re,h⟩=>by
 erw[yR,evs,ev,R.bind]at h;refine⟨B,φ,st,ρ,rs,re,?_⟩
 cases e:evs S.call ρ st (yR items)with
 |ok vs st'=>
  rw[e]at h;intro xs H' φ' s rs' l;exact h (.int i::xs) H' φ' s rs' (by erw[ye,yd];exact⟨_,_,rfl,rfl,l⟩)
 |exc c s=>rw[e]at h;exact h
 |bad=>rw[e]at h;exact h
theorem zpt(ha:PE X e (tE S X ca))(h:PK X kws (tK S X items)):PK X (⟨nm,e,kpos⟩ :: kws) (tK S X (.inl ca::items)):=(zlp ha h).imp λσ H Q ⟨B,φ,st,ρ,rs,re,h⟩=>by
 erw[yR,evs]at h;refine tE.bind rs re h λx H1 v st1 φ1 s1 rs1 re1 rv h1=>⟨B,φ1,st1,ρ,rs1,re1,?_⟩;refine(Run.bind (Rel:=RL S X B) h1).mono λxs H2 kq=>?_;let⟨ws,st2,φ2,s2,rs2,l,h2⟩:=kq;exact h2.ok rs2 (x:=x::xs) (by erw[ye];exact⟨x,xs,rfl,rv.step s2,l⟩)
theorem zjd{fi:Nat}(F:yaJ X.prog X.w X.K X.mg X.base (CX1 X.prog X.w) k f fd ps (spI X.K S.cl S.call fi))(hr:yav k X.A)(hg:Gl X x)(hm:X.mg x=AA (.ref f))(hk:Ap X.K (.ref f)=AB){np:Nat}(hb:∃g,ybD X.K fd ps ks g (gK np (items.map shC)))(hnp:ycY ces=np)
  (ha:PA X (e::es) (tAs S X ces)) (hkw:PK X kws (tK S X items)) (hall:(backToKw pos (keywordEach kws X.env)).all (·.1.isSome)=true:=by rfl) (hks:(backToKw pos (keywordEach kws X.env)).filterMap (·.1)=ks:=by rfl)
  (hdb:(x==("__debug__":AQ))=false:=by decide) (he:starEach (e::es) X.env=(AC,eval e X.env)::starEach es X.env:=by rfl)
  (hpl:((backTo pos (starEach (e::es) X.env)).any (·.1) || (backToKw pos (keywordEach kws X.env)).any (·.1.isNone))=false:=by rfl):
  PE X (.Call (.Name x p) (e::es) kws pos) (tE S X (.call fi (ya7 ces (yR items)))):=by
 intro pins s σ H Q I ⟨B,φ,st,ρ,rs,re,h⟩;erw[ev]at h;rw[ziG,R.bind_assoc]at h;refine BY (zc8 I hg hm ?_ hdb);have h0:tAs S X ces σ H λvs H1=>tK S X items σ H1 λzs H2=>∃E:XK,spI X.K S.cl S.call fi (gK np (items.map shC) vs zs) H2 Q E/\∀pins s e s',Inv X pins σ H2 s->CX1 X.prog X.w X.stack H2 s E e s'->X.xe e s':=by
  have hlen:∀vs st',evs S.call ρ st ces=.ok vs st'->vs.length=np:=λvs st' q=>(zhA ces q).trans hnp;refine⟨B,φ,st,ρ,rs,re,?_⟩
  cases q:evs S.call ρ st ces with
  |exc c s=>rw[q]at h;exact h
  |bad=>rw[q]at h;exact h
  |ok vs st1=>
  rw[q]at h;intro xs H1 φ1 s1 rs1 rv;have h1:=Run.on s1 h;have re1:=re.step s1;have hv:=hlen vs st1 q;refine⟨B,φ1,st1,ρ,rs1,re1,?_⟩;have h1:Run S X σ B φ1 H1 (RV S X B) (((evs S.call ρ st1 (yR items)).bind λa st=>(R.ok (vs++a) st:R (List PV))).bind λvs st1=>S.call fi vs st1) Q:=h1;rw[R.bind_assoc]at h1
  cases e:evs S.call ρ st1 (yR items)with
  |ok ws st2=>
   rw[e]at h1;intro ys H2 φ2 s2 rs2 l2;let⟨m1,m2⟩:=zcf items e l2;have eg:gK np (items.map shC) xs (pick (items.map shC) ys)=xs++ys:=by
    unfold gK;rw[if_pos ⟨by rw[<-rv.length];exact hv,m2⟩,m1]
   show ∃E:XK,spI X.K S.cl S.call fi (gK np (items.map shC) xs (pick (items.map shC) ys)) H2 Q E/\_;rw[eg];exact za9 rs2 ((rv.step s2).append l2) (Run.on s2 h1)
  |exc c s=>rw[e]at h1;exact h1
  |bad=>rw[e]at h1;exact h1
 refine PySem.W.callWith_KW (h₀:=X.base) I.ok.mod.kin hk hall (thn (ha pos pins s σ H _ I h0) λus s1 kq=>?_) hpl he;let⟨vs,H1,I1,r,q⟩:=kq;refine thn (hkw pos pins s1 σ H1 _ I1 q) λws s2 kq=>?_;let⟨zs,H2,I2,rz,E,q2,hx⟩:=kq;refine ⟨I2.kIn,?_⟩;rw[hks];let⟨g,hb⟩:=hb;have r2:=hb.rel r rz;have hl:(g us ws).length=ps.length:=by rw[<-r2.length];exact F.len _ _ _ _ q2
 refine Ge (De (F.run X.A X.stack s2 H2 ⟨us,ks.zip ws⟩ (g us ws) (gK np (items.map shC) vs zs) Q E hr I2.env0 (hb.to s2 us ws I2.kIn hl) r2 q2) λr s' hq=>?_)
 cases r with
 |error e=>exact hx pins s2 e s' I2 hq
 |ok fl=>
  cases fl with
  |ret u=>exact I2.after hq
  |next=>exact Bc hq
  |brk=>exact Bc hq
  |cont=>exact Bc hq
end
noncomputable def ya8:List (Option Int)->List AG->List AG->List AG
 |[],_,_=>[]
 |some _::r,ws,d::ds=>d::ya8 r ws ds
 |none::r,w::ws,_::ds=>w::ya8 r ws ds
 |_,_,_=>[]
theorem zdp:∀(sh:List (Option Int)) (ds:List Int) {zs:List V} {ws us:List AG},Vals (ds.map V.int) us->Vals zs ws->sh.length=ds.length->(∀p∈sh.zip ds,∀i,p.1=AA i->i=p.2)->Vals (yaS sh zs) (ya8 sh ws us)
 |[],ds,zs,ws,us,r,q,hl,h=>.nil
 |some i::r,[],zs,ws,us,rr,q,hl,h=>by simp at hl
 |some i::r,d::ds,zs,ws,_,.cons a b,q,hl,h=>by
  have:i=d:=h (AA i,d) (by simp) i rfl;subst this;exact .cons a (zdp r ds b q (by simpa using hl) λp hp=>h p (by simp[hp]))
 |none::r,[],zs,ws,us,rr,q,hl,h=>by simp at hl
 |none::r,d::ds,_,_,_,.cons a b,.nil,hl,h=>.nil
 |none::r,d::ds,_,_,_,.cons a b,.cons c q,hl,h=>.cons c (zdp r ds b q (by simpa using hl) λp hp=>h p (by simp[hp]))
structure FnD(K:AE)(mg:AQ->Option AG)(x:AQ)(st:Bp)(ps:List AQ)(ds:List Int)(f:AI)(fd:BC):Prop where
 ex:∃(oc:AG) (od:Option AI) (dT:AI) (kV doc pm:AG) (an:Option AI) (cdv ct:AG) (osl:Array (Option AG)) (o:Bu) (its:Array AG) (n:Nat),
  fd=B2 x x (yaf st) (yab st) (yH st) (.ref dT) kV doc pm an cdv ct/\K.lookup f=AA ⟨oc,od,.func fd,osl⟩/\CA K cdv x=AB/\K.lookup dT=AA o/\o.data=.seq its n/\Vals (ds.map V.int) its.toList
 kp:Ap K (.ref f)=AB
 m:mg x=AA (.ref f)
theorem kbD{K:AE}{mg:AQ->Option AG}{x:AQ}{st:Bp}{ps ks:List AQ}{ds:List Int}{f:AI}{fd:BC}{np off:Nat}{sh:List (Option Int)}(D:FnD K mg x st ps ds f fd)(hnk:ks.length=nKw sh)(hsh:sh.length=(ds.drop off).length)(hd':((sh.zip (ds.drop off)).all λp=>p.1.all λi=>decide (i=p.2))=AB)
  (h:∀(dT:AI) (kV doc pm:AG) (an:Option AI) (cdv ct:AG) (us ws its:List AG),us.length=np->ws.length=ks.length->its.length=ds.length ->
   ∃k,bindArgs (B2 x x (yaf st) (yab st) (yH st) (.ref dT) kV doc pm an cdv ct) ⟨us,ks.zip ws⟩=seqItems? (.ref dT) >>= k/\k (AA its.toArray)=pure (ps.zip (us++ya8 sh ws (its.drop off)))) (hps:0<ps.length):
  ∃g,ybD K fd ps ks g (gK np sh):=by
 have hd:∀p∈sh.zip (ds.drop off),∀i,p.1=AA i->i=p.2:=λp hp i hi=>by
  have:=BP.mp hd' p hp;rw[hi]at this;simpa using this
 let⟨oc,od,dT,kV,doc,pm,an,cdv,ct,osl,o,its,n,rfl,lk,hcd,lo,hs,r⟩:=D.ex;refine⟨λus ws=>if us.length=np/\ws.length=nKw sh then us++ya8 sh ws (its.toList.drop off)else [],⟨λs us ws KX hl=>?_,λ{vs us zs ws} rv rz=>?_⟩⟩
 .by_cases c:us.length=np/\ws.length=nKw sh
  .rw[if_pos c]at hl ⊢;let⟨k,h1,h2⟩:=h dT kV doc pm an cdv ct us ws its.toList c.1 (by rw[hnk];exact c.2) (by rw[<-r.length,BD]);exact BindsTo.of_defaults rfl (KX _ _ lo) hs h1 (by simpa using h2)
  .rw[if_neg c]at hl;simp at hl;lia
 .unfold gK;have e1:=rv.length;have e2:=rz.length
  by_cases c:us.length=np/\ws.length=nKw sh
  .rw[if_pos c,if_pos (by lia)];refine rv.append (zdp sh (ds.drop off) ?_ rz hsh hd);rw[List.map_drop];exact r.drop off
  .rw[if_neg c,if_neg (by lia)];exact .nil
section
variable {P:A8}{w:Aj}{K:AE}{mg:AQ->Option AG}{base:BB}{cl:Nat->AI}{T:Nat->Option IC.Fn}{fi:Nat}{fn:IC.Fn}{x:AQ}{stm:Bp}{f:AI}{fd:BC}{N ps:List AQ}{ds:List Int}{k:Nat}
end
theorem zdS(a b:Key):peq (yaH a) (yaH b)=decide (a=b):=by
 rw[D7]
 cases a<;>cases b<;>simp[yaH,peq]
theorem zf1:∀(a b:List Key),ybg (a.map yaH) (b.map yaH)=decide (a=b)
 |[],[]=>by simp[ybg]
 |[],y::ys=>by simp[ybg]
 |x::xs,[]=>by simp[ybg]
 |x::xs,y::ys=>by
  erw[AL,ybg,zdS,zf1 xs ys];rw[D7];simp
theorem zdZ(a b:List Key):peq (.tup (a.map yaH)) (.tup (b.map yaH))=decide (a=b):=by
 erw[peq,zf1]
theorem zh7{k:PV}(h:ybK k=AB):∃q,k=yaH q:=by
 cases k with
 |int i=>exact⟨.inl i,rfl⟩
 |str i=>exact⟨.inr i,rfl⟩
 |_=>cases h
theorem ziQ:∀{ks:List PV},ks.all ybK=AB->∃qs:List Key,ks=qs.map yaH
 |[],_=>⟨[],rfl⟩
 |k::ks,h=>by
  rw[B8,AK]at h;let⟨q,rfl⟩:=zh7 h.1;let⟨qs,rfl⟩:=ziQ h.2;exact⟨q::qs,rfl⟩
section
variable {S:Se}{X:Cx}{K:AE}{cl:Nat->AI}{σ:St}{B:AI->Prop}{φ:Ph}{H:Hp}{st:SO}{p pos p2 px apos:CJ}{a b c d o:AT}{ca cb cc:Ce}
theorem ya9{q:Key}{x:V}:yd K cl B φ H (yaH q) x ↔ x=kV q:=by
 cases q<;>simp[yaH,yd,kV]
theorem ze2:∀{qs:List Key} {xs:List V},ye K cl B φ H (qs.map yaH) xs->xs=qs.map kV
 |[],xs,l=>by simpa only[Aa,ye] using l
 |q::qs,xs,l=>by
  erw[AL,ye]at l;let⟨y,ys,rfl,r,l⟩:=l;rw[ya9.mp r,ze2 l];rfl
theorem DK.look{q:Key}:∀{kvs:List (PV×PV)} {ks:List (Key×V)},DK K cl B φ H kvs ks->∀{v:PV} {x:V},yd K cl B φ H v x->yd K cl B φ H ((IC.look (yaH q) kvs).getD v) ((ybH ks q).getD x)
 |[],ks,h,v,x,r=>by cases h;exact r
 |(k,w)::t,ks,h,v,x,r=>by
  let⟨q',y,s,rfl,rfl,rv,l⟩:=h;erw[IC.look,zdS]
  by_cases e:q'=q
  .rw[zbG (p:=(q',y)) e];simp[e,rv]
  .rw[zb0 (p:=(q',y)) e];erw[decide_eq_true_eq,e,if_false];exact DK.look l r
theorem DT.look{q:List Key}:∀{kvs:List (PV×PV)} {ks:List (List Key×V)},DT K cl B φ H kvs ks->∀{v:PV} {x:V},yd K cl B φ H v x->yd K cl B φ H ((IC.look (.tup (q.map yaH)) kvs).getD v) ((ybH ks q).getD x)
 |[],ks,h,v,x,r=>by cases h;exact r
 |(k,w)::t,ks,h,v,x,r=>by
  let⟨q',y,s,rfl,rfl,rv,l⟩:=h;erw[IC.look,zdZ]
  by_cases e:q'=q
  .rw[zbG (p:=(q',y)) e];simp[e,rv]
  .rw[zb0 (p:=(q',y)) e];erw[decide_eq_true_eq,e,if_false];exact DT.look l r
theorem DK.any{q:Key}:∀{kvs:List (PV×PV)} {ks:List (Key×V)},DK K cl B φ H kvs ks->(kvs.any λp=>peq p.1 (yaH q))=ks.any λkv=>decide (kv.1=q)
 |[],ks,h=>by cases h;rfl
 |(k,w)::t,ks,h=>by
  let⟨q',y,s,rfl,rfl,rv,l⟩:=h;erw[BN,zdS,DK.any l]
theorem DT.any{q:List Key}:∀{kvs:List (PV×PV)} {ks:List (List Key×V)},DT K cl B φ H kvs ks->(kvs.any λp=>peq p.1 (.tup (q.map yaH)))=ks.any λkv=>decide (kv.1=q)
 |[],ks,h=>by cases h;rfl
 |(k,w)::t,ks,h=>by
  let⟨q',y,s,rfl,rfl,rv,l⟩:=h;erw[BN,zdZ,DT.any l]
theorem DK.map{q:Key}{v:PV}{x:V}(r:yd K cl B φ H v x):∀{kvs:List (PV×PV)} {ks:List (Key×V)},DK K cl B φ H kvs ks->DK K cl B φ H (kvs.map λp=>if peq p.1 (yaH q)=AB then(p.1,v)else p) (ks.map λkv=>if kv.1=q then(kv.1,x)else kv)
 |[],ks,h=>by cases h;exact rfl
 |(k,w)::t,ks,h=>by
  let⟨q',y,s,rfl,rfl,rv,l⟩:=h;erw[AL,zdS,decide_eq_true_eq]
  by_cases e:q'=q
  .simp only[e,if_true];exact⟨q,x,_,rfl,rfl,r,DK.map r l⟩
  .simp only[e,if_false];exact⟨q',y,_,rfl,rfl,rv,DK.map r l⟩
theorem DT.map{q:List Key}{v:PV}{x:V}(r:yd K cl B φ H v x):∀{kvs:List (PV×PV)} {ks:List (List Key×V)},DT K cl B φ H kvs ks->DT K cl B φ H (kvs.map λp=>if peq p.1 (.tup (q.map yaH))=AB then(p.1,v)else p) (ks.map λkv=>if kv.1=q then(kv.1,x)else kv)
 |[],ks,h=>by cases h;exact rfl
 |(k,w)::t,ks,h=>by
  let⟨q',y,s,rfl,rfl,rv,l⟩:=h;erw[AL,zdZ,decide_eq_true_eq]
  by_cases e:q'=q
  .simp only[e,if_true];exact⟨q,x,_,rfl,rfl,r,DT.map r l⟩
  .simp only[e,if_false];exact⟨q',y,_,rfl,rfl,rv,DT.map r l⟩
theorem DK.snoc{q:Key}{v:PV}{x:V}(r:yd K cl B φ H v x):∀{kvs:List (PV×PV)} {ks:List (Key×V)},DK K cl B φ H kvs ks->DK K cl B φ H (kvs++[(yaH q,v)]) (ks++[(q,x)])
 |[],ks,h=>by cases h;exact⟨q,x,[],rfl,rfl,r,rfl⟩
 |(k,w)::t,ks,h=>by
  let⟨q',y,s,rfl,rfl,rv,l⟩:=h;exact⟨q',y,_,rfl,rfl,rv,DK.snoc r l⟩
theorem DT.snoc{q:List Key}{v:PV}{x:V}(r:yd K cl B φ H v x):∀{kvs:List (PV×PV)} {ks:List (List Key×V)},DT K cl B φ H kvs ks->DT K cl B φ H (kvs++[(.tup (q.map yaH),v)]) (ks++[(q,x)])
 |[],ks,h=>by cases h;exact⟨q,x,[],rfl,rfl,r,rfl⟩
 |(k,w)::t,ks,h=>by
  let⟨q',y,s,rfl,rfl,rv,l⟩:=h;exact⟨q',y,_,rfl,rfl,rv,DT.snoc r l⟩
theorem DK.put{q:Key}{v:PV}{x:V}{kvs:List (PV×PV)}{ks:List (Key×V)}(l:DK K cl B φ H kvs ks)(r:yd K cl B φ H v x):DK K cl B φ H (IC.put (yaH q) v kvs) (putK ks q x):=by
 unfold IC.put putK;rw[DK.any l];split
 .exact DK.map r l
 .exact DK.snoc r l
theorem DT.put{q:List Key}{v:PV}{x:V}{kvs:List (PV×PV)}{ks:List (List Key×V)}(l:DT K cl B φ H kvs ks)(r:yd K cl B φ H v x):DT K cl B φ H (IC.put (.tup (q.map yaH)) v kvs) (putK ks q x):=by
 unfold IC.put putK;rw[DT.any l];split
 .exact DT.map r l
 .exact DT.snoc r l
theorem DK.len:∀{kvs:List (PV×PV)} {ks:List (Key×V)},DK K cl B φ H kvs ks->kvs.length=ks.length
 |[],ks,h=>by cases h;rfl
 |(k,w)::t,ks,h=>by
  let⟨q',y,s,rfl,rfl,rv,l⟩:=h;simp[DK.len l]
theorem DT.len:∀{kvs:List (PV×PV)} {ks:List (List Key×V)},DT K cl B φ H kvs ks->kvs.length=ks.length
 |[],ks,h=>by cases h;rfl
 |(k,w)::t,ks,h=>by
  let⟨q',y,s,rfl,rfl,rv,l⟩:=h;simp[DT.len l]
theorem yx.dct{n:Nat}{t:Bool}{kvs:List (PV×PV)}{x:V}(rs:yx K cl B φ H st)(r:yd K cl B φ H (.loc n) x)(h:st[n]?=AA (.dct t kvs)):∃y,x=.ref y/\φ[n]?=AA (AA y)/\ych K cl B φ H (.dct t kvs) y:=by
 erw[yd]at r;let⟨hn,y,rfl,ha⟩:=r;let⟨z,hz⟩:=rs.liv n _ h (by intro z;cases z);obtain rfl:=ha z hz;let⟨o,ho,ro⟩:=rs.obj n z hz;rw[h]at ho;cases ho;exact⟨z,rfl,hz,ro⟩
theorem zew{v:PV}{t:Bool}{kvs:List (PV×PV)}(h:ybe st v=AA (t,kvs)):∃n,v=.loc n/\st[n]?=AA (.dct t kvs):=by
 cases v with
 |loc n=>
  erw[ybe]at h;split at h
  .rename_i t' xs q
   cases h
   exact⟨n,rfl,q⟩
  .cases h
 |_=>cases h
theorem zhf{k:PV}(h:isKey AC k=AB):∃q,k=yaH q:=zh7 h
theorem zhU{k:PV}(h:isKey AB k=AB):∃q:List Key,k=.tup (q.map yaH):=by
 cases k with
 |tp b xs=>
  cases b with
  |false=>
   let⟨qs,rfl⟩:=ziQ h;exact⟨qs,rfl⟩
  |true=>cases h
 |_=>cases h
theorem zio{q:List Key}{x:V}(r:yd K cl B φ H (.tup (q.map yaH)) x):∃y,x=.ref y/\H y=AA (.tup (q.map kV)):=by
 erw[yd]at r;let⟨y,xs,rfl,rt,l⟩:=r;rcases rt with⟨rt,_⟩|⟨z,_⟩
 .exact⟨y,rfl,by rw[rt,ze2 l]⟩
 .cases z
theorem zic:PE X (.Dict [] [] pos) (tE S X (.dict0 AB)):=ycc.imp λσ H Q ⟨B,φ,st,ρ,rs,re,h⟩=>by
 erw[ev]at h;exact λp hp=>h _ _ (φ++[AA p]) (.push hp) (rs.push hp (rs.nB hp) ⟨[],zr,rfl⟩) (.loc_new rs)
theorem zou(hu:X.A.units+1<cLine)(ha:PE X a (tE S X ca))(hb:PE X b (tE S X cb))(hc:PE X c (tE S X cc))(m:M2 X a "get" apos b c pos:=by exact⟨rfl,rfl,rfl,rfl⟩):PE X (.Call (.Attribute a "get" apos) [b,c] [] pos) (tE S X (.mth .get ca (.cons cb (.cons cc .nil)))):=
 (ziT hu ha hb hc m).imp λσ H Q ⟨B,φ,st,ρ,rs,re,h⟩=>by
  erw[ev]at h;refine tE.bind rs re h λx H1 v st1 φ1 s1 rs1 re1 rv h1=>?_;let⟨_,e1,h1⟩:=zhN h1;erw[yaL]at e1
  cases q:ybe st1 v with
  |none=>rw[q]at e1;cases e1
  |some tk=>
   let⟨t,kvs⟩:=tk;let⟨n,rfl,hn⟩:=zew q;let⟨y,rfl,hy,ro⟩:=rs1.dct rv hn;refine⟨y,rfl,?_,?_⟩
   .cases t with
    |false=>let⟨ks,hk,_⟩:=ro;exact .inl ⟨ks,.inl hk⟩
    |true=>let⟨ks,hk,_⟩:=ro;exact .inr ⟨ks,.inl hk⟩
   .simp only[evs,R.bind_assoc]at h1;refine tE.bind rs1 re1 h1 λkx H2 kv st2 φ2 s2 rs2 re2 rk h2=>tE.bind rs2 re2 h2 λdx H3 dv st3 φ3 s3 rs3 re3 rd h3=>?_;erw[R.bind]at h3;unfold ycg at h3;erw[ydN]at h3
    cases q3:ybe st3 (.loc n)with
    |none=>rw[q3]at h3;exact h3.elim
    |some tk3=>
     let⟨t3,kvs3⟩:=tk3;rw[q3]at h3;dsimp only at h3;split at h3
     .rename_i hk;let⟨n',e',hn3⟩:=zew q3
      cases e'
      let⟨y3,ey,hy3,ro3⟩:=rs3.dct ((rv.step s2).step s3) hn3
      cases ey
      have rk3:=rk.step s3
      cases t3 with
      |false=>
       let⟨q,rfl⟩:=zhf hk;let⟨ks,hks,l⟩:=ro3;refine⟨ybH ks q,.inl ⟨ks,q,.inl hks,ya9.mp rk3,rfl⟩,h3.ok rs3 (DK.look l rd)⟩
      |true=>
       let⟨q,rfl⟩:=zhU hk;let⟨ks,hks,l⟩:=ro3;let⟨b',rfl,hb'⟩:=zio rk3;exact⟨ybH ks q,.inr ⟨ks,q,b',.inl hks,rfl,hb',rfl⟩,h3.ok rs3 (DT.look l rd)⟩
     .exact h3.elim
theorem zhV{st4:SO}{x y v:PV}(h:ybd st x y v=AA st4):∃n t kvs,x=.loc n/\st[n]?=AA (.dct t kvs)/\isKey t y=AB/\kvs.length<1000000/\st4=st.set n (.dct t (IC.put y v kvs)):=by
 cases x with
 |loc n=>
  erw[ybd]at h;split at h
  .rename_i t kvs q;split at h
   .rename_i c;exact⟨n,t,kvs,rfl,q,c.1,c.2,(AY h).symm⟩
   .cases h
  .cases h
 |_=>cases h
theorem zkT(hu:X.A.units+1<cLine)(ho:PE X b (tE S X cb))(hi:PE X c (tE S X cc))(hv:PE X a (tE S X ca))(hs:swapsWith a (AA (.Subscript b c px)) pos.line X.env=pure false:=by rfl):PS X (.Assign [.Subscript b c px] a pos) (tS S X (.dput cb cc ca)):=
 (zk3 hu ho hi hv hs).imp λD σ H ⟨B,φ,st,ρ,rs,re,h⟩=>by
  erw[ex]at h;refine tE.fl rs re h λv' H1 v st1 φ1 s1 rs1 re1 rv h1=>tE.fl rs1 re1 h1 λx' H2 x st2 φ2 s2 rs2 re2 rx h2=>tE.fl rs2 re2 h2 λy' H3 y st3 φ3 s3 rs3 re3 ry h3=>?_
  cases e:ybd st3 x y v with
  |none=>rw[e]at h3;exact h3.elim
  |some st4=>
   rw[e]at h3;let⟨n,t,kvs,rfl,hn,hk,hl,rfl⟩:=zhV e;let⟨l,rfl,hp,ro⟩:=rs3.dct (rx.step s3) hn;have rv3:=(rv.step s2).step s3;have hm:=ybZ
   cases t with
   |false=>
    let⟨q,rfl⟩:=zhf hk;let⟨ks,hks,ld⟩:=ro;have s4:Step φ3 H3 φ3 (L2.upd H3 l (.dK (putK ks q v'))):=.put (A2 hp);refine⟨l,_,rfl,.inl ⟨ks,q,hks,ya9.mp ry,by have:=ld.len;lia,rfl⟩,h3 σ _ φ3 s4 (rs3.put hp ⟨_,zr,(ld.put rv3).step s4⟩) (re3.step s4)⟩
   |true=>
    let⟨q,rfl⟩:=zhU hk;let⟨ks,hks,ld⟩:=ro;let⟨b',rfl,hb'⟩:=zio ry;have s4:Step φ3 H3 φ3 (L2.upd H3 l (.dT (putK ks q v'))):=.put (A2 hp);refine⟨l,_,rfl,.inr ⟨ks,q,b',hks,rfl,hb',by have:=ld.len;lia,rfl⟩,h3 σ _ φ3 s4 (rs3.put hp ⟨_,zr,(ld.put rv3).step s4⟩) (re3.step s4)⟩
end
section
variable {S:Se}{X:Cx}{σ:St}{B:AI->Prop}{φ:Ph}{H:Hp}{p pos p3 p4:CJ}{a b tg:AT}{ca cb:Ce}
end
end L2
namespace WK
open PySem L2 IC
section
variable {K:AE}{cl:Nat->AI}{B:AI->Prop}{φ:Ph}{H:Hp}
theorem zkj:ye K cl B φ H [] []:=by erw[ye]
theorem zhD{v:PV}{x:V}{vs:List PV}{xs:List V}(h:yd K cl B φ H v x)(l:ye K cl B φ H vs xs):ye K cl B φ H (v::vs) (x::xs):=by
 erw[ye];exact⟨x,xs,rfl,h,l⟩
end
theorem zmV{P:A8}{w:Aj}{outer:List BX}{H:Hp}{s:AJ}{e:AG}{s':AJ}(h:CX1 P w outer H s (λ_ _ _=>False) e s'):False:=by
 let⟨_,_,_,_,_,_,_,_,_,_,_,_,_,_,z⟩:=h;exact z
theorem zg5{K:AE}{cl:Nat->AI}{B:AI->Prop}{φ:Ph}{H:Hp}:∀ns:List Int,ye K cl B φ H (ns.map .int) (ns.map V.int)
 |[]=>zkj
 |n::ns=>zhD (by erw[yd]) (zg5 ns)
def spX(K:AE)(call:Nat->List PV->SO->R PV)(fi:Nat):Sp:=λvs H Q E=>∀cl,spI K cl call fi vs H Q E
theorem ziB{K:AE}{call:Nat->List PV->SO->R PV}{fi:Nat}{H:Hp}{a:AI}{ns:List Int}(ht:∀ns:List Int,ns.length<=63->call fi [.scr (ns.map .int)] []=.ok (.bl AB) [])(hl:ns.length<=63)(hS:SqL K H a (ns.map V.int)):
  spX K call fi [.ref a] H (λv _=>v=.bl AB) λ_ _ _=>False:=by
 intro cl;refine⟨λ_=>False,[],[],[.scr (ns.map .int)],⟨rfl,λm n a e=>by simp at e,λn a e=>by simp at e,λn o e=>by simp at e,λa z=>by simp at z,λa z=>z.elim⟩,zhD ?_ zkj,?_⟩
 .simp only[yd];refine⟨a,_,rfl,?_,zg5 ns⟩;rcases hS with hS|hS
  .exact .inl ⟨hS,λz=>z,by simp⟩
  .exact .inr hS
 .rw[ht ns hl];intro x H' φ' _ _ r;simpa only[yd] using r
end WK
namespace L2
open PySem PySem.Spec PyProof.Rows IC
theorem ziz{l:List AQ}(h:l.Nodup){i j:Nat}(hi:i<l.length)(hj:j<l.length)(e:l[i]=l[j]):i=j:=by
 rcases Nat.lt_trichotomy i j with q|q|q
 .exact absurd e (EH.mp h i j hi hj q)
 .exact q
 .exact absurd e.symm (EH.mp h j i hj hi q)
section
variable {X:Cx}{pins:List (AI×Bu)}{σ:St}{H:Hp}{s:AJ}
theorem Inv.drop{h':BB}{m:AQ->Option AG}{v:Option AG}{i:Nat}{n:AQ}(I:Inv X pins σ H s)(hN:X.N.Nodup)(hi:X.N[i]?=AA n)(hm:s.heap.Ns X.env.locals m)(look:∀(i:Nat) (x:AQ) (v:V),X.N[i]?=AA x->σ[i]?=AA (AA v)->Vis X.env.scope x->∃u,RelV v u/\Look X.env s.heap m x u)(hs:C0 X.env.locals s.heap h')(hn:h'.Ns X.env.locals (λx=>if x=n then v else m x)):Inv X pins (σ.set i AD) H {s with heap:=h'}:=by
 have k:∀b u,b≠X.env.locals->s.heap.get? b=AA u->h'.get? b=AA u:=λb u hb q=>(hs.2 b hb).trans q;have nl:∀b o,X.s₀.heap.get? b=AA o->b≠X.env.locals:=λb o e=>Ak (A4 (AW e) I.ok.above);refine⟨I.ok,I.os,I.bare,⟨λb o q n hb hx=>k b o (nl b o q) (I.base.keep b o q n hb hx),λb o q n hb hx=>?_,I.base.free,λb o q hx=>?_,I.base.tups,I.base.frzs,I.base.tbls⟩,⟨_,hn,λj x v e1 e2 hv=>?_⟩,λx c e=>?_,I.free,I.freeC,λp hp=>?_,λb u e=>?_,?_⟩
 .let⟨sl,q1⟩:=I.base.slot b o q n hb hx;exact⟨sl,k b _ (nl b o q) q1⟩
 .let⟨o',q1⟩:=I.base.there b o q hx;exact⟨o',k b o' (nl b o q) q1⟩
 .have hj:j≠i:=λz=>by
   subst z;rw[C9]at e2;erw[if_true]at e2;split at e2<;>cases e2
  rw[AO (BL hj)]at e2;have hx:x≠n:=λz=>by
   subst z;let⟨l1,g1⟩:=BK.mp e1;let⟨l2,g2⟩:=BK.mp hi;exact hj (ziz hN l1 l2 (g1.trans g2.symm))
  let⟨u,r,lk⟩:=look j x v e1 e2 hv;refine⟨u,r,?_⟩;rcases lk with⟨q1,q2⟩|⟨q1,c,q2,o,q3,q4⟩
  .exact .inl ⟨q1,by dsimp only;rw[if_neg hx];exact q2⟩
  .exact .inr ⟨q1,c,q2,o,k c o (I.cne x c q2) q3,q4⟩
 .let⟨v,o,ho,hd⟩:=I.cell x c e;exact⟨v,o,k c o (I.cne x c e) ho,hd⟩
 .let⟨q1,q2,q3,q4⟩:=I.pin p hp;exact⟨k _ _ q3 q1,q2,q3,q4⟩
 .refine(I.hok b u e).stay (λc v hc q=>k c v (λz=>?_) q) (λ_ q=>q) λ_ _ q=>q;have fr:=I.free;subst z;rcases hc with z|z
  .rw[z,e]at fr
   cases fr
  .rw[z]at fr
   cases fr
 .rw[B1];exact I.len
end
section
variable {X:Cx}{body suite:List Bp}{b₀:Bp}{x n:AQ}{np hpos pos:CJ}{W:AI}{i:Nat}
end
section
variable {S:Se}{X:Cx}{σ:St}{B:AI->Prop}{φ φ1:Ph}{H H1:Hp}{st:SO}{ρ:IC.Env}{D:Ends}{body suite:List Bp}{b₀:Bp}{x n:AQ}{p p2 np hpos pos cpos:CJ}{W:AI}{i:Nat}{cb ch:Css}{a e:AT}{es:List AT}{ca ce:Ce}{ces:Ces}
theorem yL.drop{K:AE}{cl:Nat->AI}(r:yL K cl B φ H ρ σ)(i:Nat):yL K cl B φ H (ρ.set i AD) (σ.set i AD):=by
 refine⟨by rw[B1,B1];exact r.len,λj w e=>?_⟩
 by_cases h:j=i
 .subst h;rw[C9]at e;erw[if_true]at e;split at e<;>cases e
 .rw[AO (BL h)]at e ⊢;exact r.get j w e
noncomputable abbrev Se.quiet(S:Se):Se:={S with may:=AC}
theorem all_nil{P:Nat->Prop}:∀c∈([]:List Nat),P c:=λ_ h=>by cases h
theorem all_cons{P:Nat->Prop}{c:Nat}{cs:List Nat}(h:P c)(t:∀d∈cs,P d):∀d∈c::cs,P d:=λd hd=>by
 rcases A3.mp hd with e|e
 .exact e ▸ h
 .exact t d e
structure ydE(K:AE)(mg:AQ->Option AG)(C:AI)(x:AQ):Prop where
 m:mg x=AA (.ref C)
 q:F4 K C [.type "ValueError",.type "Exception",.type "BaseException",.type "object"] "ValueError.__new__"=AB
end
section
variable {S:Se}{X:Cx}{p pos p2 px apos:CJ}{a b:AT}{ca cb:Ce}
def GCI(mg:AQ->Option AG)(x:AQ)(i:Int):Prop:=∃t,mg x=AA (.int i t)
theorem znP{x:AQ}{i:Int}(hg:Gl X x)(h:GCI X.mg x i)(hd:(x==("__debug__":AQ))=false:=by decide):PE X (.Name x pos) (tE S X (.cst (.int i))):=by
 let⟨t,hm⟩:=h;exact(zcP hg hm (show RelV (.int i) (.int i t)from ⟨t,rfl⟩) hd).imp λσ H Q ⟨B,φ,st,ρ,rs,re,h⟩=>by
  erw[ev]at h;exact h.ok rs (by erw[yd])
end
end L2
namespace WE
open PySem PySem.Spec PyProof.Rows
section
variable {prog:A8}{w:Aj}{A:Ao}{E:AG->AJ->Prop}{s:AJ}
def yde(h:BB)(a t:AI)(i:Int):Prop:=∃o,h.get? a=AA o/\o.cls=.type "reversed"/\o.data=.fields #[.ref t,rawInt i]
theorem yde.typeIs{a t:AI}{i:Int}(x:yde s.heap a t i):s.TypeIs (.ref a) "reversed":=let ⟨o,ho,hc,_⟩:=x;⟨o,ho,hc⟩
end
end WE
namespace L2
open PySem PySem.Spec PyProof.Rows
end L2
namespace L2
open PySem PySem.Spec PyProof.Rows IC
open Classical in
section
variable {S:Se}{X:Cx}{σ:St}{B:AI->Prop}{φ φ1:Ph}{H H1:Hp}{st:SO}{ρ:IC.Env}{p pos p2 px py pt pt2:CJ}{a b c d o a' b' c' d':AT}{ca cb cc cd ce cf:Ce}{pins:List (AI×Bu)}{s:AJ}{kt k2:Nat}{es:List AT}{ces:Ces}{x:AQ}
end
end L2
namespace IC
open PySem
end IC
namespace L2
open PySem PySem.Spec PyProof.Rows IC
section
variable {S:Se}{X:Cx}{σ:St}{B:AI->Prop}{φ:Ph}{H:Hp}{p p2 pos pos2 apos:CJ}{a b tg:AT}{ca cb:Ce}
theorem zdA:∀bs:List Bool,((CL bs.length).any λi=>(bs[i]?).getD AB)=bs.any id
 |[]=>rfl
 |b::bs=>by
  rw[AS,Es,BN,HF,BN,<-zdA bs];rfl
theorem zjJ(hc:X.calm=AB):yae X (.builtin "any") (λxs H Q=>∃(l:AI) (bs:List Bool),xs=[.ref l]/\SqL X.K H l (bs.map V.bl)/\Q (.bl (bs.any id)) H):=by
 intro pins s σ H xs us Q I r h;let⟨l,bs,rfl,hq,q⟩:=h;let⟨u,rfl,ru⟩:=Vals.one r
 cases (show u=Ah l from ru)
 let⟨its,rv,pl,hz⟩:=I.list hq;have hb:=zei rv;have hl:=pl.isList;have hlt:l<s.heap.objs.size:=by
  let⟨_,e,_⟩:=hl;exact AW e
 refine call_any_walk (EM hl ?_);refine⟨s.heap.objs.size,[s.heap.objs.size,l],[s.heap.objs.size],its.toArray.size,_,_,λi=>(bs[i]?).getD AB,rfl,Hb (A:=X.A.in1) (I.ok.hd hc) _ l (Ak hlt) its.toArray,⟨⟨_,A0 _ rfl,rfl,rfl⟩,hl.push _⟩,λi v s' Q' E' hP hQ=>?_,λh' tk hk=>?_⟩
 .let⟨b,e,rfl⟩:=hb.get i v (by simpa using hP);erw[e,Bf]at hQ;exact BV hQ
 .have e:((CL its.toArray.size).any λi=>(bs[i]?).getD AB)=bs.any id:=by
   rw[AZ,hb.length];exact zdA bs
  rw[e];exact⟨.bl _,H,I.kept (t':=tk) (F2 hk),rfl,q⟩
theorem zkx:∀{vs:List PV} {m:Bool},IC.anyB vs=AA m->∃ns:List Bool,vs=ns.map .bl/\m=ns.any id
 |[],m,h=>by cases h;exact⟨[],rfl,rfl⟩
 |.bl i::r,m,h=>by
  erw[IC.anyB]at h;split at h
  .rename_i c e
   cases h
   let⟨ns,e1,e2⟩:=zkx e;exact⟨i::ns,by rw[e1];rfl,by rw[e2];rfl⟩
  .cases h
 |.non::r,m,h=>by cases h
 |.int _::r,m,h=>by cases h
 |.str _::r,m,h=>by cases h
 |.tp _ _::r,m,h=>by cases h
 |.lst _::r,m,h=>by cases h
 |.loc _::r,m,h=>by cases h
 |.exn _::r,m,h=>by cases h
 |.scr _::r,m,h=>by cases h
theorem zoe:bootBuiltins "any"=AA (.builtin "any"):=by decide +kernel
theorem zfM:∀{ns:List Int} {us:List AG},Vals (ns.map V.int) us->us.length=ns.length/\∀(i:Nat) (v:AG),us[i]?=AA v->∃n t,ns[i]?=AA n/\v=.int n t
 |[],_,.nil=>⟨rfl,λi v h=>by simp at h⟩
 |n::ns,_,.cons r q=>by
  let⟨h1,h2⟩:=zfM q;let⟨t,rfl⟩:=r;refine⟨by simp[h1],λi v h=>?_⟩
  cases i with
  |zero=>simp at h;exact⟨n,t,rfl,h.symm⟩
  |succ i=>simp at h;simpa using h2 i v h
theorem zdG:∀ns:List Int,((CL ns.length).any λi=>((ns[i]?).getD 1) != 0)=ns.any (· != 0)
 |[]=>rfl
 |b::bs=>by
  rw[AS,Es,BN,HF,BN,<-zdG bs];rfl
theorem zg7(hc:X.calm=AB):yae X (.builtin "any") (λxs H Q=>∃(l:AI) (ns:List Int),xs=[.ref l]/\SqT X.K H l (ns.map V.int)/\Q (.bl (ns.any (· != 0))) H):=by
 intro pins s σ H xs us Q I r h;let⟨l,ns,rfl,hq,q⟩:=h;let⟨u,rfl,ru⟩:=Vals.one r
 cases (show u=Ah l from ru)
 let⟨its,rv,p,hz⟩:=I.tuple hq;let⟨hn,hb⟩:=zfM rv;have hl:s.heap.IsTuple l its.toArray:=p;have hlt:l<s.heap.objs.size:=by
  let⟨_,e,_⟩:=hl;exact AW e
 refine call_any_walk (Bm hl ?_);refine⟨s.heap.objs.size,[s.heap.objs.size,l],[s.heap.objs.size],its.toArray.size,_,_,λi=>((ns[i]?).getD 1) != 0,rfl,Walks.tuple (A:=X.A.in1) (I.ok.hd hc) _ l (Ak hlt) its.toArray,⟨⟨_,A0 _ rfl,rfl,rfl⟩,hl.push _⟩,λi v s' Q' E' hP hQ=>?_,λh' tk hk=>?_⟩
 .let⟨b,t,e,rfl⟩:=hb i v (by simpa using hP);erw[e,Bf]at hQ;exact truthy_int hQ
 .have e:((CL its.toArray.size).any λi=>((ns[i]?).getD 1) != 0)=ns.any (· != 0):=by
   rw[AZ,hn];exact zdG ns
  rw[e];exact⟨.bl _,H,I.kept (t':=tk) (F2 hk),rfl,q⟩
theorem zg6:∀{vs:List PV} {m:Bool},IC.anyI vs=AA m->∃ns:List Int,vs=ns.map .int/\m=ns.any (· != 0)
 |[],m,h=>by cases h;exact⟨[],rfl,rfl⟩
 |.int i::r,m,h=>by
  erw[IC.anyI]at h;split at h
  .rename_i c e
   cases h
   let⟨ns,e1,e2⟩:=zg6 e;exact⟨i::ns,by rw[e1];rfl,by rw[e2];rfl⟩
  .cases h
 |.non::r,m,h=>by cases h
 |.bl _::r,m,h=>by cases h
 |.str _::r,m,h=>by cases h
 |.tp _ _::r,m,h=>by cases h
 |.lst _::r,m,h=>by cases h
 |.loc _::r,m,h=>by cases h
 |.exn _::r,m,h=>by cases h
 |.scr _::r,m,h=>by cases h
theorem zk5(st:SO)(v:PV):(∃k xs,v=.tp k xs) \/ yar .any st [v]=(yad st v).bind λxs=>(anyB xs).map .bl:=by
 cases v<;>first|exact .inl ⟨_,_,rfl⟩|exact .inr rfl
theorem zn3(hc:X.calm=AB):yae X (.builtin "any") (rB S X .any):=by
 rintro pins s σ H xs us Q I r ⟨B,φ,st,vs,z,rs,l,e,q⟩
 let⟨v,rfl⟩:=zck e λ_ _=>rfl;let⟨x,rfl,rv⟩:=l.one;rcases zk5 st v with⟨k,ws,rfl⟩|ev
 .have e:(IC.anyI ws).map PV.bl=AA z:=e
  cases e2:IC.anyI ws with
  |none=>rw[e2]at e;cases e
  |some m=>
   rw[e2]at e
   cases e
   let⟨ns,rfl,rfl⟩:=zg6 e2;erw[yd]at rv;let⟨a,ys,rfl,h,l⟩:=rv;have h:=h.sq;rw[l.ints]at h;exact zg7 hc pins s σ H _ us Q I r ⟨a,ns,rfl,h,q _ H φ .rfl rs (by erw[yd])⟩
 .rw[ev]at e
  cases e1:yad st v with
  |none=>rw[e1]at e;cases e
  |some ws=>
   rw[e1]at e;erw[Bg]at e
   cases e2:IC.anyB ws with
   |none=>rw[e2]at e;cases e
   |some m=>
    rw[e2]at e
    cases e
    let⟨ns,rfl,rfl⟩:=zkx e2;let⟨a,ys,rfl,h,l⟩:=zde rs rv e1;rw[l.bls]at h;exact zjJ hc pins s σ H _ us Q I r ⟨a,ns,rfl,h,q _ H φ .rfl rs (by erw[yd])⟩
end
end L2
namespace WE
open PySem PySem.Spec PyProof.Rows
section
variable {pg:A8}{wd:Aj}{A:Ao}{Er:AG->AJ->Prop}{s:AJ}
theorem tit_keep{h h':BB}{i t:AI}{j:Nat}(u:h.IsTupleIter i t j)(k:∀o,h.get? i=AA o->h'.get? i=AA o):h'.IsTupleIter i t j:=let ⟨o,g,r⟩:=u;⟨o,k o g,r⟩
theorem zcF{h h':BB}{t:AI}{xs:Array AG}(u:h.IsTuple t xs)(k:∀o,h.get? t=AA o->h'.get? t=AA o):h'.IsTuple t xs:=let ⟨o,g,r⟩:=u;⟨o,k o g,r⟩
def Kz(z TO i1 i2:AI)(h h':BB):Prop:=∀c o,c≠z->c≠TO->c≠i1->c≠i2->h.get? c=AA o->h'.get? c=AA o
theorem zhC{z TI TO i1 i2 l1 l2:AI}{j:Nat}{xs ys:Array AG}{x y a b:AG}{Q:AG->AJ->Prop}(D:Fx z TI TO i1 i2 l1 l2)
  (gz:EQ s.heap z TI TO .none) (gI:CO s.heap TI (.ref i1) (.ref i2)) (gO:CO s.heap TO a b) (u1:s.heap.IsTupleIter i1 l1 j) (u2:s.heap.IsTupleIter i2 l2 j) (t1:s.heap.IsTuple l1 xs) (t2:s.heap.IsTuple l2 ys) (ex:xs[j]?=AA x) (ey:ys[j]?=AA y)
  (k:∀h',EQ h' z TI TO (rawInt s.heap.objs.size)->CO h' TO x y->h'.IsTupleIter i1 l1 (j+1)->h'.IsTupleIter i2 l2 (j+1)->CO h' s.heap.objs.size x y->h'.objs.size=s.heap.objs.size+1->Kz z TO i1 i2 s.heap h'->Q (.ref s.heap.objs.size) {s with heap:=h'}):
  A1 (model pg wd) A (HA.«zip.__next__» ⟨[.ref z],[]⟩) (λf s'=>∃v,f=.done (.ret v)/\Q v s') Er s:=by
 show A1 _ _ (field (.ref z) 2 >>= _) _ _ _;refine AH (BT gz rfl (x:=.bool AC) rfl ?_);show A1 _ _ (field (.ref z) 3 >>= _) _ _ _;refine AH (BT gz rfl (x:=.ref TI) rfl ?_);refine AH (CU gI rfl ?_);show A1 _ _ (B9 (.ref z) >>= _) _ _ _;refine AH ?_;unfold B9;refine AH (BT gz rfl (x:=.none) rfl (AV ?_));erw[if_true];refine AH (Eh ?_);refine AH (BT gz rfl (x:=.ref TO) rfl ?_);refine AH (C2 gz (by simp) λha za sa=>?_)
 replace za:EQ ha z TI TO .ellipsis:=za
 refine AH ?_;erw[GU,G6,Ey,Gk];refine AH (AH (F5 ?_));show A1 _ _ (BR (.ref i1) >>= _) _ _ _;refine AH (zci (tit_keep u1 λo e=>sa.extBut _ _ D.i1z e) (zcF t1 λo e=>sa.extBut _ _ D.l1z e) ex λhb ub sb=>AV ?_);have ob:CO hb TO a b:=sb.extBut _ _ D.TOi1 (sa.extBut _ _ D.TOz gO);refine AH (CU ob rfl ?_);refine AH (FI ob λhc oc sc=>?_)
 replace oc:CO hc TO x b:=oc
 refine AH (wpAny_letGo (AV ?_));refine AH (AH (F5 ?_));show A1 _ _ (BR (.ref i2) >>= _) _ _ _;refine AH (zci (tit_keep u2 λo e=>sc.extBut _ _ D.TOi2.symm (sb.extBut _ _ D.i12.symm (sa.extBut _ _ D.i2z e))) (zcF t2 λo e=>sc.extBut _ _ D.l2TO (sb.extBut _ _ D.l2i1 (sa.extBut _ _ D.l2z e))) ey λhd ud sd=>AV ?_);have od:CO hd TO x b:=sd.extBut _ _ D.TOi2 oc;refine AH (CU od rfl ?_);refine AH (FI od λhe oe se=>?_)
 replace oe:CO he TO x y:=oe
 refine AH (wpAny_letGo (AV (AV ?_)));refine AH (CU oe rfl ?_);refine AH (wpAny_newTuple ?_);have sz:he.objs.size=s.heap.objs.size:=by rw[se.1,sd.1,sc.1,sb.1,sa.1]
 have ze:EQ he z TI TO .ellipsis:=se.extBut _ _ D.TOz.symm (sd.extBut _ _ D.i2z.symm (sc.extBut _ _ D.TOz.symm (sb.extBut _ _ D.i1z.symm za)));have ke:Kz z TO i1 i2 s.heap he:=λc o p1 p2 p3 p4 e=>se.extBut _ _ p2 (sd.extBut _ _ p4 (sc.extBut _ _ p2 (sb.extBut _ _ p3 (sa.extBut _ _ p1 e))));have v1:he.IsTupleIter i1 l1 (j+1):=tit_keep ub λo e=>se.extBut _ _ D.TOi1.symm (sd.extBut _ _ D.i12 (sc.extBut _ _ D.TOi1.symm e));have v2:he.IsTupleIter i2 l2 (j+1):=tit_keep ud λo e=>se.extBut _ _ D.TOi2.symm e;have lz:z<he.objs.size:=AW ze;show A1 _ _ (Cq (.ref z) (.ref he.objs.size) >>= _) _ _ _;refine AH ?_;unfold Cq;have zf:EQ (he.push {cls:=.type "tuple",data:=.seq #[x,y]}) z TI TO .ellipsis:=AR _ ze;refine AH (C2 zf (by simp) λhg zg sg=>?_)
 replace zg:EQ hg z TI TO (rawInt he.objs.size):=zg
 refine C2 zg (by simp) λhi zi si=>?_
 replace zi:EQ hi z TI TO (rawInt he.objs.size):=zi
 have up:∀c o,c≠z->he.get? c=AA o->hi.get? c=AA o:=λc o p e=>si.extBut _ _ p (sg.extBut _ _ p (AR _ e));have pn:CO hi he.objs.size x y:=si.extBut _ _ (Ei lz) (sg.extBut _ _ (Ei lz) (A0 _ rfl));have si8:hi.objs.size=he.objs.size+1:=by rw[si.1,sg.1,Bo]
 rw[sz]at zi pn si8;refine AV ⟨_,rfl,?_⟩;show Q (.ref he.objs.size) _;rw[sz];exact k hi zi (up _ _ D.TOz oe) (tit_keep v1 λo e=>up _ o D.i1z e) (tit_keep v2 λo e=>up _ o D.i2z e) pn si8 λc o p1 p2 p3 p4 e=>up c o p1 (ke c o p1 p2 p3 p4 e)
theorem zi1{z TI TO i1 i2 l1 l2:AI}{j:Nat}{xs:Array AG}{a b:AG}{Q:Fin->AJ->Prop}(hh:A.handled=AD)(D:Fx z TI TO i1 i2 l1 l2)
  (gz:EQ s.heap z TI TO .none) (gI:CO s.heap TI (.ref i1) (.ref i2)) (gO:CO s.heap TO a b) (u1:s.heap.IsTupleIter i1 l1 j) (t1:s.heap.IsTuple l1 xs) (ex:xs[j]?=AD)
  (k:∀h' e,Kz z TO i1 i2 s.heap h'->(∃o,h'.get? e=AA o/\o.cls=.type "StopIteration")->Er (.ref e) {s with heap:=h'}):
  A1 (model pg wd) A (HA.«zip.__next__» ⟨[.ref z],[]⟩) Q Er s:=by
 show A1 _ _ (field (.ref z) 2 >>= _) _ _ _;refine AH (BT gz rfl (x:=.bool AC) rfl ?_);show A1 _ _ (field (.ref z) 3 >>= _) _ _ _;refine AH (BT gz rfl (x:=.ref TI) rfl ?_);refine AH (CU gI rfl ?_);show A1 _ _ (B9 (.ref z) >>= _) _ _ _;refine AH ?_;unfold B9;refine AH (BT gz rfl (x:=.none) rfl (AV ?_));erw[if_true];refine AH (Eh ?_);refine AH (BT gz rfl (x:=.ref TO) rfl ?_);refine AH (C2 gz (by simp) λha za sa=>?_)
 replace za:EQ ha z TI TO .ellipsis:=za
 refine AH ?_;erw[GU,G6,Ey,Gk];refine AH (AH (F5 ?_));show A1 _ _ (BR (.ref i1) >>= _) _ _ _;refine AH (ze6 hh (tit_keep u1 λo e=>sa.extBut _ _ D.i1z e) (zcF t1 λo e=>sa.extBut _ _ D.l1z e) ex λhb e sb he=>?_);let⟨oe,ge,ce⟩:=he;have zb:EQ hb z TI TO .ellipsis:=sb _ _ D.i1z.symm za;have ne:e≠z:=λq=>by subst q;rw[zb]at ge;cases ge;simp at ce
 exact C2 zb (by simp) λhc _ sc=>k hc e (λc o p1 _ p3 _ q=>sc.extBut _ _ p1 (sb _ _ p3 (sa.extBut _ _ p1 q))) ⟨oe,sc.extBut _ _ ne ge,ce⟩
theorem pyNext_zipT{z TI TO i1 i2 l1 l2:AI}{j:Nat}{xs ys:Array AG}{x y a b:AG}{Q:Option AG->AJ->Prop}(D:Fx z TI TO i1 i2 l1 l2)
  (gz:EQ s.heap z TI TO .none) (gI:CO s.heap TI (.ref i1) (.ref i2)) (gO:CO s.heap TO a b) (u1:s.heap.IsTupleIter i1 l1 j) (u2:s.heap.IsTupleIter i2 l2 j) (t1:s.heap.IsTuple l1 xs) (t2:s.heap.IsTuple l2 ys) (ex:xs[j]?=AA x) (ey:ys[j]?=AA y)
  (k:∀h',EQ h' z TI TO (rawInt s.heap.objs.size)->CO h' TO x y->h'.IsTupleIter i1 l1 (j+1)->h'.IsTupleIter i2 l2 (j+1)->CO h' s.heap.objs.size x y->h'.objs.size=s.heap.objs.size+1->Kz z TO i1 i2 s.heap h'->Q (AA (.ref s.heap.objs.size)) {s with heap:=h'}):
  A1 (model pg wd) A (pyNext (.ref z)) Q Er s:=by
 have ty:s.TypeIs (.ref z) "zip":=⟨_,gz,rfl⟩;unfold pyNext;exact AH (wpAny_attempt (Bd (name:=AF "__next__") ty D9 (CT D9 ty GV (zhC D gz gI gO u1 u2 t1 t2 ex ey λh' a1 a2 a3 a4 a5 a6 a7=>AV (k h' a1 a2 a3 a4 a5 a6 a7)) (Fy _))))
theorem pyNext_zipE{z TI TO i1 i2 l1 l2:AI}{j:Nat}{xs:Array AG}{a b:AG}{Q:Option AG->AJ->Prop}(hh:A.handled=AD)(D:Fx z TI TO i1 i2 l1 l2)
  (gz:EQ s.heap z TI TO .none) (gI:CO s.heap TI (.ref i1) (.ref i2)) (gO:CO s.heap TO a b) (u1:s.heap.IsTupleIter i1 l1 j) (t1:s.heap.IsTuple l1 xs) (ex:xs[j]?=AD)
  (k:∀h',Kz z TO i1 i2 s.heap h'->Q AD {s with heap:=h'}):A1 (model pg wd) A (pyNext (.ref z)) Q Er s:=by
 have ty:s.TypeIs (.ref z) "zip":=⟨_,gz,rfl⟩;unfold pyNext;refine AH (wpAny_attempt (Bd (name:=AF "__next__") ty D9 (CT D9 ty GV (zi1 hh D gz gI gO u1 t1 ex λh' e kk he=>?_) (Fy _))));let⟨o,ho,hc⟩:=he;exact AH (wpAny_isInstance (T:="StopIteration") (b:=AB) ⟨o,ho,hc⟩ isSubtype_stop (AV (k _ kk)))
end
noncomputable abbrev ti(l:AI):Obj:={cls:=.type "tuple_iterator",data:=.fields #[.ref l,.int 0 0]}
abbrev zh1(h:BB)(l1:AI):Heap:=h.push (ti l1)
abbrev zh2(h:BB)(l1 l2:AI):Heap:=(zh1 h l1).push (ti l2)
abbrev zh3(h:BB)(l1 l2:AI):Heap:=(zh2 h l1 l2).push {cls:=.type "tuple",data:=.seq #[.ref h.objs.size,.ref (zh1 h l1).objs.size]}
abbrev zh4(h:BB)(l1 l2:AI):Heap:=(zh3 h l1 l2).push {cls:=.type "tuple",data:=.seq #[.none,.none]}
abbrev zh5(h:BB)(l1 l2:AI):Heap:=(zh4 h l1 l2).push {cls:=.type "zip",data:=.fields #[.none,.bool AC,.bool AC,.ref (zh2 h l1 l2).objs.size,.ref (zh3 h l1 l2).objs.size]}
theorem zgL(l1 l2:AI)(xs ys:Array AG):
  Meets (HA.«zip.__new__» ⟨[.type "zip",.ref l1,.ref l2],[]⟩) (λ_ R s=>s.heap.IsTuple l1 xs/\s.heap.IsTuple l2 ys/\R (.ok (.ret (.ref (zh4 s.heap l1 l2).objs.size))) {s with heap:=zh5 s.heap l1 l2}):=
 .of_wp λprog w A R s h=>by
  let⟨hp,g,d,tk,os⟩:=s;let⟨q1,q2,h⟩:=h;have hsub:=sub_zip;have T1:Fr (GZ ⟨hp,g,d,tk,os⟩) l1 xs:=q1;have T2:Fr (GZ ⟨hp.push (ti l1),g,d,tk,os⟩) l2 ys:=zcF q2 λo e=>AR _ e
  wp_walk using Bm T1,Bm T2
  exact⟨_,rfl,h⟩
theorem call_zipT{pg:A8}{wd:Aj}{A:Ao}{Er:AG->AJ->Prop}{s:AJ}{l1 l2:AI}{xs ys:Array AG}{Q:AG->AJ->Prop}(t1:s.heap.IsTuple l1 xs)(t2:s.heap.IsTuple l2 ys)
  (k:∀h',EQ h' (s.heap.objs.size+4) (s.heap.objs.size+2) (s.heap.objs.size+3) .none->CO h' (s.heap.objs.size+2) (.ref s.heap.objs.size) (.ref (s.heap.objs.size+1))->CO h' (s.heap.objs.size+3) .none .none->h'.IsTupleIter s.heap.objs.size l1 0->h'.IsTupleIter (s.heap.objs.size+1) l2 0 ->
   (∀b o,s.heap.get? b=AA o->h'.get? b=AA o)->Q (.ref (s.heap.objs.size+4)) {s with heap:=h'}):A1 (model pg wd) A (call (.type "zip") [.ref l1,.ref l2]) Q Er s:=by
 refine callType_new F.called_zip (by decide) (F.typeCall_zip_2 _ _) (F.newCall_zip_2 _ _) (λobj=>F.args_object_init_3 obj _ _) F.entry_zip_new (zgL l1 l2 xs ys) ⟨t1,t2,?_⟩;have n1:(zh1 s.heap l1).objs.size=s.heap.objs.size+1:=Bo ..;have n2:(zh2 s.heap l1 l2).objs.size=s.heap.objs.size+2:=by rw[Bo,n1]
 have n3:(zh3 s.heap l1 l2).objs.size=s.heap.objs.size+3:=by rw[Bo,n2]
 have n4:(zh4 s.heap l1 l2).objs.size=s.heap.objs.size+4:=by rw[Bo,n3]
 have kp:∀{h:BB} {o:Bu} {b:AI} {u:Bu},h.get? b=AA u->(h.push o).get? b=AA u:=λe=>AR _ e;have m5:(zh5 s.heap l1 l2).get? (zh4 s.heap l1 l2).objs.size=AA _:=A0 _ rfl;have m4:(zh5 s.heap l1 l2).get? (zh3 s.heap l1 l2).objs.size=AA _:=kp (A0 _ rfl);have m3:(zh5 s.heap l1 l2).get? (zh2 s.heap l1 l2).objs.size=AA _:=kp (kp (A0 _ rfl));have m2:(zh5 s.heap l1 l2).get? (zh1 s.heap l1).objs.size=AA _:=kp (kp (kp (A0 _ rfl)));have m1:(zh5 s.heap l1 l2).get? s.heap.objs.size=AA _:=kp (kp (kp (kp (A0 _ rfl))));rw[n2,n3,n4]at m5;rw[n1,n2]at m3;rw[n3]at m4;rw[n1]at m2;show _/\_;rw[n4];exact⟨⟨_,m5,rfl⟩,k _ m5 m3 m4 ⟨_,m1,rfl,rfl⟩ ⟨_,m2,rfl,rfl⟩ λb o e=>kp (kp (kp (kp (kp e))))⟩
end WE
namespace L2
open PySem PySem.Spec PyProof.Rows
noncomputable def Itz(K:AE)(a b:AI):It:=
 ⟨λi H=>∃xs ys x y,SqT K H a xs/\SqT K H b ys/\xs[i]?=AA x/\ys[i]?=AA y,λi H v H'=>∃T,H T=AD/\v=.ref T/\∀xs ys x y,SqT K H a xs->SqT K H b ys->xs[i]?=AA x->ys[i]?=AA y->H'=upd H T (.tup [x,y]),λi H=>∃xs,SqT K H a xs/\xs.length=i⟩
theorem zhx{P:A8}{w:Aj}{K:AE}{es:List AT}{kk:Nat}{pos:CJ}(z TI TO i1 i2 a b:AI)(D:Fx z TI TO i1 i2 a b):
  Turn P w K (.Tuple es kk pos) (Itz K a b) [z,TI,TO,i1,i2] z (λi h=>EQ h z TI TO .none/\CO h TI (.ref i1) (.ref i2)/\(∃p q,CO h TO p q)/\h.IsTupleIter i1 a i/\h.IsTupleIter i2 b i) where
 mem:=by simp
 obj:=λi h st c hc=>by
  let⟨g0,g1,⟨p,q,g2⟩,⟨o3,g3,_,d3⟩,⟨o4,g4,_,d4⟩⟩:=st;erw[A3,BQ,or_false]at hc;rcases hc with rfl|rfl|rfl|rfl|rfl
  .exact⟨_,g0,λv y=>nomatch y⟩
  .exact⟨_,g1,λv y=>nomatch y⟩
  .exact⟨_,g2,λv y=>nomatch y⟩
  .exact⟨o3,g3,λv y=>by rw[d3]at y;cases y⟩
  .exact⟨o4,g4,λv y=>by rw[d4]at y;cases y⟩
 keep:=λi h h' st k=>by
  let⟨g0,g1,⟨p,q,g2⟩,g3,g4⟩:=st;exact⟨k z (by simp) _ g0,k TI (by simp) _ g1,⟨p,q,k TO (by simp) _ g2⟩,WE.tit_keep g3 λo e=>k i1 (by simp) o e,WE.tit_keep g4 λo e=>k i2 (by simp) o e⟩
 item:=by
  intro X hP hw hK hc i pins s σ H E I hf st hg;subst hP hw hK;let⟨xs,ys,x,y,hq1,hq2,hx,hy⟩:=hg;let⟨its,rv,p1,_⟩:=I.tuple hq1;let⟨jts,rw',p2,_⟩:=I.tuple hq2;let⟨g0,g1,⟨p,q,g2⟩,g3,g4⟩:=st;let⟨u,hu,ru⟩:=rv.get hx;let⟨v,hv,rv2⟩:=rw'.get hy;refine WE.pyNext_zipT D g0 g1 g2 g3 g4 p1 p2 (by simpa using hu) (by simpa using hv) λh1 a1 a2 a3 a4 a5 a6 a7=>⟨_,rfl,?_⟩;refine wpAny_letOwnedTupleGo_zip a1 λh2 b1 b2=>?_;have lt:∀{c o},s.heap.get? c=AA o->s.heap.objs.size≠c:=λe=>Ei (AW e);have hTz:s.heap.objs.size≠z:=lt g0;have hch:∀c o,c∉[z,TI,TO,i1,i2]->s.heap.get? c=AA o->h2.get? c=AA o:=λc o hn e=>b2.extBut _ _ (λz'=>hn (by simp[z'])) (a7 c o (λz'=>hn (by simp[z'])) (λz'=>hn (by simp[z'])) (λz'=>hn (by simp[z'])) (λz'=>hn (by simp[z'])) e);have new:yV X.prog X.w (upd H s.heap.objs.size (.tup [x,y])) h2 s.heap.objs.size (.tup [x,y]):=⟨by show 2<=sizeLine;decide,[u,v],.cons ru (.cons rv2 .nil),_,b2.extBut _ _ hTz a5,rfl,_,rfl⟩;have I2:=I.turnLaid (t':=s.toks) hf hch (AU _) new;have gI:CO h1 TI (.ref i1) (.ref i2):=a7 _ _ D.TIz D.TITO D.TIi1 D.TIi2 g1;refine⟨.ref s.heap.objs.size,_,I2,rfl,⟨s.heap.objs.size,I.hok.fresh (AU _),rfl,λxs' ys' x' y' hx1 hy1 hx2 hy2=>?_⟩,⟨b1,b2.extBut _ _ D.TIz gI,⟨_,_,b2.extBut _ _ D.TOz a2⟩,WE.tit_keep a3 λo e=>b2.extBut _ _ D.i1z e,WE.tit_keep a4 λo e=>b2.extBut _ _ D.i2z e⟩,λc hc=>?_⟩
  .rw[I.tuple_inj hx1 hq1,hx]at hx2;rw[I.tuple_inj hy1 hq2,hy]at hy2
   cases hx2
   cases hy2
   rfl
  .have hne:c≠s.heap.objs.size:=λz'=>by
    subst z';let⟨o3,e3,_⟩:=g3;let⟨o4,e4,_⟩:=g4;erw[A3,BQ,or_false]at hc;rcases hc with z' | z' | z' | z' | z'
    .exact lt g0 z'
    .exact lt g1 z'
    .exact lt g2 z'
    .exact lt e3 z'
    .exact lt e4 z'
   rw[zh hne];exact(hf c hc).1
 done:=by
  intro X hP hw hK hc i pins s σ H E I hf st hg;subst hP hw hK;let⟨xs,hq1,hx⟩:=hg;let⟨its,rv,p1,_⟩:=I.tuple hq1;let⟨g0,g1,⟨p,q,g2⟩,g3,g4⟩:=st;have hl:=rv.length;refine WE.pyNext_zipE (I.ok.hd hc) D g0 g1 g2 g3 p1 (by simp;lia) λh' kz=>⟨rfl,I.turnedL (t':=s.toks) hf λc o hn e=>kz c o (λz'=>hn (by simp[z'])) (λz'=>hn (by simp[z'])) (λz'=>hn (by simp[z'])) (λz'=>hn (by simp[z'])) e⟩
 self:=λ_ _ _ _ _ st q=>GW st.1 q
def ygu(K:AE)(ta:TA):TI:=λσ H R=>ta σ H λvs H1=>∃a b,vs=[.ref a,.ref b]/\(∃xs,SqT K H1 a xs)/\(∃ys,SqT K H1 b ys)/\R (Itz K a b) H1
theorem zlc{X:Cx}{a b:AT}{es:List AT}{kk:Nat}{tp:CJ}{ta:TA}{p pos:CJ}(hg:Gl X "zip")(hm:X.mg "zip"=AD)(ha:PA X [a,b] ta)(hs:starEach [a,b] X.env=[(AC,eval a X.env),(AC,eval b X.env)]:=by rfl)(hs2:starEach [b] X.env=[(AC,eval b X.env)]:=by rfl):
  PI X (.Tuple es kk tp) (.Call (.Name "zip" p) [a,b] [] pos) (ygu X.K ta):=by
 intro pins s σ H R I h;refine BY (zdJ I hg hm boot_zip ?_);refine Bw (thn (ha pos pins s σ H _ I h) λus s1 kq=>?_) (by rw[hs,hs2]) (by rw[hs2];rfl);let⟨vs,H1,I1,r1,q1⟩:=kq;let⟨l1,l2,rfl,⟨xs,hq1⟩,⟨ys,hq2⟩,q⟩:=q1
 cases r1 with
 |cons r rr=>
  cases rr with
  |cons r2 r3=>
   cases r3
   cases (show _=Ah l1 from r)
   cases (show _=Ah l2 from r2)
   let⟨its,rv,pt1,_⟩:=I1.tuple hq1;let⟨jts,rv2,pt2,_⟩:=I1.tuple hq2;have b1:l1<s1.heap.objs.size:=by let⟨_,e,_⟩:=pt1;exact AW e
   have b2:l2<s1.heap.objs.size:=by let⟨_,e,_⟩:=pt2;exact AW e
   refine WE.call_zipT pt1 pt2 λh1 g0 g1 g2 g3 g4 kp=>?_;refine GW g0 ?_;refine⟨_,[s1.heap.objs.size+4,s1.heap.objs.size+2,s1.heap.objs.size+3,s1.heap.objs.size,s1.heap.objs.size+1],_,_,H1,rfl,I1.kept (t':=s1.toks) kp,zhx _ _ _ _ _ l1 l2 (zipApart_new b1 b2),⟨g0,g1,⟨_,_,g2⟩,g3,g4⟩,λc hc=>?_,q⟩;have hb2:s1.heap.objs.size<=c:=by
    erw[A3,BQ,or_false]at hc;rcases hc with z' | z' | z' | z' | z'<;>subst z'
    .exact DR _ 4
    .exact DR _ 2
    .exact DR _ 3
    .exact AU _
    .exact DR _ 1
   exact I1.fpOk hb2 (I1.hok.fresh hb2)
end L2
namespace L2
open PySem PySem.Spec PyProof.Rows IC
inductive ycl(K:AE)(cl:Nat->AI)(w:Aj):List (AQ×PV)->List By->Prop
 |nil:ycl K cl w [] []
 |cons {k:AQ} {v:PV} {t:He} {u:AG} {x:V} {D:List (AQ×PV)} {es:List By} (hr:RelV x u) (hv:∀B φ H,yd K cl B φ H v x) (h:ycl K cl w D es):ycl K cl w ((k,v)::D) (⟨EA w.params k,.str k t,u⟩ :: es)
def GD(K:AE)(w:Aj)(mg:AQ->Option AG)(cl:Nat->AI)(x:AQ)(D:List (AQ×PV)):Prop:=
 ∃(y:AI) (es:Array By) (ep:Nat),mg x=AA (.ref y)/\K.lookup y=AA ⟨.type "dict",AD,.dict es ep,#[]⟩/\(y==sysModules)=AC/\ycl K cl w D es.toList/\(D.map (·.1)).Nodup
theorem ycl.pairs{K:AE}{cl:Nat->AI}{P:A8}{w:Aj}{D:List (AQ×PV)}{es:List By}(h:ycl K cl w D es):
  ∃vs:List (AQ×AG),Pairs (strKind P w) es vs/\(∀e∈es,∃k,(strKind P w).is k e.key=AB/\e.hash=(strKind P w).hash k)/\vs.map (·.1)=D.map (·.1) /\
   (∀s,(valueAt vs s).isSome=(yaO s D).isSome)/\∀s v,yaO s D=AA v->∃u x,valueAt vs s=AA u/\RelV x u/\∀B φ H,yd K cl B φ H v x:=by
 induction h with
 |nil=>exact⟨[],.nil,λe he=>(by cases he),rfl,λs=>rfl,λs v e=>by cases e⟩
 |@cons k v t u x D es hr hv h ih=>
  let⟨vs,h1,h2,h3,h4,h5⟩:=ih;have hat:∀s,valueAt ((k,u)::vs) s=if k=s then AA u else valueAt vs s:=λs=>by
   unfold valueAt;rw[Bt]
   by_cases e:k=s
   .simp[e]
   .simp[e]
  refine⟨(k,u)::vs,.cons (DS P w k t) rfl h1,λe he=>?_,by rw[AL,AL,h3],λs=>?_,λs v' e=>?_⟩
  .rcases A3.1 he with rfl|he
   .exact⟨k,DS P w k t,rfl⟩
   .exact h2 e he
  .rw[hat,yaO]
   by_cases e:k=s
   .rw[if_pos e,if_pos (by simpa using e)];rfl
   .rw[if_neg e,if_neg (by simpa using e),h4]
  .rw[yaO]at e;rw[hat]
   by_cases q:k=s
   .rw[if_pos (by simpa using q)]at e
    cases e
    exact⟨u,x,by rw[if_pos q],hr,hv⟩
   .rw[if_neg (by simpa using q)]at e;let⟨u',x',e1,e2,e3⟩:=h5 s v' e;exact⟨u',x',by rw[if_neg q];exact e1,e2,e3⟩
section
variable {S:Se}{X:Cx}{σ:St}{B:AI->Prop}{φ:Ph}{H:Hp}{st:SO}{pos p:CJ}{a b i:AT}{ca cb:Ce}{x:AQ}{D:List (AQ×PV)}{ty:TE}
theorem zhy{y:AI}{es:Array By}{ep:Nat}{pins:List (AI×Bu)}{s:AJ}(I:Inv X pins σ H s)(hk:X.K.lookup y=AA ⟨.type "dict",AD,.dict es ep,#[]⟩)(hn:(D.map (·.1)).Nodup){vs:List (AQ×AG)}(h1:Pairs (strKind X.prog X.w) es.toList vs)
  (h2:∀e∈es.toList,∃k,(strKind X.prog X.w).is k e.key=AB/\e.hash=(strKind X.prog X.w).hash k) (h3:vs.map (·.1)=D.map (·.1)):s.heap.DictOf (strKind X.prog X.w) y vs:=
 ⟨_,es,ep,I.kIn y _ hk,⟨rfl,rfl,rfl⟩,rfl,λe he=>h2 e (by simpa using he),h1,by rw[h3];exact hn⟩
def yey(S:Se)(X:Cx)(D:List (AQ×PV))(ty:TE):TE:=λσ H Q=>ty σ H λz H2=>∃s v,z=.str s/\yaO s D=AA v/\∀x',(∀B φ H,yd X.K S.cl B φ H v x')->Q x' H2
theorem zlH(hg:Gl X x)(h:GD X.K X.w X.mg S.cl x D)(hi:PE X i ty)(hs:ycZ i)(hd:(x==("__debug__":AQ))=false:=by decide):PE X (.Subscript (.Name x p) i pos) (yey S X D ty):=by
 let⟨y,es,ep,hm,hk,hsy,hr,hn⟩:=h;let⟨vs,h1,h2,h3,h4,h5⟩:=hr.pairs (P:=X.prog);intro pins s σ H Q I q0;refine zhW EI.lookup hs (thn (zcP (v:=.ref y) hg hm rfl hd pins s σ H (λz H1=>z=.ref y/\ty σ H1 λz H2=>∃s v,z=.str s/\yaO s D=AA v/\∀x',(∀B φ H,yd X.K S.cl B φ H v x')->Q x' H2) I ⟨rfl,q0⟩) λu s1 kq=>?_);let⟨z,H1,I1,rz,ez,q1⟩:=kq;refine thn (hi pins s1 σ H1 _ I1 q1) λiv s2 kq=>?_;let⟨z2,H2,I2,rz2,sx,v,ez2,e,q2⟩:=kq;subst ez;subst ez2;obtain rfl:u=Ah y:=rz;let⟨t,rfl⟩:=rz2;have dd:=zhy I2 hk hn h1 h2 h3;let⟨u',x',e1,e2,e3⟩:=h5 sx v e;exact⟨dd.typeIs,GX (DS X.prog X.w sx t) dd.mapOf e1 ⟨x',H2,I2.tok _,e2,q2 x' e3⟩⟩
theorem znB(hg:Gl X x)(h:GD X.K X.w X.mg S.cl x D)(hb:PE X b (tE S X cb))(hs:ycZ b:=by exact λ_ _=>rfl)(hd:(x==("__debug__":AQ))=false:=by decide):PE X (.Subscript (.Name x p) b pos) (tE S X (.dix D cb)):=
 (zlH hg h hb hs hd).imp λσ H Q ⟨B,φ,st,ρ,rs,re,h⟩=>by
  erw[ev]at h;refine tE.bind rs re h λz H1 v st1 φ1 s1 rs1 re1 rv h1=>?_;let⟨w,e,q⟩:=zac h1 rs1
  cases v with
  |str sx=>
   erw[yd]at rv;exact⟨sx,w,rv,e,λx' hx=>q x' H1 φ1 .rfl rs1 (hx _ _ _)⟩
  |_=>cases e
def yfE(y:AI)(D:List (AQ×PV)):R2:=λx z H Q=>z=.ref y/\∃s,x=.str s/\Q (.bl (yaO s D).isSome) H
theorem zn9(hg:Gl X x)(h:GD X.K X.w X.mg S.cl x D)(ha:PE X a (tE S X ca))(hm:behindInMarks .In (.Name x p)=false:=by ac_rfl)(hd:(x==("__debug__":AQ))=false:=by decide):PE X (.Compare a [.In] [.Name x p] pos) (tE S X (.din ca D)):=by
 let⟨y,es,ep,hmg,hk,hsy,hr,hn⟩:=h;let⟨vs,h1,h2,h3,h4,h5⟩:=hr.pairs (P:=X.prog);have op:OpR X (compareOp .In) (yfE y D):=by
  intro pins s σ H z1 z2 v u Q I r1 r2 ⟨ez,sx,ex,q⟩;subst ez;subst ex;obtain rfl:u=Ah y:=r2;let⟨t,rfl⟩:=r1;have dd:=zhy I hk hn h1 h2 h3;refine wpAny_in_of (DS X.prog X.w sx t) hsy dd.mapOf ⟨.bl (yaO sx D).isSome,H,I.tok _,?_,q⟩;rw[h4];rfl
 refine(zg1 op ha (zcP (v:=.ref y) hg hmg rfl hd) hm).imp λσ H Q kq=>?_;let⟨B,φ,st,ρ,rs,re,h⟩:=kq;erw[ev]at h;refine tE.bind rs re h λz H1 v st1 φ1 s1 rs1 re1 rv h1=>?_;let⟨w,e,q⟩:=zac h1 rs1
 cases v with
 |str sx=>
  erw[yd]at rv
  cases e
  exact⟨rfl,sx,rv,q _ H1 φ1 .rfl rs1 (by erw[yd])⟩
 |_=>cases e
theorem zeZ:∀(xs ys:List PV) (i:Nat) {x y:PV},xs[i]?=AA x->ys[i]?=AA y->(yaQ xs ys)[i]?=AA (.tup [x,y])
 |[],_,i,_,_,h,_=>by simp at h
 |_::_,[],i,_,_,_,h=>by simp at h
 |x::xs,y::ys,0,_,_,h1,h2=>by simp at h1 h2;simp[yaQ,h1,h2]
 |x::xs,y::ys,i+1,_,_,h1,h2=>by
  erw[AM]at h1 h2;erw[yaQ,AM];exact zeZ xs ys i h1 h2
theorem zeW:∀(xs ys:List PV),xs.length<=ys.length->(yaQ xs ys).length=xs.length
 |[],_,_=>by simp[yaQ]
 |_::_,[],h=>by simp at h
 |x::xs,y::ys,h=>by erw[yaQ,AS,zeW xs ys (by simpa using h)]
theorem zmj{k j:Bool}{vs ws:List PV}{xs ys:List V}{y z:AI}(rt:ybM X.K B φ H k y xs)(l:ye X.K S.cl B φ H vs xs)(rt2:ybM X.K B φ H j z ys)(l2:ye X.K S.cl B φ H ws ys)(hle:vs.length<=ws.length):Drw S X B φ H (yaQ vs ws) (Itz X.K y z):=by
 have hl:=l.length;have hl2:=l2.length;have hp:=zeW vs ws hle;refine⟨λφ' H' s=>⟨xs,(rt.step s).sq,by lia⟩,λi φ' H' s hi=>⟨xs,ys,xs[i]'(by lia),ys[i]'(by lia),(rt.step s).sq,(rt2.step s).sq,by simp[show i<xs.length by lia],by simp[show i<ys.length by lia]⟩,λi φ' H' st x H2 B' hB s rs hi q=>?_⟩;let⟨T,hT,rfl,q⟩:=q;obtain⟨v,hv⟩:∃v,vs[i]?=AA v:=⟨vs[i]'(by lia),by simp[show i<vs.length by lia]⟩;obtain⟨w,hw⟩:∃w,ws[i]?=AA w:=⟨ws[i]'(by lia),by simp[show i<ws.length by lia]⟩;let⟨x',hx',rv⟩:=l.get i hv;let⟨y',hy',rw'⟩:=l2.get i hw;have e:=q xs ys x' y' (rt.step s).sq (rt2.step s).sq hx' hy';subst e;refine⟨.tup [v,w],zeZ vs ws i hv hw,.tup_new hT rs ?_,λb o e=>by rw[zh (zm e hT)];exact e⟩;erw[ye];exact⟨x',[y'],rfl,(rv.moreB hB).step s,y',[],rfl,(rw'.moreB hB).step s,rfl⟩
theorem zmI{es:List AT}{kk:Nat}{tp:CJ}(hg:Gl X "zip")(hm:X.mg "zip"=AD)(ha:PE X a (tE S X ca))(hb:PE X b (tE S X cb))(hs:starEach [a,b] X.env=[(AC,eval a X.env),(AC,eval b X.env)]:=by rfl)(hs2:starEach [b] X.env=[(AC,eval b X.env)]:=by rfl):
  PI X (.Tuple es kk tp) (.Call (.Name "zip" p) [a,b] [] pos) (tI S X (.zip ca cb)):=
 (zlc hg hm (zby ha (zby hb ybm hs2) (by rw[hs,hs2])) hs hs2).imp λσ H R ⟨B,φ,st,ρ,rs,re,h⟩=>by
  erw[evi]at h;refine tE.bind rs re h λx H1 v st1 φ1 s1 rs1 re1 rv h1=>tE.bind rs1 re1 h1 λy H2 w st2 φ2 s2 rs2 re2 rw h2=>?_;let⟨zs,e,h2⟩:=zhH h2
  cases v with
  |tp k vs=>
   cases w with
   |tp j ws=>
    erw[ydS]at e
    by_cases hle:vs.length<=ws.length
    .rw[if_pos hle]at e
     cases e
     erw[yd]at rv rw;let⟨a1,xs,rfl,rt,l⟩:=rv;let⟨a2,ys,rfl,rt2,l2⟩:=rw;exact⟨a1,a2,rfl,⟨xs,(rt.step s2).sq⟩,⟨ys,rt2.sq⟩,h2.ok rs2 (zmj (rt.step s2) (l.step s2) rt2 l2 hle)⟩
    .rw[if_neg hle]at e
     cases e
   |_=>cases e
  |_=>cases e
end
section
variable {K:AE}{cl:Nat->AI}{B:AI->Prop}{φ:Ph}{H:Hp}{st:SO}
end
section
variable {S:Se}{X:Cx}{K:AE}{cl:Nat->AI}{σ:St}{B:AI->Prop}{φ φ1:Ph}{H H1:Hp}{st:SO}{ρ:IC.Env}{pos p p2 px:CJ}{a b c o tg l elt iter:AT}{ca cb cc ce:Ce}{ci:Cit}{ct:Tg}
end
section
variable {K:AE}{cl:Nat->AI}{B:AI->Prop}{φ:Ph}{H:Hp}{st:SO}
theorem FS.lookup{f:AQ}:∀{fs:List (AQ×PV)} {ks:List (AQ×V)},FS K cl B φ H fs ks->(∀v,fs.lookup f=AA v->∃x,ks.lookup f=AA x/\yd K cl B φ H v x)/\(fs.lookup f=AD->ks.lookup f=AD)
 |[],ks,h=>by
  cases (show ks=[]from h)
  exact⟨nofun,λ_=>rfl⟩
 |(k,v)::r,ks,h=>by
  let⟨x,s,rfl,rv,l⟩:=h;let⟨q1,q2⟩:=FS.lookup (f:=f) l;erw[Bn]
  cases e:f==k with
  |true=>exact⟨λw z=>by cases z;exact⟨x,rfl,rv⟩,λz=>by cases z⟩
  |false=>exact⟨q1,q2⟩
theorem FS.put{f:AQ}{v:PV}{x:V}(r:yd K cl B φ H v x):∀{fs:List (AQ×PV)} {ks:List (AQ×V)},FS K cl B φ H fs ks->FS K cl B φ H (ybS f v fs) (ya0 f x ks)
 |[],ks,h=>by
  cases (show ks=[]from h)
  exact⟨x,[],rfl,r,rfl⟩
 |(k,w)::q,ks,h=>by
  let⟨y,s,rfl,ry,l⟩:=h;erw[ybS,ya0]
  by_cases c:k=f
  .rw[if_pos c,if_pos c];exact⟨x,s,rfl,r,l⟩
  .rw[if_neg c,if_neg c];exact⟨y,_,rfl,ry,FS.put r l⟩
theorem FS.len:∀{fs:List (AQ×PV)} {ks:List (AQ×V)},FS K cl B φ H fs ks->fs.length=ks.length
 |[],ks,h=>by cases (show ks=[]from h);rfl
 |(k,w)::q,ks,h=>by
  let⟨y,s,rfl,ry,l⟩:=h;simp[FS.len l]
theorem yx.ins{n c:Nat}{fs:List (AQ×PV)}{x:V}(rs:yx K cl B φ H st)(r:yd K cl B φ H (.loc n) x)(h:st[n]?=AA (.ins c fs)):∃y ks dx,x=.ref y/\φ[n]?=AA (AA y)/\H y=AA (.ins (cl c) dx ks)/\FS K cl B φ H fs ks:=by
 erw[yd]at r;let⟨hn,y,rfl,hy⟩:=r;let⟨a,ha⟩:=rs.liv n _ h (by intro z;cases z);let⟨o,ho,ro⟩:=rs.obj n a ha;have e:=hy a ha;subst e;rw[h]at ho
 cases ho
 let⟨ks,⟨dx,q⟩,l⟩:=ro;exact⟨a,ks,dx,rfl,ha,q,l⟩
end
section
variable {S:Se}{X:Cx}{σ:St}{B:AI->Prop}{φ φ1:Ph}{H H1:Hp}{st:SO}{ρ:IC.Env}{p pos pos' p2 apos:CJ}{a b d o e:AT}{ca cb cc:Ce}{es:List AT}{ces:Ces}{c i k:Nat}{f m x:AQ}{fa:AI}{fd:BC}{ps:List AQ}
theorem zfL{st:SO}{x v:PV}(h:ya4 c st x f=AA v):∃n fs,x=.loc n/\st[n]?=AA (.ins c fs)/\fs.lookup f=AA v:=by
 cases x with
 |loc n=>
  erw[ya4]at h;split at h
  .rename_i dd fs e;split at h
   .rename_i q;subst q;exact⟨n,fs,rfl,e,h⟩
   .cases h
  .cases h
 |_=>cases h
theorem zgf{st st4:SO}{x v:PV}(h:ya2 c st x f v=AA st4):∃n fs,x=.loc n/\st[n]?=AA (.ins c fs)/\fs.length<1000/\st4=st.set n (.ins c (ybS f v fs)):=by
 cases x with
 |loc n=>
  erw[ya2]at h;split at h
  .rename_i dd fs e;split at h
   .rename_i q;let⟨q,q2⟩:=q;subst q
    cases h
    exact⟨n,fs,rfl,e,q2,rfl⟩
   .cases h
  .cases h
 |_=>cases h
theorem zjs{st:SO}{x:PV}{t:Bool}(h:ybY c m st x=AA t):∃n fs,x=.loc n/\st[n]?=AA (.ins c fs)/\fs.lookup m=none:=by
 cases x with
 |loc n=>
  erw[ybY]at h;split at h
  .rename_i dd fs e;split at h
   .rename_i q;let⟨q,q2⟩:=q;subst q;exact⟨n,fs,rfl,e,q2⟩
   .cases h
  .cases h
 |_=>cases h
theorem znv(hc:Cls X.K (S.cl c))(hn:yau X.K (S.cl c) f)(ha:PE X a (tE S X ca))(hb:attributeBase a f X.env (eval a X.env)=eval a X.env:=by rfl):PE X (.Attribute a f pos) (tE S X (.fld c ca f)):=
 (zmN ha hb).imp λσ H Q ⟨B,φ,st,ρ,rs,re,h⟩=>by
  erw[ev]at h;refine tE.bind rs re h λx H1 v st1 φ1 s1 rs1 re1 rv h1=>?_;let⟨z,e,q⟩:=zac h1 rs1;let⟨n,fs,rfl,hn',l⟩:=zfL e;let⟨y,ks,dx,rfl,_,hy,lr⟩:=rs1.ins rv hn';let⟨x,hx,rx⟩:=lr.lookup.1 z l;exact⟨y,S.cl c,dx,ks,x,rfl,hy,hc,hn,hx,q x H1 φ1 .rfl rs1 rx⟩
theorem zoa(hc:Cls X.K (S.cl c))(hn:yau X.K (S.cl c) f)(ha:PE X a (tE S X ca))(hv:PE X b (tE S X cb))(hs:swapsWith b (AA (.Attribute a f pos')) pos.line X.env=pure false:=by rfl):PS X (.Assign [.Attribute a f pos'] b pos) (tS S X (.sfl c ca f cb)):=
 (znM ha hv hs).imp λD σ H ⟨B,φ,st,ρ,rs,re,h⟩=>by
  erw[ex]at h;refine tE.fl rs re h λv' H1 v st1 φ1 s1 rs1 re1 rv h1=>tE.fl rs1 re1 h1 λx' H2 x st2 φ2 s2 rs2 re2 rx h2=>?_
  cases e:ya2 c st2 x f v with
  |none=>rw[e]at h2;exact h2.elim
  |some st4=>
   rw[e]at h2;let⟨n,fs,rfl,hn',hl,rfl⟩:=zgf e;let⟨y,ks,dx,rfl,hp,hy,lr⟩:=rs2.ins rx hn';refine⟨y,S.cl c,dx,ks,rfl,hy,hc,hn,by rw[<-lr.len];exact hl,?_⟩;have s4:Step φ2 H2 φ2 (L2.upd H2 y (.ins (S.cl c) dx (ya0 f v' ks))):=.put (A2 hp);exact h2 σ _ φ2 s4 (rs2.put (o:=.ins c (ybS f v fs)) hp ⟨_,⟨dx,zr⟩,(FS.put (rv.step s2) lr).step s4⟩) (re2.step s4)
theorem noX:ybJ (CX1 X.prog X.w) X (λ_ _ _=>False):=λpins σ H s e s' _ z=>by
 let⟨_,_,_,_,_,_,_,_,_,_,_,_,_,_,z⟩:=z;exact z.elim
theorem zhu{vs:List PV}{xs:List V}{Q:VK}{rs:yx X.K S.cl B φ H st}(l:ye X.K S.cl B φ H vs xs)(h:Run S X σ B φ H (RV S X B) ((ybx (S.call i (.loc st.length::vs) (st++[.ins c []]))).bind λv st2=>newV st.length v st2) Q):
  ∀x dx,H x=AD->H dx=AD->dx≠x->spI X.K S.cl S.call i (.ref x::xs) (L2.upd (L2.upd H dx (.own x)) x (.ins (S.cl c) dx [])) (λv H2=>v=.non/\Q (.ref x) H2) (λ_ _ _=>False):=by
 intro x dx hx hdx ne;have hx':L2.upd H dx (.own x) x=none:=by rw[zh (BL ne)];exact hx
 have t1:Step φ H φ (L2.upd H dx (.own x)):=.upd hdx;have rs1:=rs.upd (o:=.own x) hdx;have t2:Step φ (L2.upd H dx (.own x)) (φ++[AA x]) (L2.upd (L2.upd H dx (.own x)) x (.ins (S.cl c) dx [])):=.push hx';have rs2:=rs1.push hx' (rs1.nB hx') (o:=.ins c []) ⟨[],⟨dx,zr⟩,rfl⟩;have ll:yd X.K S.cl B (φ++[AA x]) (L2.upd (L2.upd H dx (.own x)) x (.ins (S.cl c) dx [])) (.loc st.length) (.ref x):=.loc_new rs1;refine⟨B,φ++[AA x],st++[.ins c []],.loc st.length::vs,rs2,?_,?_⟩
 .simp only[ye];exact⟨.ref x,xs,rfl,ll,(l.step t1).step t2⟩
 .cases e:S.call i (.loc st.length::vs) (st++[.ins c []])with
  |ok v st'=>
   rw[e]at h;erw[ybx,R.bind]at h
   cases v with
   |non=>
    intro z H' φ' s rs' rz;erw[yd]at rz;exact⟨rz,h (.ref x) H' φ' ((t1.trans t2).trans s) rs' (ll.step s)⟩
   |_=>exact h.elim
  |exc k s=>rw[e]at h;exact h.elim
  |bad=>rw[e]at h;exact h.elim
theorem zne(M:Mk X.K (S.cl c) fa)(F:yaJ X.prog X.w X.K X.mg X.base (CX1 X.prog X.w) k fa fd ps (spI X.K S.cl S.call i))(hr:yav (k+1) X.A)(hg:Gl X x)(hm:X.mg x=AA (.ref (S.cl c)))(hb:Binds X.K fd ps [])
  (ha:PA X (e::es) (tAs S X ces)) (hdb:(x==("__debug__":AQ))=false:=by decide) (he:starEach (e::es) X.env=(AC,eval e X.env)::starEach es X.env:=by rfl) (hpl:(backTo pos (starEach es X.env)).any (·.1)=false:=by rfl):
  PE X (.Call (.Name x p) (e::es) [] pos) (tE S X (.new c i ces)):=
 (zk8 M F hr hg hm hb .nil noX ha hdb he hpl).imp λσ H Q ⟨B,φ,st,ρ,rs,re,h⟩=>by
  erw[ev]at h;refine tAs.bind rs re h λxs H1 vs st1 φ1 s1 rs1 re1 rv h1=>?_;rw[BE];exact zhu (rs:=rs1) rv h1
noncomputable def yb1(CX:CXT)(X:Cx)(C:AI)(m:AQ)(sp:Sp)(ta:TE)(t:TA):TE:=λσ H Q=>ta σ H λx H1=>∃y dx fs,x=.ref y/\H1 y=AA (.ins C dx fs)/\fs.lookup m=AD/\t σ H1 λvs H2=>∃E:XK,sp (.ref y::vs) H2 Q E/\∀pins s e s',Inv X pins σ H2 s->CX X.stack H2 s E e s'->X.xe e s'
theorem zjU{CX:CXT}{sp:Sp}{C:AI}{ta:TE}{t:TA}{pl:Gp Bool}(he:PE X o ta)(c:Cls X.K C)(hm:Meth X.K C m fa)(F:yaJ X.prog X.w X.K X.mg X.base CX k fa fd ps sp)(hr:yav k X.A)(hb:Binds X.K fd ps [])(ha:PA X (e::es) t)
  (hst:starEach (e::es) X.env=(AC,eval e X.env)::starEach es X.env:=by rfl) (hpl:(backTo pos (starEach es X.env)).any (·.1)=false:=by rfl)
  (ht:eval (.Call (.Attribute o m apos) (e::es) [] pos) X.env=(do
   let ov <-eval o X.env
   standAt apos.atName
   let (f,first) <-holding [ov] (getMethod ov m pl)
   callWith pos f first (backTo pos (starEach (e::es) X.env)) (backToKw pos (keywordEach [] X.env))):=by rfl):
  PE X (.Call (.Attribute o m apos) (e::es) [] pos) (yb1 CX X C m sp ta t):=by
 intro pins s σ H Q I h;refine FD (pl:=pl) (thn (he pins s σ H _ I h) λu s1 kq=>?_) ht;let⟨x,H1,I1,rx,y,dx,fs,ex,ea,l,q⟩:=kq;subst ex;obtain rfl:u=Ah y:=rx;refine zdM I1 ea c hm l ?_;refine Cz (first:=[.ref y]) (h₀:=X.base) I.ok.mod.kin hm.kp (thn (ha pos pins s1 σ H1 _ I1 q) λus s2 kq=>?_) hst hpl;let⟨vs,H2,I2,r,E,q2,hx⟩:=kq;refine ⟨I2.kIn,?_⟩;exact zdo (us:=.ref y::us) (vs:=.ref y::vs) F hr hb .nil I2 (.cons rfl r) (by rw[BE];exact q2) λe s' z=>hx pins s2 e s' I2 z
theorem zhm{CX:CXT}{sp:Sp}{C:AI}{ta:TE}{pl:Gp Bool}(he:PE X o ta)(c:Cls X.K C)(hm:Meth X.K C m fa)(F:yaJ X.prog X.w X.K X.mg X.base CX k fa fd ps sp)(hr:yav k X.A)(hb:Binds X.K fd ps [])
  (ht:eval (.Call (.Attribute o m apos) [] [] pos) X.env=(do
   let ov <-eval o X.env
   standAt apos.atName
   let (f,first) <-holding [ov] (getMethod ov m pl)
   callWith pos f first (backTo pos (starEach [] X.env)) (backToKw pos (keywordEach [] X.env))):=by rfl):
  PE X (.Call (.Attribute o m apos) [] [] pos) (yb1 CX X C m sp ta yda):=by
 intro pins s σ H Q I h;refine FD (pl:=pl) (thn (he pins s σ H _ I h) λu s1 kq=>?_) ht;let⟨x,H1,I1,rx,y,dx,fs,ex,ea,l,E,q2,hx⟩:=kq;subst ex;obtain rfl:u=Ah y:=rx;refine zdM I1 ea c hm l ?_;exact FX (first:=[.ref y]) I1.kIn hm.kp (zdo (us:=[.ref y]) (vs:=[.ref y]) F hr hb .nil I1 (.cons rfl .nil) q2 λe s' z=>hx pins s1 e s' I1 z)
theorem zev{Q:VK}{t:TA}(hq:∀{H1:Hp} {φ1:Ph} {st1:SO} {P:List V->Hp->Prop} {kk:List PV->SO->R PV},yx X.K S.cl B φ1 H1 st1->yL X.K S.cl B φ1 H1 ρ σ->Run S X σ B φ1 H1 (RV S X B) ((evs S.call ρ st1 ces).bind kk) Q ->
   (∀xs H2 vs st2 φ2,Step φ1 H1 φ2 H2->yx X.K S.cl B φ2 H2 st2->yL X.K S.cl B φ2 H2 ρ σ->ye X.K S.cl B φ2 H2 vs xs->Run S X σ B φ2 H2 (RV S X B) (kk vs st2) Q->P xs H2)->t σ H1 P)
  (rs:yx X.K S.cl B φ H st) (re:yL X.K S.cl B φ H ρ σ) (h:Run S X σ B φ H (RV S X B) ((ev S.call ρ st ca).bind λx st1=>onO (ybY c m st1 x) λ_=>(evs S.call ρ st1 ces).bind λvs st2=>S.call i (x::vs) st2) Q):
  yb1 (CX1 X.prog X.w) X (S.cl c) m (spI X.K S.cl S.call i) (tE S X ca) t σ H Q:=by
 refine tE.bind rs re h λx H1 v st1 φ1 s1 rs1 re1 rv h1=>?_
 cases q:ybY c m st1 v with
 |none=>rw[q]at h1;exact h1.elim
 |some b=>
  rw[q]at h1;erw[onO]at h1;let⟨n,fs,rfl,hn,hl⟩:=zjs q;let⟨y,ks,dx,rfl,_,hy,lr⟩:=rs1.ins rv hn;refine⟨y,dx,ks,rfl,hy,lr.lookup.2 hl,hq rs1 re1 h1 λxs H2 vs st2 φ2 s2 rs2 re2 rl h2=>?_⟩;exact za9 rs2 (by erw[ye];exact⟨.ref y,xs,rfl,rv.step s2,rl⟩) h2
theorem zol{pl:Gp Bool}(hc:Cls X.K (S.cl c))(hm:Meth X.K (S.cl c) m fa)(F:yaJ X.prog X.w X.K X.mg X.base (CX1 X.prog X.w) k fa fd ps (spI X.K S.cl S.call i))(hr:yav k X.A)(hb:Binds X.K fd ps [])
  (ho:PE X o (tE S X ca)) (ha:PA X (e::es) (tAs S X ces))
  (hst:starEach (e::es) X.env=(AC,eval e X.env)::starEach es X.env:=by rfl) (hpl:(backTo pos (starEach es X.env)).any (·.1)=false:=by rfl)
  (ht:eval (.Call (.Attribute o m apos) (e::es) [] pos) X.env=(do
   let ov <-eval o X.env
   standAt apos.atName
   let (f,first) <-holding [ov] (getMethod ov m pl)
   callWith pos f first (backTo pos (starEach (e::es) X.env)) (backToKw pos (keywordEach [] X.env))):=by rfl):
  PE X (.Call (.Attribute o m apos) (e::es) [] pos) (tE S X (.mcl c i m ca ces)):=
 (zjU ho hc hm F hr hb ha hst hpl ht).imp λσ H Q ⟨B,φ,st,ρ,rs,re,h⟩=>by
  erw[ev]at h;exact zev (λrs1 re1 h1 n=>tAs.bind rs1 re1 h1 n) rs re h
theorem zmg{pl:Gp Bool}(hc:Cls X.K (S.cl c))(hm:Meth X.K (S.cl c) m fa)(F:yaJ X.prog X.w X.K X.mg X.base (CX1 X.prog X.w) k fa fd ps (spI X.K S.cl S.call i))(hr:yav k X.A)(hb:Binds X.K fd ps [])
  (ho:PE X o (tE S X ca))
  (ht:eval (.Call (.Attribute o m apos) [] [] pos) X.env=(do
   let ov <-eval o X.env
   standAt apos.atName
   let (f,first) <-holding [ov] (getMethod ov m pl)
   callWith pos f first (backTo pos (starEach [] X.env)) (backToKw pos (keywordEach [] X.env))):=by rfl):
  PE X (.Call (.Attribute o m apos) [] [] pos) (tE S X (.mcl c i m ca .nil)):=
 (zhm ho hc hm F hr hb ht).imp λσ H Q ⟨B,φ,st,ρ,rs,re,h⟩=>by
  erw[ev]at h;refine zev (t:=yda) (λ{H1 φ1 st1 P kk} rs1 re1 h1 n=>?_) rs re h;erw[evs,R.bind]at h1;exact n [] H1 [] st1 φ1 .rfl rs1 re1 (by erw[ye]) h1
end
inductive yb9(w:Aj)(fa:Nat->AI):List (AQ×Nat)->List By->Prop
 |nil:yb9 w fa [] []
 |cons {k:AQ} {i:Nat} {t:He} {D:List (AQ×Nat)} {es:List By} (h:yb9 w fa D es):yb9 w fa ((k,i)::D) (⟨EA w.params k,.str k t,.ref (fa i)⟩ :: es)
def GDF(K:AE)(w:Aj)(mg:AQ->Option AG)(fa:Nat->AI)(x:AQ)(D:List (AQ×Nat)):Prop:=
 ∃(y:AI) (es:Array By) (ep:Nat),mg x=AA (.ref y)/\K.lookup y=AA ⟨.type "dict",AD,.dict es ep,#[]⟩/\yb9 w fa D es.toList/\(D.map (·.1)).Nodup
theorem yb9.pairs{P:A8}{w:Aj}{fa:Nat->AI}{D:List (AQ×Nat)}{es:List By}(h:yb9 w fa D es):
  ∃vs:List (AQ×AG),Pairs (strKind P w) es vs/\(∀e∈es,∃k,(strKind P w).is k e.key=AB/\e.hash=(strKind P w).hash k)/\vs.map (·.1)=D.map (·.1) /\
   ∀s i,D.lookup s=AA i->valueAt vs s=AA (.ref (fa i)):=by
 induction h with
 |nil=>exact⟨[],.nil,λe he=>(by cases he),rfl,λs v e=>by cases e⟩
 |@cons k i t D es h ih=>
  let⟨vs,h1,h2,h3,h5⟩:=ih;have hat:∀s,valueAt ((k,Ah (fa i))::vs) s=if k=s then AA (.ref (fa i))else valueAt vs s:=λs=>by
   unfold valueAt;rw[Bt]
   by_cases e:k=s
   .simp[e]
   .simp[e]
  refine⟨(k,.ref (fa i))::vs,.cons (DS P w k t) rfl h1,λe he=>?_,by rw[AL,AL,h3],λs j e=>?_⟩
  .rcases A3.1 he with rfl|he
   .exact⟨k,DS P w k t,rfl⟩
   .exact h2 e he
  .rw[hat];erw[Bn]at e
   by_cases q:k=s
   .subst q;rw[beq_self_eq_true]at e
    cases e
    rw[if_pos rfl]
   .rw[beq_eq_false_iff_ne.2 (BL q)]at e;rw[if_neg q];exact h5 s j e
section
variable {S:Se}{X:Cx}{σ:St}{B:AI->Prop}{φ:Ph}{H:Hp}{st:SO}{ρ:IC.Env}{pos p p1 p2 p3 p4 p5 p6 p7:CJ}{a b i e n:AT}{es:List AT}{ca cn:Ce}{ces:Ces}{x y:AQ}{D:List (AQ×Nat)}{ty:TE}{t:TA}{fa:Nat->AI}{fdd:Nat->BC}{ps:Nat->List AQ}{k ix:Nat}
noncomputable def ydh(D:List (AQ×Nat))(fa:Nat->AI)(ty:TE):TE:=λσ H Q=>ty σ H λz H2=>∃s j,z=.str s/\D.lookup s=AA j/\Q (.ref (fa j)) H2
theorem zjX(hg:Gl X x)(h:GDF X.K X.w X.mg fa x D)(hi:PE X i ty)(hs:ycZ i)(hd:(x==("__debug__":AQ))=false:=by decide):PE X (.Subscript (.Name x p) i pos) (ydh D fa ty):=by
 let⟨y,es,ep,hm,hk,hr,hn⟩:=h;let⟨vs,h1,h2,h3,h5⟩:=hr.pairs (P:=X.prog);intro pins s σ H Q I q0;refine zhW EI.lookup hs (thn (zcP (v:=.ref y) hg hm rfl hd pins s σ H (λz H1=>z=.ref y/\ty σ H1 λz H2=>∃s j,z=.str s/\D.lookup s=AA j/\Q (.ref (fa j)) H2) I ⟨rfl,q0⟩) λu s1 kq=>?_);let⟨z,H1,I1,rz,ez,q1⟩:=kq;refine thn (hi pins s1 σ H1 _ I1 q1) λiv s2 kq=>?_;let⟨z2,H2,I2,rz2,sx,j,ez2,e,q2⟩:=kq;subst ez;subst ez2;obtain rfl:u=Ah y:=rz;let⟨t,rfl⟩:=rz2;have dd:s2.heap.DictOf (strKind X.prog X.w) y vs:=⟨_,es,ep,I2.kIn y _ hk,⟨rfl,rfl,rfl⟩,rfl,λe he=>h2 e (by simpa using he),h1,by rw[h3];exact hn⟩;exact⟨dd.typeIs,GX (DS X.prog X.w sx t) dd.mapOf (h5 sx j e) ⟨.ref (fa j),H2,I2.tok _,rfl,q2⟩⟩
structure Makers(S:Se)(X:Cx)(k:Nat)(D:List (AQ×Nat))(fa:Nat->AI)(fdd:Nat->BC)(ps:Nat->List AQ):Prop where
 F:∀s j,D.lookup s=AA j->yaJ X.prog X.w X.K X.mg X.base (CX1 X.prog X.w) k (fa j) (fdd j) (ps j) (spI X.K S.cl S.call j)
 kp:∀s j,D.lookup s=AA j->Ap X.K (.ref (fa j))=AB
 b:∀s j,D.lookup s=AA j->Binds X.K (fdd j) (ps j) []
def ydd(S:Se)(X:Cx)(D:List (AQ×Nat))(fa:Nat->AI)(ix:Nat)(t:TA):TE:=λσ H Q=>∃s j,D.lookup s=AA j/\σ[ix]?=AA (AA (.ref (fa j)))/\t σ H λvs H1=>∃E:XK,spI X.K S.cl S.call j vs H1 Q E/\∀pins s e s',Inv X pins σ H1 s->CX1 X.prog X.w X.stack H1 s E e s'->X.xe e s'
theorem zj2(M:Makers S X k D fa fdd ps)(hr:yav k X.A)(hN:X.N[ix]?=AA x)(hv:Vis X.env.scope x)(ha:PA X (e::es) t)
  (hd:(x==("__debug__":AQ))=false:=by decide) (hcd:(x==("__classdict__":AQ))=false:=by decide) (he:starEach (e::es) X.env=(AC,eval e X.env)::starEach es X.env:=by rfl) (hpl:(backTo pos (starEach es X.env)).any (·.1)=false:=by rfl):
  PE X (.Call (.Name x p) (e::es) [] pos) (ydd S X D fa ix t):=by
 intro pins s σ H Q I ⟨sx,j,hl,hs,h⟩;refine BY (thn (zkK hN hv hd hcd pins s σ H (λz H1=>z=.ref (fa j)/\t σ H1 λvs H1=>∃E:XK,spI X.K S.cl S.call j vs H1 Q E/\∀pins s e s',Inv X pins σ H1 s->CX1 X.prog X.w X.stack H1 s E e s'->X.xe e s') I ⟨_,hs,rfl,h⟩) λu s1 kq=>?_);let⟨z,H1,I1,rz,ez,q1⟩:=kq;subst ez;obtain rfl:u=Ah (fa j):=rz;refine Cz (h₀:=X.base) I.ok.mod.kin (M.kp sx j hl) (thn (ha pos pins s1 σ H1 _ I1 q1) λus s2 kq=>?_) he hpl;let⟨vs,H2,I2,r,E,q,hx⟩:=kq;refine ⟨I2.kIn,?_⟩;exact zdo (M.F sx j hl) hr (M.b sx j hl) .nil I2 r (by rw[BE];exact q) λe s' c=>hx pins s2 e s' I2 c
theorem yL.hole{K:AE}{cl:Nat->AI}{v:V}(re:yL K cl B φ H ρ σ):yL K cl B φ H (ρ.set ix AD) (σ.set ix (AA v)):=by
 refine⟨by simp[re.len],λj w e=>?_⟩
 by_cases q:ix=j
 .subst q
  by_cases hj:ix<ρ.length
  .rw[A9 hj]at e;cases e
  .rw[BU (by simp;lia)]at e;cases e
 .rw[AO q]at e ⊢;exact re.get j w e
theorem zjS{v:PV}{j:Nat}{b:Bool}(h:mkV D b v=AA j):∃s,v=.str s/\D.lookup s=AA j/\b=true:=by
 cases v with
 |str s=>
  cases b with
  |true=>exact⟨s,rfl,h,rfl⟩
  |false=>cases h
 |_=>cases h
theorem zox(M:Makers S X k D fa fdd ps)(hr:yav k X.A)(hN:X.N.Nodup)(hi:X.N[ix]?=AA x)(hx:Loc X.env.scope x)(hv:Vis X.env.scope x)(hg:Gl X y)(hd:GDF X.K X.w X.mg fa y D)(hn:PE X n (tE S X cn))(ha:PA X (e::es) (tAs S X ces))
  (hs:ycZ n:=by exact λ_ _=>rfl) (hsw:swapsWith (.Subscript (.Name y p2) n p3) (AA (.Name x p1)) p4.line X.env=pure false:=by rfl) (hf:X.fn x=AB \/ X.env.scope.names.lookup x=AA .local:=by first|exact .inl rfl|exact .inr rfl|assumption)
  (hyd:(y==("__debug__":AQ))=false:=by decide) (hxd:(x==("__debug__":AQ))=false:=by decide) (hcd:(x==("__classdict__":AQ))=false:=by decide) (he:starEach (e::es) X.env=(AC,eval e X.env)::starEach es X.env:=by rfl) (hpl:(backTo p6 (starEach es X.env)).any (·.1)=false:=by rfl):
  PSs X [.Assign [.Name x p1] (.Subscript (.Name y p2) n p3) p4,.Return (AA (.Call (.Name x p5) (e::es) [] p6)) p7] (tSs S X (.cons (.mkr ix D cn ces) .nil)):=
 (zfK (zkz hN hi hx (zjX hg hd hn hs hyd) hsw hf) (zmw (zkw (zj2 M hr hi hv ha hxd hcd he hpl)))).imp λD' σ H ⟨B,φ,st,ρ,rs,re,h⟩=>by
  have h:yaE S X B φ H (ex S.call ρ st (.mkr ix D cn ces)) D':=by
   erw[exs]at h
   cases q:ex S.call ρ st (.mkr ix D cn ces)with
   |nx ρ' s'=>
    exfalso;erw[ex]at q
    cases q1:ev S.call ρ st cn with
    |ok v1 s1=>
     rw[q1]at q;erw[R.fl]at q;split at q
     .rename_i j _
      cases q2:(evs S.call (ρ.set ix AD) s1 ces).bind λvs st2=>S.call j vs st2 with
      |ok v2 s2=>rw[q2]at q;cases q
      |exc c s2=>rw[q2]at q;cases q
      |bad=>rw[q2]at q;cases q
     .cases q
    |exc c s1=>rw[q1]at q;cases q
    |bad=>rw[q1]at q;cases q
   |rt v s'=>rw[q]at h;exact h
   |bk ρ' s'=>rw[q]at h;exact h
   |ct ρ' s'=>rw[q]at h;exact h
   |exc c ρ' s'=>rw[q]at h;exact h
   |bad=>rw[q]at h;exact h
  erw[ex]at h;refine tE.fl rs re h λx' H1 v st1 φ1 s1 rs1 re1 rv h1=>?_
  cases q:mkV D (decide (ix<ρ.length)) v with
  |none=>rw[q]at h1;exact h1.elim
  |some j=>
   rw[q]at h1;let⟨sx,rfl,hl,hb⟩:=zjS q;erw[yd]at rv;subst rv;have hlen:ix<σ.length:=by
    rw[<-re1.len];exact of_decide_eq_true hb
   refine⟨sx,j,rfl,hl,sx,j,hl,by rw[A9 hlen],B,φ1,st1,ρ.set ix AD,rs1,re1.hole,?_⟩;dsimp only at h1
   cases q2:evs S.call (ρ.set ix AD) st1 ces with
   |bad=>rw[q2]at h1;exact h1
   |exc c s2=>rw[q2]at h1;exact λe s' z=>h1 _ φ1 H1 e s' .rfl re1.hole z
   |ok vs st2=>
    rw[q2]at h1;intro xs H2 φ2 s2 rs2 rl;have h2:yaE S X B φ1 H1 ((S.call j vs st2).fl (ρ.set ix AD) λv st3=>.rt v st3) D':=h1;refine za9 rs2 rl ?_
    cases q3:S.call j vs st2 with
    |bad=>rw[q3]at h2;exact h2
    |ok v st3=>rw[q3]at h2;exact λx H' φ' s' rs' rv=>h2 x H' φ' (s2.trans s') rs' rv
    |exc c st3=>rw[q3]at h2;exact λe s' z=>h2 _ φ2 H2 e s' s2 (re1.hole.step s2) z
end
section
variable {P:A8}{w:Aj}{K:AE}{mg:AQ->Option AG}{base:BB}{cl:Nat->AI}{T:Nat->Option IC.Fn}{fi:Nat}{fn:IC.Fn}{x qual:AQ}{stm:Bp}{f:AI}{fd:BC}{N ps:List AQ}{k m:Nat}
theorem zjx:yaJ P w K mg base (CX1 P w) m f fd ps (spI K cl (yc T 0) fi):=
 ⟨λvs H Q E ⟨_,_,_,_,_,_,h⟩=>by rw[yc]at h;exact h.elim,λA outer s H args us vs Q E _ _ _ _ ⟨_,_,_,_,_,_,h⟩=>by rw[yc]at h;exact h.elim⟩
end
theorem yc7.units{k:Nat}{A:Ao}(r:yc7 k A):A.units+64<cLine:=by have:=r.un;lia
section
variable {P:A8}{w:Aj}{K:AE}{mg:AQ->Option AG}{base:BB}{cl:Nat->AI}{T:Nat->Option IC.Fn}{fi:Nat}{fn:IC.Fn}{x qual:AQ}{stm:Bp}{f:AI}{fd:BC}{N ps:List AQ}{k m:Nat}
end
section
variable {S:Se}{X:Cx}{σ:St}{B:AI->Prop}{φ:Ph}{H:Hp}{st:SO}{ρ:IC.Env}{p pos:CJ}{e:AT}{es:List AT}{ces:Ces}{fi k:Nat}{x:AQ}{f:AI}{fd:BC}{ps:List AQ}
end
end L2
namespace L2
open PySem IC
section
variable {S:Se}{X:Cx}{σ:St}{B:AI->Prop}{φ φ1:Ph}{H H1:Hp}{st:SO}{ρ:IC.Env}{p pos p2 px py pt pt2:CJ}{a b c d o a' b' c' d':AT}{ca cb cc cd ce cf:Ce}{pins:List (AI×Bu)}{s:AJ}{kt k2:Nat}{es:List AT}{ces:Ces}{x:AQ}
end
end L2
namespace L2
open PySem PySem.Spec PyProof.Rows
section
variable {X:Cx}
end
end L2
namespace L2
open PySem PySem.Spec PyProof.Rows IC
section
variable {S:Se}{X:Cx}{σ:St}{B:AI->Prop}{φ φ1:Ph}{H H1:Hp}{st:SO}{ρ:IC.Env}{p pos p2 apos:CJ}{a b c d:AT}{ca cb cc:Ce}{es:List AT}{ces:Ces}{K:AE}{cl:Nat->AI}
end
section
variable {S:Se}{X:Cx}{a b:AT}{c i:Nat}{j:Int}{f:AQ}{pos tpos:CJ}
theorem zov(hc:Cls X.K (S.cl c))(hn:yau X.K (S.cl c) f)(ha:PE X a (tE S X (.var i)))(hv:PE X b (tE S X (.cst (.int j)))):
  PS X (.AugAssign (.Attribute a f tpos) .Add b pos) (tS S X (.sfl c (.var i) f (.bin .add (.fld c (.var i) f) (.cst (.int j))))):=
 (zhZ ha hv znR).imp λD σ H ⟨B,φ,st,ρ,rs,re,h⟩=>by
  erw[ex,ev]at h
  cases q:ρ[i]? with
  |none=>rw[q]at h;exact h.elim
  |some o=>
   cases o with
   |none=>rw[q]at h;exact h.elim
   |some x=>
    rw[q]at h;dsimp only[R.bind]at h;refine⟨B,φ,st,ρ,rs,re,?_⟩;erw[ev,q];intro x' H1 φ1 s1 rs1 rx;have re1:=re.step s1;have h:=yaE.on s1 h
    cases e:ya4 c st x f with
    |none=>rw[e]at h;exact h.elim
    |some v=>
     rw[e]at h;let⟨n,fs,rfl,hn',l⟩:=zfL e;let⟨y,ks,dx,rfl,hp,hy,lr⟩:=rs1.ins rx hn';let⟨x,hx,rxv⟩:=lr.lookup.1 v l;refine⟨y,S.cl c,dx,ks,x,rfl,hy,hc,hn,hx,⟨B,φ1,st,ρ,rs1,re1,?_⟩⟩;erw[ev];intro y' H2 φ2 s2 rs2 ry;erw[yd]at ry;subst ry
     cases v with
     |int k=>
      erw[yd]at rxv;subst rxv;refine⟨k,j,rfl,rfl,?_⟩;have h:yaE S X B φ1 H1 (match ya2 c st (.loc n) f (.int (k+j))with|some st3=>Fl.nx ρ st3|none=>Fl.bad) D:=h;have h:=yaE.on s2 h;have rx2:=rx.step s2;let⟨y2,ks2,dx2,e2,hp2,hy2,lr2⟩:=rs2.ins rx2 hn'
      cases e2
      cases e3:ya2 c st (.loc n) f (.int (k+j))with
      |none=>rw[e3]at h;exact h.elim
      |some st4=>
       rw[e3]at h;let⟨n',fs',z,hn2,hl,rfl⟩:=zgf e3
       cases z
       rw[hn']at hn2
       cases hn2
       refine⟨dx2,ks2,hy2,by rw[<-lr2.len];exact hl,?_⟩;have s4:Step φ2 H2 φ2 (L2.upd H2 y (.ins (S.cl c) dx2 (ya0 f (.int (k+j)) ks2))):=.put (A2 hp2);exact h σ _ φ2 s4 (rs2.put (o:=.ins c (ybS f (.int (k+j)) fs)) hp2 ⟨_,⟨dx2,zr⟩,(FS.put (by erw[yd]) lr2).step s4⟩) ((re1.step s2).step s4)
     |_=>exact h.elim
end
end L2
namespace HT
open PySem PySem.Spec PyProof.Rows
section
variable {prog:A8}{w:Aj}{A:Ao}{E:AG->AJ->Prop}{s:AJ}
end
end HT
namespace L2
open PySem PySem.Spec PyProof.Rows IC
section
variable {S:Se}{X:Cx}{pos p2:CJ}{e e3:AT}{te t3:TE}{a:AT}{ca c3:Ce}
theorem ye.reverse{K:AE}{cl:Nat->AI}{B:AI->Prop}{φ:Ph}{H:Hp}:∀{vs:List PV} {xs:List V},ye K cl B φ H vs xs->ye K cl B φ H vs.reverse xs.reverse
 |[],xs,h=>by
  erw[ye]at h;subst h;erw[List.reverse_nil,ye]
 |v::vs,xs,h=>by
  erw[ye]at h;let⟨y,ys,rfl,r,l⟩:=h;rw[DG,DG];exact(ye.reverse l).append (by erw[ye];exact⟨y,[],rfl,r,rfl⟩)
end
section
variable {X:Cx}{prog:A8}{w:Aj}{A:Ao}{E:AG->AJ->Prop}{s:AJ}
end
section
variable {S:Se}{X:Cx}{pos px:CJ}{a:AT}{ca:Ce}
end
end L2
namespace L2
open PySem PySem.Spec PyProof.Rows IC WK
inductive GK where
 |fn (i:Nat)|fnD (i:Nat)|cst (v:PV)|dct (D:List (AQ×PV))|exc (c:Nat)|cls (c i:Nat)
structure Gs where
 g:AQ->Option GK
 b:AQ->Bool
 t:Ty->Bool
 fl:Nat->AQ->Bool
 me:Nat->AQ->Option Nat
 kb:Nat->Nat->List AQ->Option (List (Option Int))
 mr:AQ->Option (List (AQ×Nat))
structure Kx where
 N:List AQ
 sc:Bi
 own:Bool
def Fo(m:Nat)(S:Se)(X:Cx)(i:Nat)(f:AI)(fd:BC)(ps:List AQ):Prop:=yaJ X.prog X.w X.K X.mg X.base (CX1 X.prog X.w) m f fd ps (spI X.K S.cl S.call i)
structure Glo(γ:Gs)(m:Nat)(S:Se)(X:Cx):Prop where
 F:∀x i,γ.g x=AA (.fn i)->∃f fd ps,Fo m S X i f fd ps/\X.mg x=AA (.ref f)/\Ap X.K (.ref f)=AB/\Binds X.K fd ps []
 Q:∀x i np ks sh,γ.g x=AA (.fnD i)->γ.kb i np ks=AA sh->∃f fd ps,Fo m S X i f fd ps/\X.mg x=AA (.ref f)/\Ap X.K (.ref f)=AB/\∃g,ybD X.K fd ps ks g (gK np sh)
 C:∀x v,γ.g x=AA (.cst v)->GC X.K X.mg S.cl x v \/ ∃i,v=.int i/\GCI X.mg x i
 D:∀x d,γ.g x=AA (.dct d)->GD X.K X.w X.mg S.cl x d
 E:∀x c,γ.g x=AA (.exc c)->ydE X.K X.mg (S.cl c) x
 N:∀x c i,γ.g x=AA (.cls c i)->X.mg x=AA (.ref (S.cl c))/\∃f fd ps,Mk X.K (S.cl c) f/\Fo m S X i f fd ps/\Binds X.K fd ps []
 B:∀x,γ.b x=AB->X.mg x=AD
 T:∀t,γ.t t=AB->yeS X.K t
 A:∀c f,γ.fl c f=AB->Cls X.K (S.cl c)/\yau X.K (S.cl c) f
 M:∀c n i,γ.me c n=AA i->Cls X.K (S.cl c)/\∃f fd ps,Meth X.K (S.cl c) n f/\Fo m S X i f fd ps/\Binds X.K fd ps []
 K:∀y D,γ.mr y=AA D->∃fa fdd ps,Makers S X m D fa fdd ps/\GDF X.K X.w X.mg fa y D
structure Good(γ:Gs)(κ:Kx)(m:Nat)(S:Se)(X:Cx):Prop where
 n:X.N=κ.N
 sc:X.env.scope=κ.sc
 calm:X.calm=AB
 room:yav (m+1) X.A
 own:κ.own=AB->E8 (model X.prog X.w) X.A X.env X.xe/\(∀x,X.fn x=AB)/\S.may=AB
 glo:Glo γ m S X
noncomputable abbrev Pr(P:Prop):Type:=Option (PLift P)
abbrev YE(γ:Gs)(κ:Kx)(e:AT)(c:Ce):Prop:=∀m S X,Good γ κ m S X->PE X e (tE S X c)
abbrev YT(γ:Gs)(κ:Kx)(e:AT)(c:Ce):Prop:=∀m S X,Good γ κ m S X->PT X e (tTs S X c)
abbrev YW(γ:Gs)(κ:Kx)(e:AT)(c:Ce):Prop:=∀m S X,Good γ κ m S X->PW X e (tTs S X c)
abbrev YA(γ:Gs)(κ:Kx)(e:List AT)(c:Ces):Prop:=∀m S X,Good γ κ m S X->PA X e (tAs S X c)
abbrev YO(γ:Gs)(κ:Kx)(e:Option AT)(c:Ce):Prop:=∀m S X,Good γ κ m S X->PO X e (tO S X c)
abbrev YS(γ:Gs)(κ:Kx)(s:Bp)(c:Cs):Prop:=∀m S X,Good γ κ m S X->PS X s (tS S X c)
abbrev YSs(γ:Gs)(κ:Kx)(s:List Bp)(c:Css):Prop:=∀m S X,Good γ κ m S X->PSs X s (tSs S X c)
noncomputable def an{P Q:Prop}(a:Pr P)(k:P->Pr Q):Pr Q:=match a with
 |some h=>k h.down
 |none=>AD
noncomputable def ok{P:Prop}(h:P):Pr P:=AA ⟨h⟩
noncomputable def ask(p:Prop)[Decidable p]:Pr p:=if h:p then AA ⟨h⟩else AD
noncomputable def nst:AT->Bool
 |.Starred _ _=>AC
 |_=>AB
theorem yah{a:AT}{es:List AT}{env:BX}(h:nst a=AB):starEach (a::es) env=(AC,eval a env)::starEach es env:=by
 cases a<;>first|rfl|cases h
def ybV(es:List AT):Bool:=es.all nst
theorem stars{pos:CJ}{env:BX}:∀{es:List AT},ybV es=AB->(backTo pos (starEach es env)).any (·.1)=AC
 |[],_=>rfl
 |a::es,h=>by
  erw[ybV,B8,AK]at h;rw[yah h.1];have:=stars (pos:=pos) (env:=env) (es:=es) h.2;simpa [backTo] using this
noncomputable def nco:AT->Bool
 |.ListComp ..=>AC
 |.SetComp ..=>AC
 |.DictComp ..=>AC
 |_=>AB
theorem swp{a:AT}{t:Option AT}{l:Nat}{env:BX}(h:nco a=AB):swapsWith a t l env=pure false:=by
 cases a<;>first|rfl|cases h
noncomputable def nse:AT->Bool
 |.Set ..=>AC
 |_=>AB
theorem fse{a:AT}{env:BX}(h:nse a=AB):∀x,foldedSetIterable a env x=pure x:=by
 cases a<;>first|exact λ_=>rfl|cases h
theorem nmk{op:FZ}{a:AT}(h:nse a=AB):behindInMarks op a=false:=by
 cases a<;>first|rfl|cases h
noncomputable def nsl:AT->Bool
 |.Slice ..=>AC
 |_=>AB
theorem pix{a:AT}(h:nsl a=AB):ybv a:=by
 cases a<;>first|exact λ_ _=>rfl|cases h
theorem nos{a:AT}(h:nsl a=AB):ycZ a:=pix h
noncomputable def ntu:AT->Bool
 |.Tuple ..=>AC
 |_=>AB
noncomputable def nte:AT->Bool
 |.UnaryOp ..=>AC
 |.BoolOp ..=>AC
 |.IfExp ..=>AC
 |.Compare ..=>AC
 |_=>AB
theorem itr{a:AT}{env:BX}(h:nte a=AB):∀whole,isTrue a env whole=(do let v <-whole;standAt a.pos;holding [v] (truthy v)):=by
 cases a<;>first|exact λ_=>rfl|cases h
noncomputable def nca:AT->Bool
 |.Call ..=>AC
 |_=>AB
theorem ydP{a:AT}{f:AQ}{env:BX}{w:Gp AG}(h:nca a=AB):attributeBase a f env w=w:=by
 cases a<;>first|rfl|cases h
def mOp(op:D0)(o:BOp):Pr (∀S X,OpR X (binaryOp op) (rT2 S X (yq o))):=
 match op,o with
 |.Add,.add=>ok (λ_ _=>zog)
 |.Sub,.sub=>ok (λ_ _=>zmS)
 |.Mult,.mul=>ok (λ_ _=>zmK)
 |.FloorDiv,.fdiv=>ok (λ_ _=>zmk)
 |.Mod,.mod=>ok (λ_ _=>zmL)
 |.Pow,.pow=>ok (λ_ _=>zoK)
 |.LShift,.shl=>ok (λ_ _=>zmC)
 |.RShift,.shr=>ok (λ_ _=>znz)
 |.BitAnd,.band=>ok (λ_ _=>zkQ)
 |.BitOr,.bor=>ok (λ_ _=>zoA)
 |.BitXor,.bxor=>ok (λ_ _=>zl0)
 |_,_=>AD
def mCm(op:FZ)(o:COp):Pr (∀m S X,yav m X.A->OpR X (compareOp op) (rT2 S X (yD o))):=
 match op,o with
 |.Eq,.eq=>ok (λ_ _ _ r=>zo1 r.units)
 |.NotEq,.ne=>ok (λ_ _ _ r=>zph r.units)
 |.Lt,.lt=>ok (λ_ _ _ _=>zpv)
 |.LtE,.le=>ok (λ_ _ _ _=>zpd)
 |.Gt,.gt=>ok (λ_ _ _ _=>zpz)
 |.GtE,.ge=>ok (λ_ _ _ _=>zpa)
 |.In,.isin=>ok (λ_ _ _ _=>zpn)
 |_,_=>AD
noncomputable def ydT(sc:Bi)(x:AQ):Bool:=match sc.names.lookup x with
 |some .local=>AB
 |some .cell=>AB
 |some .free=>AB
 |_=>AC
theorem ziu{sc:Bi}{x:AQ}(h:ydT sc x=AB):Vis sc x:=by
 unfold ydT at h;split at h
 .exact .inl ‹_›
 .exact .inr (.inl ‹_›)
 .exact .inr (.inr ‹_›)
 .cases h
noncomputable def ydU(sc:Bi)(x:AQ):Bool:=match sc.names.lookup x with
 |some .local=>AB
 |some .cell=>AB
 |_=>AC
theorem ziL{sc:Bi}{x:AQ}(h:ydU sc x=AB):Loc sc x:=by
 unfold ydU at h;split at h
 .exact .inl ‹_›
 .exact .inr ‹_›
 .cases h
noncomputable def pln(x:AQ):Bool:=!(x==("__debug__":AQ))&&!(x==("__classdict__":AQ))&&!(x==("__name__":AQ))
theorem ybt{x:AQ}(h:pln x=AB):(x==("__debug__":AQ))=false:=by
 erw[pln,AK,Ca]at h;exact h.1.1
theorem ydV{x:AQ}(h:pln x=AB):(x==("__classdict__":AQ))=false:=by
 erw[pln,AK,Ca]at h;exact h.1.2
theorem yeP{x:AQ}(h:pln x=AB):x ≠ "__name__":=by
 erw[pln,AK,Ca]at h;intro e;rw[e]at h;exact absurd h.2 (by decide)
def glB(κ:Kx)(x:AQ):Bool:=decide (κ.sc.names.lookup x=AA .globalImplicit)&&pln x
theorem zaf{γ:Gs}{κ:Kx}{m:Nat}{S:Se}{X:Cx}(G:Good γ κ m S X){x:AQ}(h:glB κ x=AB):Gl X x:=by
 erw[glB,AK,decide_eq_true_eq]at h;show X.env.scope.names.lookup x=_;rw[G.sc];exact h.1
theorem zbA{κ:Kx}{x:AQ}(h:glB κ x=AB):pln x=true:=by
 erw[glB,AK]at h;exact h.2
def setB(κ:Kx)(i:Nat)(x:AQ):Bool:=decide (κ.N[i]?=AA x)&&decide κ.N.Nodup&&ydU κ.sc x&&(κ.own || decide (κ.sc.names.lookup x=AA .local))&&pln x
structure yd7(X:Cx)(i:Nat)(x:AQ):Prop where
 d:X.N.Nodup
 i:X.N[i]?=AA x
 l:Loc X.env.scope x
 f:X.fn x=AB \/ X.env.scope.names.lookup x=AA .local
 p:pln x=AB
theorem zaW{γ:Gs}{κ:Kx}{m:Nat}{S:Se}{X:Cx}(G:Good γ κ m S X){i:Nat}{x:AQ}(h:setB κ i x=AB):yd7 X i x:=by
 erw[setB,AK,Cy,decide_eq_true_eq]at h;let⟨⟨⟨⟨h1,h2⟩,h3⟩,h4⟩,h5⟩:=h;refine⟨by rw[G.n];exact h2,by rw[G.n];exact h1,by rw[G.sc];exact ziL h3,?_,h5⟩;rcases h4 with h4|h4
 .exact .inl ((G.own h4).2.1 x)
 .exact .inr (by rw[G.sc];exact h4)
noncomputable def gFn(γ:Gs)(x:AQ)(i:Nat):Pr (γ.g x=AA (.fn i)):=match h:γ.g x with
 |some (.fn j)=>if e:j=i then AA ⟨by subst e;rfl⟩else AD
 |_=>AD
section
variable {γ:Gs}{κ:Kx}{ca cb cc:Ce}{ces:Ces}
def yeW(v:PV)(e:AT):Pr (YE γ κ e (.cst v)):=
 match e with
 |.Constant (.int i) _ _=>match v with
  |.int j=>an (ask (i=j)) λh=>ok (λ_ _ _ _=>by cases h;exact zkE)
  |_=>AD
 |.Constant (.bool i) _ _=>match v with
  |.bl j=>an (ask (i=j)) λh=>ok (λ_ _ _ _=>by cases h;exact zo7)
  |_=>AD
 |.Constant .none _ _=>match v with
  |.non=>ok (λ_ _ _ _=>zon)
  |_=>AD
 |.Constant (.str i) _ _=>match v with
  |.str j=>an (ask (i=j)) λh=>ok (λ_ _ _ _=>by cases h;exact znl)
  |_=>AD
 |_=>AD
def yfk(i:Nat)(e:AT):Pr (YE γ κ e (.var i)):=
 match e with
 |.Name x _=>an (ask (κ.N[i]?=AA x/\ydT κ.sc x=AB/\pln x=AB)) λh=>ok (λ_ _ _ G=>znX (by rw[G.n];exact h.1) (by rw[G.sc];exact ziu h.2.1) (ybt h.2.2) (ydV h.2.2))
 |_=>AD
def yg3(o:BOp)(e:AT)(fa:∀x,Pr (YE γ κ x ca))(fb:∀x,Pr (YE γ κ x cb)):Pr (YE γ κ e (.bin o ca cb)):=
 match e with
 |.BinOp a op b _=>
  an (mOp op o) λho=>an (fa a) λha=>an (fb b) λhb=>ok (λm S X G=>znu (ho S X) (ha m S X G) (hb m S X G))
 |_=>AD
def yf1(e:AT)(fa:∀x,Pr (YE γ κ x ca)):Pr (YE γ κ e (.neg ca)):=
 match e with
 |.UnaryOp .USub a _=>
  an (fa a) λha=>ok (λm S X G=>zkg (ha m S X G))
 |_=>AD
def yfX(e:AT)(fa:∀x,Pr (YE γ κ x ca)):Pr (YE γ κ e (.not ca)):=
 match e with
 |.UnaryOp .Not a _=>
  an (fa a) λha=>ok (λm S X G=>zm4 (ha m S X G))
 |_=>AD
def yf0(o:COp)(e:AT)(fa:∀x,Pr (YE γ κ x ca))(fb:∀x,Pr (YE γ κ x cb)):Pr (YE γ κ e (.cmp o ca cb)):=
 match e with
 |.Compare a [op] [b] _=>
  an (mCm op o) λho=>an (ask (nse b=AB)) λhs=>an (fa a) λha=>an (fb b) λhb=>ok (λm S X G=>zm7 (ho _ S X G.room) (ha m S X G) (hb m S X G) (nmk hs))
 |_=>AD
def yem(o:COp)(e:AT)(fa:∀x,Pr (YE γ κ x ca))(fb:∀x,Pr (YE γ κ x cb)):Pr (YT γ κ e (.cmp o ca cb)):=
 match e with
 |.Compare a [op] [b] _=>
  an (mCm op o) λho=>an (ask (nse b=AB)) λhs=>an (fa a) λha=>an (fb b) λhb=>ok (λm S X G=>znY (ho _ S X G.room) (ha m S X G) (hb m S X G) (nmk hs))
 |_=>AD
theorem lmk{op op':FZ}{b c:AT}(h:nse c=AB):lastMarks [op,op'] [b,c]=false:=nmk h
def ygl(o p:COp)(e:AT)(fa:∀x,Pr (YE γ κ x ca))(fb:∀x,Pr (YE γ κ x cb))(fc:∀x,Pr (YE γ κ x cc)):Pr (YE γ κ e (.chain o p ca cb cc)):=
 match e with
 |.Compare a [op,op'] [b,c] _=>
  an (mCm op o) λho=>an (mCm op' p) λhp=>an (ask (nse c=AB)) λhs=>an (fa a) λha=>an (fb b) λhb=>an (fc c) λhc=>ok (λm S X G=>zjo (ho _ S X G.room) (hp _ S X G.room) (ha m S X G) (hb m S X G) (hc m S X G) (lmk hs))
 |_=>AD
def yeR(o p:COp)(e:AT)(fa:∀x,Pr (YE γ κ x ca))(fb:∀x,Pr (YE γ κ x cb))(fc:∀x,Pr (YE γ κ x cc)):Pr (YT γ κ e (.chain o p ca cb cc)):=
 match e with
 |.Compare a [op,op'] [b,c] _=>
  an (mCm op o) λho=>an (mCm op' p) λhp=>an (ask (nse c=AB)) λhs=>an (fa a) λha=>an (fb b) λhb=>an (fc c) λhc=>ok (λm S X G=>zjQ (ho _ S X G.room) (hp _ S X G.room) (ha m S X G) (hb m S X G) (hc m S X G) (lmk hs))
 |_=>AD
def yfR(e:AT)(fc:∀x,Pr (YT γ κ x cc))(fa:∀x,Pr (YE γ κ x ca))(fb:∀x,Pr (YE γ κ x cb)):Pr (YE γ κ e (.ite cc ca cb)):=
 match e with
 |.IfExp c a b _=>
  an (fc c) λhc=>an (fa a) λha=>an (fb b) λhb=>ok (λm S X G=>znr (hc m S X G) (ha m S X G) (hb m S X G))
 |_=>AD
def ygK(e:AT)(fa:∀x,Pr (YA γ κ x ces)):Pr (YE γ κ e (.tup ces)):=
 match e with
 |.Tuple es _ _=>
  an (fa es) λha=>ok (λm S X G=>zoz (ha m S X G))
 |_=>AD
def ygY(e:AT)(fa:∀x,Pr (YA γ κ x ces)):Pr (YE γ κ e (.lst ces)):=
 match e with
 |.List es _=>
  an (fa es) λha=>ok (λm S X G=>znW (ha m S X G))
 |_=>AD
def yeL(e:AT)(fa:∀x,Pr (YA γ κ x ces)):Pr (YE γ κ e (.newl ces)):=
 match e with
 |.List es _=>
  an (fa es) λha=>ok (λm S X G=>zlv (ha m S X G))
 |_=>AD
def yel(t:Bool)(e:AT):Pr (YE γ κ e (.dict0 t)):=
 match t,e with
 |true,.Dict [] [] _=>ok (λ_ _ _ _=>zic)
 |_,_=>AD
def mIdx(e:AT)(fa:∀x,Pr (YE γ κ x ca))(fb:∀x,Pr (YE γ κ x cb)):Pr (YE γ κ e (.idx ca cb)):=
 match e with
 |.Subscript a b _=>
  an (ask (nsl b=AB)) λhs=>an (fa a) λha=>an (fb b) λhb=>ok (λm S X G=>znJ (ha m S X G) (hb m S X G) (pix hs))
 |_=>AD
def ygc(e:AT)(fa:∀x,Pr (YE γ κ x ca))(fb:∀x,Pr (YO γ κ x cb))(fc:∀x,Pr (YO γ κ x cc)):Pr (YE γ κ e (.slc ca cb cc)):=
 match e with
 |.Subscript a (.Slice l h AD _) _=>
  an (fa a) λha=>an (fb l) λhb=>an (fc h) λhc=>ok (λm S X G=>znK (ha m S X G) (hb m S X G) (hc m S X G))
 |_=>AD
def yfi(c:Ce)(e:Option AT)(fa:∀x,Pr (YE γ κ x c)):Pr (YO γ κ e c):=
 match e with
 |none=>match c with
  |.cst .non=>ok (λ_ _ _ _=>zlT)
  |_=>AD
 |some a=>
  an (fa a) λha=>ok (λm S X G=>zkW (ha m S X G))
inductive Fs(γ:Gs)(κ:Kx):Ces->Type where
 |nil:Fs γ κ .nil
 |cons {c:Ce} {cs:Ces} (f:∀x,Pr (YE γ κ x c)) (r:Fs γ κ cs):Fs γ κ (.cons c cs)
def yaZ:{ces:Ces}->Fs γ κ ces->(es:List AT)->Pr (YA γ κ es ces)
 |_,.nil,[]=>ok λ_ _ _ _=>ziP
 |_,.cons f r,a::es=>an (ask (nst a=AB)) λhs=>an (f a) λha=>an (yaZ r es) λhr=>ok λm S X G=>zd4 (ha m S X G) (hr m S X G) (yah hs)
 |_,_,_=>AD
structure Sp2(γ:Gs)(κ:Kx)(ces:Ces)(np:Nat) where
 c1:Ces
 c2:Ces
 f1:Fs γ κ c1
 f2:Fs γ κ c2
 h:ya7 c1 c2=ces
 l:ycY c1=np
def ycv:(np:Nat)->{ces:Ces}->Fs γ κ ces->Option (Sp2 γ κ ces np)
 |0,ces,F=>AA ⟨.nil,ces,.nil,F,rfl,rfl⟩
 |n+1,_,.cons f r=>match ycv n r with
  |some s=>AA ⟨.cons _ s.c1,s.c2,.cons f s.f1,s.f2,by rw[ya7,s.h],by rw[ycY,s.l]⟩
  |none=>AD
 |_,_,_=>AD
structure It2(γ:Gs)(κ:Kx)(ces:Ces)(sh:List (Option Int))(kws:List CQ) where
 it:List (Sum Ce Int)
 h:yR it=ces
 s:it.map shC=sh
 k:∀m S X,Good γ κ m S X->PK X kws (tK S X it)
def yb0:(sh:List (Option Int))->{ces:Ces}->Fs γ κ ces->(kws:List CQ)->Option (It2 γ κ ces sh kws)
 |[],_,.nil,[]=>AA ⟨[],rfl,rfl,λ_ _ _ _=>zoY⟩
 |none::sh,.cons c _,.cons f r,⟨_,e,_⟩ :: kws=>match f e,yb0 sh r kws with
  |some h,AA q=>AA ⟨.inl c::q.it,by rw[yR,q.h],by rw[AL,q.s];rfl,λm S X G=>zpt (h.down m S X G) (q.k m S X G)⟩
  |_,_=>AD
 |some i::sh,.cons (.cst (.int j)) _,.cons _ r,kws=>if e:i=j then match yb0 sh r kws with
  |some q=>AA ⟨.inr i::q.it,by rw[yR,q.h,e],by rw[AL,q.s];rfl,λm S X G=>zpC (q.k m S X G)⟩
  |none=>AD
  else AD
 |_,_,_,_=>AD
noncomputable def kwN:List CQ->List AQ
 |[]=>[]
 |⟨AA x,_,_⟩ :: r=>x::kwN r
 |_::r=>kwN r
noncomputable def kwB:List CQ->Bool
 |[]=>AB
 |⟨AA _,_,_⟩ :: r=>kwB r
 |_=>AC
theorem znp{pos:CJ}{env:BX}:∀{kws:List CQ},kwB kws=AB->(backToKw pos (keywordEach kws env)).all (·.1.isSome)=AB/\(backToKw pos (keywordEach kws env)).filterMap (·.1)=kwN kws/\(backToKw pos (keywordEach kws env)).any (·.1.isNone)=AC
 |[],_=>⟨rfl,rfl,rfl⟩
 |⟨AA x,e,_⟩ :: r,h=>by
  let⟨h1,h2,h3⟩:=znp (pos:=pos) (env:=env) (kws:=r) h;erw[backToKw]at h1 h2 h3 ⊢;erw[keywordEach,AL,B8,CP,BN,h1,h2,h3,kwN];simp
def ygq(i:Nat)(F:Fs γ κ ces)(e:AT):Pr (YE γ κ e (.call i ces)):=
 match e with
 |.Call (.Name x _) [] [] _=>match F with
  |.nil=>an (ask (glB κ x=AB)) λhg=>an (gFn γ x i) λhf=>ok λm S X G=>by
   let⟨f,fd,ps,h1,h2,h3,h4⟩:=G.glo.F x i hf;exact zjE h1 (G.room.mono (Cb m)) (zaf G hg) h2 h3 h4 (ybt (zbA hg))
  |_=>AD
 |.Call (.Name x _) (a::es) kws _=>an (ask (glB κ x=AB/\nst a=AB/\ybV es=AB)) λhg=>
  match hx:γ.g x with
  |some (.fn j)=>match kws with
   |[]=>an (ask (j=i)) λhj=>an (yaZ F (a::es)) λha=>ok λm S X G=>by
    subst hj;let⟨f,fd,ps,h1,h2,h3,h4⟩:=G.glo.F x j hx;exact zlF h1 (G.room.mono (Cb m)) (zaf G hg.1) h2 h3 h4 (ha m S X G) (ybt (zbA hg.1)) (yah hg.2.1) (stars hg.2.2)
   |_=>AD
  |some (.fnD j)=>match hk:γ.kb j (es.length+1) (kwN kws)with
   |none=>AD
   |some sh=>match ycv (es.length+1) F with
    |none=>AD
    |some s=>match yb0 sh s.f2 kws with
     |none=>AD
     |some q=>an (ask (kwB kws=AB/\j=i)) λhw=>an (yaZ s.f1 (a::es)) λha=>ok λm S X G=>by
      let⟨hw,rfl⟩:=hw;let⟨f,fd,ps,h1,h2,h3,h4⟩:=G.glo.Q x j _ _ sh hx hk;rw[<-s.h,<-q.h];rw[<-q.s]at h4;have w:=λ{pos}=>znp (pos:=pos) (env:=X.env) hw;exact zjd h1 (G.room.mono (Cb m)) (zaf G hg.1) h2 h3 h4 s.l (ha m S X G) (q.k m S X G) w.1 w.2.1 (ybt (zbA hg.1)) (yah hg.2.1) (by
       rw[w.2.2,Gr];exact stars (es:=a::es) (by erw[ybV,B8,hg.2.1,DX];exact hg.2.2))
  |_=>AD
 |_=>AD
abbrev yed(b:Blt)(x:AQ):Prop:=∀S X,X.calm=AB->(∃id,yae X (.builtin id) (rB S X b)/\bootBuiltins x=AA (.builtin id)) \/ ∃T,yae X (.type T) (rB S X b)/\bootBuiltins x=AA (.type T)
def yfD(b:Blt)(x:AQ):Pr (yed b x):=
 match b with
 |.len=>an (ask (x="len")) λh=>ok λ_ _ _=>.inl ⟨_,zob,h ▸ znw⟩
 |.int=>an (ask (x="int")) λh=>ok λ_ _ _=>.inr ⟨_,znn,h ▸ zky⟩
 |.abs=>an (ask (x="abs")) λh=>ok λ_ _ _=>.inl ⟨_,zot,h ▸ zow⟩
 |.min=>an (ask (x="min")) λh=>ok λ_ _ c=>.inl ⟨_,zny c,h ▸ zoj⟩
 |.max=>an (ask (x="max")) λh=>ok λ_ _ c=>.inl ⟨_,zoI c,h ▸ zmX⟩
 |.tuple=>an (ask (x="tuple")) λh=>ok λ_ _ _=>.inr ⟨_,ziY,h ▸ zfN⟩
 |.all=>an (ask (x="all")) λh=>ok λ_ _ c=>.inl ⟨_,zoJ c,h ▸ zos⟩
 |.any=>an (ask (x="any")) λh=>ok λ_ _ c=>.inl ⟨_,zn3 c,h ▸ zoe⟩
 |_=>AD
def ygy(b:Blt)(F:Fs γ κ ces)(e:AT):Pr (YE γ κ e (.blt b ces)):=
 match e with
 |.Call (.Name x _) (a::es) [] _=>an (ask (glB κ x=AB/\nst a=AB/\ybV es=AB/\γ.b x=AB)) λhg=>an (yfD b x) λhb=>an (yaZ F (a::es)) λha=>ok λm S X G=>by
  rcases hb S X G.calm with⟨id,h1,h2⟩|⟨T,h1,h2⟩
  .exact zn5 h1 (zaf G hg.1) (G.glo.B x hg.2.2.2) h2 (ha m S X G) (yeP (zbA hg.1)) (ybt (zbA hg.1)) (yah hg.2.1) (stars hg.2.2.1)
  .exact zmp h1 (zaf G hg.1) (G.glo.B x hg.2.2.2) h2 (ha m S X G) (yeP (zbA hg.1)) (ybt (zbA hg.1)) (yah hg.2.1) (stars hg.2.2.1)
 |_=>AD
def ygv(b:Blt)(F:Fs γ κ ces)(e:AT):Pr (YE γ κ e (.blt b ces)):=
 match b with
 |b=>ygy b F e
def tyB(t:Ty)(x:AQ):Pr (ydG t=AB/\bootBuiltins x=AA (.type (tyN t))):=
 match t with
 |.int=>an (ask (x="int")) λh=>ok ⟨rfl,h ▸ zky⟩
 |.bool=>an (ask (x="bool")) λh=>ok ⟨rfl,h ▸ zmh⟩
 |.str=>an (ask (x="str")) λh=>ok ⟨rfl,h ▸ zn7⟩
 |.tuple=>an (ask (x="tuple")) λh=>ok ⟨rfl,h ▸ zfN⟩
 |_=>AD
def yfO(ts:List Ty)(e:AT)(fa:∀x,Pr (YE γ κ x ca)):Pr (YE γ κ e (.isi ca ts)):=
 match ts,e with
 |[t],.Call (.Name n _) [a,.Name x _] [] _=>an (ask (n="isinstance"/\glB κ n=AB/\γ.b n=AB/\glB κ x=AB/\γ.b x=AB/\γ.t t=AB/\nst a=AB)) λh=>an (tyB t x) λht=>an (fa a) λha=>ok λm S X G=>by
  let⟨rfl,h1,h2,h3,h4,h5,h6⟩:=h;exact zmM (G.glo.T t h5) ht.1 (zaf G h1) (G.glo.B _ h2) (zaf G h3) (G.glo.B _ h4) ht.2 (ha m S X G) (yeP (zbA h3)) (ybt (zbA h3)) (yah h6) rfl
 |_,_=>AD
mutual
noncomputable def yer:(a b:PV)->Pr (a=b)
 |.non,.non=>ok rfl
 |.bl a,.bl b=>an (ask (a=b)) λh=>ok (by rw[h])
 |.int a,.int b=>an (ask (a=b)) λh=>ok (by rw[h])
 |.str a,.str b=>an (ask (a=b)) λh=>ok (by rw[h])
 |.tp k a,.tp j b=>an (ask (k=j)) λh=>an (ycV a b) λg=>ok (by rw[h,g])
 |.lst a,.lst b=>an (ycV a b) λg=>ok (by rw[g])
 |_,_=>AD
noncomputable def ycV:(a b:List PV)->Pr (a=b)
 |[],[]=>ok rfl
 |a::x,b::y=>an (yer a b) λh=>an (ycV x y) λg=>ok (by rw[h,g])
 |_,_=>AD
end
def eqD:(a b:List (AQ×PV))->Pr (a=b)
 |[],[]=>ok rfl
 |(k,a)::x,(j,b)::y=>an (ask (k=j)) λe=>an (yer a b) λh=>an (eqD x y) λg=>ok (by rw[e,h,g])
 |_,_=>AD
def yf2(v:PV)(e:AT):Pr (YE γ κ e (.cst v)):=
 match e with
 |.Name x _=>match h:γ.g x with
  |some (.cst u)=>an (ask (glB κ x=AB)) λhg=>an (yer u v) λhv=>ok λm S X G=>by
   subst hv;rcases G.glo.C x u h with q|⟨i,rfl,q⟩
   .exact zo0 (zaf G hg) q (ybt (zbA hg))
   .exact znP (zaf G hg) q (ybt (zbA hg))
  |_=>AD
 |e=>yeW v e
def ygR(D:List (AQ×PV))(e:AT)(fb:∀x,Pr (YE γ κ x cb)):Pr (YE γ κ e (.dix D cb)):=
 match e with
 |.Subscript (.Name x _) b _=>match h:γ.g x with
  |some (.dct E)=>an (ask (glB κ x=AB/\nsl b=AB)) λhg=>an (eqD E D) λhv=>an (fb b) λhb=>ok λm S X G=>by
   subst hv;exact znB (zaf G hg.1) (G.glo.D x E h) (hb m S X G) (nos hg.2) (ybt (zbA hg.1))
  |_=>AD
 |_=>AD
def ygW(D:List (AQ×PV))(e:AT)(fa:∀x,Pr (YE γ κ x ca)):Pr (YE γ κ e (.din ca D)):=
 match e with
 |.Compare a [.In] [.Name x _] _=>match h:γ.g x with
  |some (.dct E)=>an (ask (glB κ x=AB)) λhg=>an (eqD E D) λhv=>an (fa a) λha=>ok λm S X G=>by
   subst hv;exact zn9 (zaf G hg) (G.glo.D x E h) (ha m S X G) rfl (ybt (zbA hg))
  |_=>AD
 |_=>AD
theorem ydm{pos:CJ}{env:BX}:∀{es:List AT},ybV es=AB->((backTo pos (starEach es env)).all λx=>!x.1)=AB
 |[],_=>rfl
 |a::es,h=>by
  erw[ybV,B8,AK]at h;have:=ydm (pos:=pos) (env:=env) (es:=es) h.2;erw[backTo]at this ⊢;rw[yah h.1,AL,B8,this];rfl
theorem zkJ{o:AT}{n:AQ}{ap pos:CJ}{es:List AT}{env:BX}(hb:nca o=AB)(hs:ybV es=AB)(hn:es.length<30)(hl:(ap.endLine==pos.line)=AB):
  eval (.Call (.Attribute o n ap) es [] pos) env=(do
   let ov <-eval o env
   standAt ap.atName
   let (f,first) <-holding [ov] (getMethod ov n (do return (<-importBound o env).getD AB))
   callWith pos f first (backTo pos (starEach es env)) (backToKw pos (keywordEach [] env))):=by
 have hf:methodCallForm (es.length+([]:List CQ).length) (backTo pos (starEach es env)) (backToKw pos (keywordEach [] env))=true:=by
  erw[methodCallForm,ydm hs,DX];simp[backToKw,keywordEach,hn]
 rw[arm_eval_Call,ydP hb];erw[methodCall,calleeOf,methodCallPos,hf,hl,if_true,Bool.not_true,HG,pure_bind]
def yfu(c:Nat)(f:AQ)(e:AT)(fa:∀x,Pr (YE γ κ x ca)):Pr (YE γ κ e (.fld c ca f)):=
 match e with
 |.Attribute a g _=>an (ask (g=f/\γ.fl c f=AB/\nca a=AB)) λh=>an (fa a) λha=>ok λm S X G=>by
  let⟨rfl,h1,h2⟩:=h;exact znv (G.glo.A c g h1).1 (G.glo.A c g h1).2 (ha m S X G) (ydP h2)
 |_=>AD
def ygF(c i:Nat)(F:Fs γ κ ces)(e:AT):Pr (YE γ κ e (.new c i ces)):=
 match e with
 |.Call (.Name x _) (a::es) [] _=>match h:γ.g x with
  |some (.cls c' i')=>an (ask (c'=c/\i'=i/\glB κ x=AB/\nst a=AB/\ybV es=AB)) λhg=>an (yaZ F (a::es)) λha=>ok λm S X G=>by
   let⟨rfl,rfl,h1,h2,h3⟩:=hg;let⟨q,f,fd,ps,q1,q2,q3⟩:=G.glo.N x c' i' h;exact zne q1 q2 G.room (zaf G h1) q q3 (ha m S X G) (ybt (zbA h1)) (yah h2) (stars h3)
  |_=>AD
 |_=>AD
def ygG(c i:Nat)(n:AQ)(F:Fs γ κ ces)(e:AT)(fa:∀x,Pr (YE γ κ x ca)):Pr (YE γ κ e (.mcl c i n ca ces)):=
 match e with
 |.Call (.Attribute (.Name x p) n' ap) [] [] pos=>match F with
  |.nil=>an (ask (n'=n/\γ.me c n=AA i/\(ap.endLine==pos.line)=AB)) λh=>an (fa (.Name x p)) λho=>ok λm S X G=>by
   let⟨rfl,h1,h4⟩:=h;let⟨q,f,fd,ps,q1,q2,q3⟩:=G.glo.M c n' i h1;exact zmg q q1 q2 (G.room.mono (Cb m)) q3 (ho m S X G) (zkJ rfl rfl (Nat.zero_lt_succ _) h4)
  |_=>AD
 |.Call (.Attribute (.Name x p) n' ap) (a::es) [] pos=>an (ask (n'=n/\γ.me c n=AA i/\nst a=AB/\ybV es=AB/\(ap.endLine==pos.line)=AB/\(a::es).length<30)) λh=>an (fa (.Name x p)) λho=>an (yaZ F (a::es)) λha=>ok λm S X G=>by
  let⟨rfl,h1,h2,h3,h4,h5⟩:=h;let⟨q,f,fd,ps,q1,q2,q3⟩:=G.glo.M c n' i h1;exact zol q q1 q2 (G.room.mono (Cb m)) q3 (ho m S X G) (ha m S X G) (yah h2) (stars h3) (zkJ rfl (by erw[ybV,B8,h2,DX];exact h3) h5 h4)
 |_=>AD
theorem ygx{pos:CJ}{env:BX}{b:AT}(h:nst b=AB):((backTo pos (starEach [b] env)).all (λx=>!x.1)&&(backToKw pos (keywordEach [] env)).all (λx=>x.1.isSome)&&decide (([b]:List AT).length+([]:List CQ).length+(if ([]:List CQ).isEmpty then 0 else 1)<30))=true:=by
 rw[yah h];rfl
def ygU(k:Mth)(F:Fs γ κ ces)(e:AT)(fa:∀x,Pr (YE γ κ x ca)):Pr (YE γ κ e (.mth k ca ces)):=
 match k,e,F with
 |.append,.Call (.Attribute a n ap) [b] [] pos,.cons fb .nil=>an (ask (n="append"/\nca a=AB/\nst b=AB/\(ap.endLine==pos.line)=AB)) λh=>an (fa a) λha=>an (fb b) λhb=>ok λm S X G=>by
  let⟨rfl,h1,h2,h3⟩:=h;exact zg2 (ha m S X G) (hb m S X G) (yah h2) (ydP h1) h3 (ygx h2)
 |.get,.Call (.Attribute a n ap) [b,c] [] pos,.cons fb (.cons fc .nil)=>an (ask (n="get"/\nca a=AB/\nst b=AB/\nst c=AB/\(ap.endLine==pos.line)=AB)) λh=>an (fa a) λha=>an (fb b) λhb=>an (fc c) λhc=>ok λm S X G=>by
  let⟨rfl,h1,h2,h4,h3⟩:=h;exact zou (zmf G.room) (ha m S X G) (hb m S X G) (hc m S X G) ⟨ydP h1,by rw[yah h2,yah h4];rfl,h3,by rw[yah h2,yah h4];rfl⟩
 |_,_,_=>AD
end
structure Ev(γ:Gs)(c:Ce) where
 e:∀κ x,Pr (YE γ κ x c)
 t:∀κ x,Pr (YT γ κ x c)
 w:∀κ op l pos,Pr (YW γ κ (.BoolOp op l pos) c)
section
variable {γ:Gs}{ca cb cc:Ce}
def w1{c:Ce}(t:∀κ x,Pr (YT γ κ x c))(κ:Kx)(op:HE)(l:List AT)(pos:CJ):Pr (YW γ κ (.BoolOp op l pos) c):=
 match op,l with
 |.And,[a]=>an (t κ a) λh=>ok λm S X G=>zkY (h m S X G)
 |.Or,[a]=>an (t κ a) λh=>ok λm S X G=>zmU (h m S X G)
 |_,_=>AD
def plT{c:Ce}(e:∀κ x,Pr (YE γ κ x c))(κ:Kx)(x:AT):Pr (YT γ κ x c):=an (ask (nte x=AB)) λh=>an (e κ x) λhe=>ok λm S X G=>zm8 (he m S X G) (itr h)
def plain{c:Ce}(e:∀κ x,Pr (YE γ κ x c)):Ev γ c:=⟨e,plT e,w1 (plT e)⟩
def ycU{c:Ce}(e:∀κ x,Pr (YE γ κ x c))(t:∀κ x,Pr (YT γ κ x c)):Ev γ c:=⟨e,t,w1 t⟩
def ygN(A:Ev γ ca)(κ:Kx)(e:AT):Pr (YT γ κ e (.not ca)):=
 match e with
 |.UnaryOp .Not a _=>an (A.t κ a) λh=>ok λm S X G=>zmH (h m S X G)
 |_=>AD
def yfS(A:Ev γ ca)(B:Ev γ cb)(κ:Kx)(e:AT):Pr (YE γ κ e (.and ca cb)):=
 match e with
 |.BoolOp .And (a::b::[]) _=>an (A.e κ a) λha=>an (B.e κ b) λhb=>ok λm S X G=>zkH (ha m S X G) (zkL (hb m S X G))
 |.BoolOp .And (a::b::c::r) p=>an (A.e κ a) λha=>an (B.e κ (.BoolOp .And (b::c::r) p)) λhb=>ok λm S X G=>zkH (ha m S X G) (hb m S X G)
 |_=>AD
def orE(A:Ev γ ca)(B:Ev γ cb)(κ:Kx)(e:AT):Pr (YE γ κ e (.or ca cb)):=
 match e with
 |.BoolOp .Or (a::b::[]) _=>an (A.e κ a) λha=>an (B.e κ b) λhb=>ok λm S X G=>zm1 (ha m S X G) (zkL (hb m S X G))
 |.BoolOp .Or (a::b::c::r) p=>an (A.e κ a) λha=>an (B.e κ (.BoolOp .Or (b::c::r) p)) λhb=>ok λm S X G=>zm1 (ha m S X G) (hb m S X G)
 |_=>AD
def yez(A:Ev γ ca)(B:Ev γ cb)(κ:Kx)(op:HE)(l:List AT)(pos:CJ):Pr (YW γ κ (.BoolOp op l pos) (.and ca cb)):=
 match op,l with
 |.And,a::b::r=>an (A.t κ a) λha=>an (B.w κ .And (b::r) pos) λhb=>ok λm S X G=>zoi (ha m S X G) (hb m S X G)
 |_,_=>AD
def orW(A:Ev γ ca)(B:Ev γ cb)(κ:Kx)(op:HE)(l:List AT)(pos:CJ):Pr (YW γ κ (.BoolOp op l pos) (.or ca cb)):=
 match op,l with
 |.Or,a::b::r=>an (A.t κ a) λha=>an (B.w κ .Or (b::r) pos) λhb=>ok λm S X G=>zpe (ha m S X G) (hb m S X G)
 |_,_=>AD
def ptW{c:Ce}(w:∀κ op l pos,Pr (YW γ κ (.BoolOp op l pos) c))(κ:Kx)(e:AT):Pr (YT γ κ e c):=
 match e with
 |.BoolOp op l p=>an (w κ op l p) λh=>ok λm S X G=>PW.pt (h m S X G)
 |_=>AD
def yfh{c:Ce}(t:∀κ x,Pr (YT γ κ x c))(w:∀κ op l pos,Pr (YW γ κ (.BoolOp op l pos) c))(κ:Kx)(op:HE)(l:List AT)(pos:CJ):Pr (YW γ κ (.BoolOp op l pos) c):=
 match l with
 |[a]=>w1 t κ op [a] pos
 |l=>w κ op l pos
def yen(A:Ev γ ca)(B:Ev γ cb):Ev γ (.and ca cb):=⟨yfS A B,ptW (yez A B),yfh (ptW (yez A B)) (yez A B)⟩
def yfT(A:Ev γ ca)(B:Ev γ cb):Ev γ (.or ca cb):=⟨orE A B,ptW (orW A B),yfh (ptW (orW A B)) (orW A B)⟩
end
abbrev YI(γ:Gs)(κ:Kx)(tg l:AT)(c:Cit):Prop:=∀m S X,Good γ κ m S X->PI X tg l (tI S X c)
abbrev YG(γ:Gs)(κ:Kx)(tg:AT)(c:Tg):Prop:=∀m S X,Good γ κ m S X->PG X tg (tG S X c)
section
variable {γ:Gs}{κ:Kx}{ca cb cc ce:Ce}{ci:Cit}
def yfG(e:∀x,Pr (YE γ κ x ca))(tg l:AT):Pr (YI γ κ tg l (.seq ca)):=an (e l) λh=>ok λm S X G=>zoh (h m S X G)
def iR1(fa:∀x,Pr (YE γ κ x ca))(tg l:AT):Pr (YI γ κ tg l (.range1 ca)):=
 match l with
 |.Call (.Name x _) [a] [] _=>an (ask (x="range"/\glB κ x=AB/\γ.b x=AB/\nst a=AB)) λh=>an (fa a) λha=>ok λm S X G=>by
  let⟨rfl,h1,h2,h3⟩:=h;exact ziH (zaf G h1) (G.glo.B _ h2) (ha m S X G) (yah h3)
 |_=>AD
def ydZ(fa:∀x,Pr (YE γ κ x ca))(tg l:AT):Pr (YI γ κ tg l (.enum ca)):=
 match tg,l with
 |.Tuple _ _ _,.Call (.Name x _) [a] [] _=>an (ask (x="enumerate"/\glB κ x=AB/\γ.b x=AB/\nst a=AB)) λh=>an (fa a) λha=>ok λm S X G=>by
  let⟨rfl,h1,h2,h3⟩:=h;exact zlz (zaf G h1) (G.glo.B _ h2) (ha m S X G) (yah h3)
 |_,_=>AD
def yfU(fa:∀x,Pr (YE γ κ x ca))(fb:∀x,Pr (YE γ κ x cb))(tg l:AT):Pr (YI γ κ tg l (.zip ca cb)):=
 match tg,l with
 |.Tuple _ _ _,.Call (.Name x _) [a,b] [] _=>an (ask (x="zip"/\glB κ x=AB/\γ.b x=AB/\nst a=AB/\nst b=AB)) λh=>an (fa a) λha=>an (fb b) λhb=>ok λm S X G=>by
  let⟨rfl,h1,h2,h3,h4⟩:=h;exact zmI (zaf G h1) (G.glo.B _ h2) (ha m S X G) (hb m S X G) (by rw[yah h3,yah h4];rfl) (yah h4)
 |_,_=>AD
def gNm(κ:Kx):(l:List Nat)->(es:List AT)->Pr (∀m S X,Good γ κ m S X->PGs X es (gNs l)/\(assignEach es X.env).length=l.length/\(assignEach es X.env).findIdx? (·.1)=AD)
 |[],[]=>ok λ_ _ _ _=>⟨zmo,rfl,rfl⟩
 |i::l,.Name x _::es=>an (ask (setB κ i x=AB)) λh=>an (gNm κ l es) λhr=>ok λm S X G=>by
  have s:=zaW G h;let⟨h1,h2,h3⟩:=hr m S X G;refine⟨zj1 s.d s.i s.l h1 s.f,?_,?_⟩
  .simp only[assignEach,AS,h2]
  .simp only[assignEach,List.findIdx?_cons,h3];rfl
 |_,_=>AD
def mTg(ct:Tg)(tg:AT):Pr (YG γ κ tg ct):=
 match ct,tg with
 |.n i,.Name x _=>an (ask (setB κ i x=AB)) λh=>ok λm S X G=>let s:=zaW G h;zlW s.d s.i s.l s.f
 |.t l,.Tuple es _ _=>an (gNm κ l es) λh=>ok λm S X G=>znA G.calm (h m S X G).1 (h m S X G).2.1 (h m S X G).2.2
 |_,_=>AD
noncomputable def tgN:AT->List AQ
 |.Name x _=>[x]
 |.Tuple es _ _=>es.filterMap fun
  |.Name x _=>AA x
  |_=>AD
 |_=>[]
def ydo(N:List AQ)(sl:List (Option Nat))(tg:AT):List Str:=tgN tg++(sl.drop (tgN tg).length).filterMap λo=>o.bind λj=>N[j]?
noncomputable def yck(sc so:Bi):Scope:={sc with names:=sc.names.map λ(n,k)=>if (k==C8&&so.kind==.function&&so.names.lookup n==AA .cell)then(n,F1)else(n,k)}
noncomputable def yal(N:List AQ)(so sc:Bi)(NC:List AQ)(sl:List (Option Nat)):Bool:=
 decide (sc.kind=.function)&&(sc.names.all λy=>y.2 != .local || decide (sc.names.lookup y.1=AA .local))&&(sc.names.all λy=>y.2 != .cell)&&(sc.names.all λy=>y.2 != .free || decide (so.names.lookup y.1=AA .cell)) &&
  ((NC.zip sl).all λp=>p.2.all λj=>decide (N[j]?=AA p.1/\sc.names.lookup p.1=AA .free))&&decide (sl.length=NC.length)
theorem zjl{X:Cx}{sc:Bi}{NC:List AQ}{sl:List (Option Nat)}(h:yal X.N X.env.scope sc NC sl=AB):yao X sc NC sl:=by
 erw[yal,AK,decide_eq_true_eq,BP,Cy,bne_iff_ne,ne_eq]at h;let⟨⟨⟨⟨⟨h1,h2⟩,h3⟩,h4⟩,h5⟩,h6⟩:=h;exact ydu _ _ rfl rfl h1 (λy hy e=>(h2 y hy).resolve_left λz=>z e) h3 (λy hy e=>(h4 y hy).resolve_left λz=>z e) (λp hp=>by simpa using h5 p hp) h6
theorem Good.comp{m:Nat}{S:Se}{X:Cx}(G:Good γ κ m S X)(sc:Bi)(NC:List AQ)(j:CI):Good γ ⟨NC,yck sc κ.sc,AC⟩ m S (cxC X sc NC j):=by
 refine⟨rfl,?_,G.calm,G.room,(λh=>nomatch h),⟨G.glo.F,G.glo.Q,G.glo.C,G.glo.D,G.glo.E,G.glo.N,G.glo.B,G.glo.T,G.glo.A,G.glo.M,λy D h=>let ⟨fa,fdd,ps,M,d⟩:=G.glo.K y D h;⟨fa,fdd,ps,⟨M.F,M.kp,M.b⟩,d⟩⟩⟩;show relabel sc X.env=_;rw[<-G.sc];rfl
def ygm(c:Ce)(f:∀x,Pr (YT γ κ x c))(ifs:List AT):Pr (∀m S X,Good γ κ m S X->PTs X ifs (tT0 S X.K c)):=
 match ifs with
 |[]=>match c with
  |.cst (.bl AB)=>ok λ_ _ _ _=>ziV
  |_=>AD
 |[a]=>an (f a) λh=>ok λm S X G=>zlV rfl (h m S X G)
 |_=>AD
structure ycR(γ:Gs)(κ:Kx)(sl:List (Option Nat))(ct:Tg)(ci:Cit)(cc ce:Ce)(elt tg it:AT)(ifs:List AT)(sc:Bi):Prop where
 q:∀m S X,Good γ κ m S X->∃NC,yao X sc NC sl/\PI X tg it (tI S X ci)/\(∀j,PG (cxC X sc NC j) tg (tG0 S X.K ct))/\(∀j,PTs (cxC X sc NC j) ifs (tT0 S X.K cc))/\∀j,PE (cxC X sc NC j) elt (tE0 S X.K ce)
 f:yaC ct sl=AB
 s:nse it=AB
def mCo(sl:List (Option Nat))(ct:Tg)(fi:∀tg l,Pr (YI γ κ tg l ci))(C:Ev γ cc)(E:Ev γ ce)(elt tg it:AT)(ifs:List AT)(sc:Bi):Pr (ycR γ κ sl ct ci cc ce elt tg it ifs sc):=
 an (ask (yal κ.N κ.sc sc (ydo κ.N sl tg) sl=AB/\yaC ct sl=AB/\nse it=AB)) λh=>an (fi tg it) λhi=>an (mTg (γ:=γ) (κ:=⟨ydo κ.N sl tg,yck sc κ.sc,AC⟩) ct tg) λhg=>
  an (ygm (γ:=γ) (κ:=⟨ydo κ.N sl tg,yck sc κ.sc,AC⟩) cc (C.t _) ifs) λht=>an (E.e ⟨ydo κ.N sl tg,yck sc κ.sc,AC⟩ elt) λhe=>ok ⟨λm S X G=>⟨ydo κ.N sl tg,by
   rw[<-G.n,<-G.sc]at h;rw[<-G.n];exact zjl h.1,hi m S X G,λj=>zlx rfl (hg m S _ (G.comp sc _ j)),λj=>ht m S _ (G.comp sc _ j),λj=>zk9 rfl (he m S _ (G.comp sc _ j))⟩,h.2.1,h.2.2⟩
def yeh(sl:List (Option Nat))(ct:Tg)(fi:∀tg l,Pr (YI γ κ tg l ci))(C:Ev γ cc)(E:Ev γ ce)(e:AT):Pr (YE γ κ e (.comp sl ct ci cc ce)):=
 match e with
 |.ListComp elt [⟨tg,it,ifs,0⟩] sc _=>an (mCo sl ct fi C E elt tg it ifs sc) λh=>ok λm S X G=>by
  let⟨NC,h1,h2,h3,h4,h5⟩:=h.q m S X G;exact zlP G.calm h1 h.f h2 h3 h4 h5 (fse h.s)
 |_=>AD
end
section
variable {γ:Gs}{κ:Kx}
end
mutual
noncomputable def ch(γ:Gs):(c:Ce)->Ev γ c
 |.cst v=>plain λκ x=>yf2 v x
 |.var i=>plain λκ x=>yfk i x
 |.bin o a b=>plain λκ x=>yg3 o x ((ch γ a).e κ) ((ch γ b).e κ)
 |.neg a=>plain λκ x=>yf1 x ((ch γ a).e κ)
 |.not a=>ycU (λκ x=>yfX x ((ch γ a).e κ)) (ygN (ch γ a))
 |.and a b=>yen (ch γ a) (ch γ b)
 |.or a b=>yfT (ch γ a) (ch γ b)
 |.cmp o a b=>ycU (λκ x=>yf0 o x ((ch γ a).e κ) ((ch γ b).e κ)) (λκ x=>yem o x ((ch γ a).e κ) ((ch γ b).e κ))
 |.chain o p a b c=>ycU (λκ x=>ygl o p x ((ch γ a).e κ) ((ch γ b).e κ) ((ch γ c).e κ)) (λκ x=>yeR o p x ((ch γ a).e κ) ((ch γ b).e κ) ((ch γ c).e κ))
 |.ite c a b=>plain λκ x=>yfR x ((ch γ c).t κ) ((ch γ a).e κ) ((ch γ b).e κ)
 |.tup es=>plain λκ x=>ygK x (yaZ (chs γ es κ))
 |.lst es=>plain λκ x=>ygY x (yaZ (chs γ es κ))
 |.newl es=>plain λκ x=>yeL x (yaZ (chs γ es κ))
 |.dict0 t=>plain λκ x=>yel t x
 |.idx a i=>plain λκ x=>mIdx x ((ch γ a).e κ) ((ch γ i).e κ)
 |.slc a l h=>plain λκ x=>ygc x ((ch γ a).e κ) (λo=>yfi l o ((ch γ l).e κ)) (λo=>yfi h o ((ch γ h).e κ))
 |.call f es=>plain λκ x=>ygq f (chs γ es κ) x
 |.blt b es=>plain λκ x=>ygv b (chs γ es κ) x
 |.mth k o es=>plain λκ x=>ygU k (chs γ es κ) x ((ch γ o).e κ)
 |.isi a ts=>plain λκ x=>yfO ts x ((ch γ a).e κ)
 |.comp sl tg it c e=>plain λκ x=>yeh sl tg (chi γ it κ) (ch γ c) (ch γ e) x
 |.frz a=>plain λκ x=>an ((ch γ a).e κ x) λh=>ok λm S X G=>zoG (h m S X G)
 |.nope=>plain λκ x=>ok λ_ _ _ _=>zmt
 |.dix D a=>plain λκ x=>ygR D x ((ch γ a).e κ)
 |.din a D=>plain λκ x=>ygW D x ((ch γ a).e κ)
 |.fld c a f=>plain λκ x=>yfu c f x ((ch γ a).e κ)
 |.new c i es=>plain λκ x=>ygF c i (chs γ es κ) x
 |.mcl c i n o es=>plain λκ x=>ygG c i n (chs γ es κ) x ((ch γ o).e κ)
noncomputable def chs(γ:Gs):(cs:Ces)->(κ:Kx)->Fs γ κ cs
 |.nil,_=>.nil
 |.cons c cs,κ=>.cons (λx=>(ch γ c).e κ x) (chs γ cs κ)
noncomputable def chi(γ:Gs):(c:Cit)->(κ:Kx)->∀tg l,Pr (YI γ κ tg l c)
 |.seq a,κ=>yfG ((ch γ a).e κ)
 |.range1 a,κ=>iR1 ((ch γ a).e κ)
 |.enum a,κ=>ydZ ((ch γ a).e κ)
 |.zip a b,κ=>yfU ((ch γ a).e κ) ((ch γ b).e κ)
 |_,_=>λ_ _=>AD
end
section
variable {γ:Gs}{κ:Kx}{ca cb cc ce:Ce}{ci:Cit}{ct:Tg}{cs cs':Css}{ces:Ces}
def yd6(f:∀x,Pr (YE γ κ x ca))(s:Bp):Pr (YS γ κ s (.expr ca)):=
 match s with
 |.Expr a _=>an (ask (nco a=AB)) λhs=>an (f a) λh=>ok λm S X G=>zlR (h m S X G) (swp hs)
 |_=>AD
def yfl(i:Nat)(f:∀x,Pr (YE γ κ x ca))(s:Bp):Pr (YS γ κ s (.asg (.n i) ca)):=
 match s with
 |.Assign [.Name x _] a _=>an (ask (nco a=AB/\setB κ i x=AB)) λhs=>an (f a) λh=>ok λm S X G=>let q:=zaW G hs.2;zoM q.d q.i q.l (h m S X G) (swp hs.1) q.f
 |_=>AD
theorem ye8{a:AT}(h:nst a=AB):(match (generalizing:=false) a with | .Starred _ _=>AB|_=>AC)=false:=by
 revert h;cases a<;>intro h<;>first|rfl|cases h
def swD(so:Bi)(x y:AQ)(px py:CJ)(a b:AT):Bool:=(if so.kind.isAnnotationScope then Fd else so.kind)==.function&&so.names.lookup x==AA .local&&so.names.lookup y==AA .local&&py.line==px.line&&nst a&&nst b&&!(x==y)&&!(foldedForSure 8 a&&foldedForSure 8 b)&&!(constantsAlone 8 a&&constantsAlone 8 b)
theorem ygt{x y:AQ}{px py pt pt2:CJ}{kt k2:Nat}{a b:AT}{env:BX}(h:swD env.scope x y px py a b=AB):
  swappedStores [.Tuple [.Name x px,.Name y py] kt pt] (.Tuple [a,b] k2 pt2) env=pure (AA [x,y]):=by
 erw[swD,AK,Ca]at h;let⟨⟨⟨⟨⟨⟨⟨⟨h1,h2⟩,h3⟩,h4⟩,h5⟩,h6⟩,h7⟩,h8⟩,h9⟩:=h;have k1:(env.blockKind != .function)=false:=by
  show (!((if env.scope.kind.isAnnotationScope then Fd else env.scope.kind)==.function))=AC;rw[h1];rfl
 have k2:env.kindOf x=AA .local:=eq_of_beq h2;have k3:env.kindOf y=AA .local:=eq_of_beq h3;have k4:py.line=px.line:=eq_of_beq h4;have k7:¬y=x:=λz=>by subst z;simp at h7
 have m1:=ye8 h5;have m2:=ye8 h6;have c8:¬(foldedForSure 8 a=AB/\foldedForSure 8 b=AB):=λz=>by rw[z.1,z.2]at h8;cases h8
 have c9:¬(constantsAlone 8 a=AB/\constantsAlone 8 b=AB):=λz=>by rw[z.1,z.2]at h9;cases h9
 have x1:(Expr.Name x px).pos=px:=rfl;have x2:(Expr.Name y py).pos=py:=rfl;unfold swappedStores;simp[k1,m1,m2,k2,k3,k4,List.eraseDups_cons,k7,x1,x2,c8,c9,CP];intro z;exfalso;rcases z with z|z
 .exact Az (m1.symm.trans z)
 .exact Az (m2.symm.trans z)
def yfw(i j:Nat)(fa:∀x,Pr (YE γ κ x ca))(fb:∀x,Pr (YE γ κ x cb))(s:Bp):Pr (YS γ κ s (.asg (.t [i,j]) (.tup (.cons ca (.cons cb .nil))))):=
 match s with
 |.Assign [.Tuple [.Name x px,.Name y py] _ _] (.Tuple [a,b] _ _) _=>an (ask (setB κ i x=AB/\setB κ j y=AB/\i≠j/\swD κ.sc x y px py a b=AB)) λh=>an (fa a) λha=>an (fb b) λhb=>ok λm S X G=>by
  let⟨h1,h2,h3,h4⟩:=h;have q:=zaW G h1;have r:=zaW G h2;have h5:=h4;erw[swD,AK]at h5;have e1:X.env.scope.names.lookup x=AA .local:=by rw[G.sc];exact eq_of_beq h5.1.1.1.1.1.1.1.2
  have e2:X.env.scope.names.lookup y=AA .local:=by rw[G.sc];exact eq_of_beq h5.1.1.1.1.1.1.2
  exact znI G.calm q.d q.i r.i h3 (zmP G.calm q.d q.i r.i h3 e1 e2 (zd4 (ha m S X G) (zd4 (hb m S X G) ziP (yah h5.1.1.1.2)) (yah h5.1.1.1.1.2)) (ygt (by rw[G.sc];exact h4)))
 |_=>AD
theorem sw0{es:List AT}{k:Nat}{p:CJ}{a:AT}{env:BX}(h:ntu a=AB):swappedStores [.Tuple es k p] a env=pure none:=by
 cases a<;>first|rfl|cases h
theorem sw1{b c:AT}{p:CJ}{a:AT}{env:BX}:swappedStores [.Subscript b c p] a env=pure none:=by
 cases a<;>rfl
theorem yfo{t a:AT}{l:Nat}{env:BX}(h:nco a=AB):swapsWithSole [t] a l env=pure false:=by
 show swapsWith a (AA t) l env=_;exact swp h
theorem asS{b c:AT}{pos:CJ}{env:BX}(h:nsl c=AB):∀v,assign (.Subscript b c pos) env v=(do
   let ov <-holding [v] (eval b env)
   let iv <-holding [v,ov] (eval c env)
   standAt pos
   holding [v,ov,iv] (setItem ov iv v)
   release [v,ov,iv] []):=by
 cases c<;>first|exact λ_=>rfl|cases h
def ygA(l:List Nat)(f:∀x,Pr (YE γ κ x ca))(s:Bp):Pr (YS γ κ s (.asg (.t l) ca)):=
 match s with
 |.Assign [.Tuple es k p] a _=>an (ask (nco a=AB/\ntu a=AB)) λhs=>an (mTg (γ:=γ) (κ:=κ) (.t l) (.Tuple es k p)) λhg=>an (f a) λh=>ok λm S X G=>zlN (h m S X G) (hg m S X G) (yfo hs.1) (sw0 hs.2)
 |_=>AD
def yfH(f:∀x,Pr (YE γ κ x cc))(fo:∀x,Pr (YE γ κ x ca))(fi:∀x,Pr (YE γ κ x cb))(s:Bp):Pr (YS γ κ s (.six ca cb cc)):=
 match s with
 |.Assign [.Subscript b c _] a _=>an (ask (nco a=AB/\nsl c=AB)) λhs=>an (f a) λh=>an (fo b) λho=>an (fi c) λhi=>ok λm S X G=>zm3 (h m S X G) (ho m S X G) (hi m S X G) (yfo hs.1) sw1 (zke (ho m S X G) (hi m S X G) zgk (asS hs.2))
 |_=>AD
def yd0(f:∀x,Pr (YE γ κ x cc))(fo:∀x,Pr (YE γ κ x ca))(fi:∀x,Pr (YE γ κ x cb))(s:Bp):Pr (YS γ κ s (.dput ca cb cc)):=
 match s with
 |.Assign [.Subscript b c _] a _=>an (ask (nco a=AB)) λhs=>an (f a) λh=>an (fo b) λho=>an (fi c) λhi=>ok λm S X G=>zkT (zmf G.room) (ho m S X G) (hi m S X G) (h m S X G) (swp hs)
 |_=>AD
def ygB(op:D0)(o:BOp):Pr (∀S X,PIp X op (rT2 S X (ybP o))):=
 match op,o with
 |.Add,.add=>ok λ_ _=>zkO
 |_,_=>AD
def ygp(i:Nat)(o:BOp)(f:∀x,Pr (YE γ κ x ca))(s:Bp):Pr (YS γ κ s (.aug i o ca)):=
 match s with
 |.AugAssign (.Name x _) op a _=>an (ask (setB κ i x=AB)) λh=>an (ygB op o) λhp=>an (f a) λha=>ok λm S X G=>let q:=zaW G h;znU q.d q.i q.l (ha m S X G) (hp S X) q.f (ybt q.p) (ydV q.p)
 |_=>AD
def ygP(c:Ce)(f:∀x,Pr (YE γ κ x c))(s:Bp):Pr (YS γ κ s (.ret c)):=
 match s with
 |.Return (AA a) _=>an (f a) λh=>ok λm S X G=>zoR (h m S X G)
 |.Return AD _=>match c with
  |.cst .non=>ok λ_ _ _ _=>zly
  |_=>AD
 |_=>AD
def sIf(fc:∀x,Pr (YT γ κ x cc))(fa:∀x,Pr (YSs γ κ x cs))(fb:∀x,Pr (YSs γ κ x cs'))(s:Bp):Pr (YS γ κ s (.ite cc cs cs')):=
 match s with
 |.If c a b _=>an (fc c) λhc=>an (fa a) λha=>an (fb b) λhb=>ok λm S X G=>zpb (hc m S X G) (ha m S X G) (hb m S X G)
 |_=>AD
def ygH(ct:Tg)(fi:∀tg l,Pr (YI γ κ tg l ci))(fb:∀x,Pr (YSs γ κ x cs))(s:Bp):Pr (YS γ κ s (.for ct ci cs)):=
 match s with
 |.For tg l b [] _=>an (ask (κ.own=AB/\nse l=AB)) λho=>an (fi tg l) λhi=>an (mTg (γ:=γ) (κ:=κ) ct tg) λhg=>an (fb b) λhb=>ok λm S X G=>zoD (G.own ho.1).1 G.calm (hi m S X G) (hg m S X G) (hb m S X G) (fse ho.2)
 |_=>AD
def sWh(fc:∀x,Pr (YT γ κ x cc))(fb:∀x,Pr (YSs γ κ x cs))(s:Bp):Pr (YS γ κ s (.while cc cs)):=
 match s with
 |.While c b [] _=>an (ask (κ.own=AB)) λho=>an (fc c) λhc=>an (fb b) λhb=>ok λm S X G=>zjW (G.own ho).1 (hc m S X G) (hb m S X G)
 |_=>AD
def yfV(c:Nat)(f:AQ)(fo:∀x,Pr (YE γ κ x ca))(fv:∀x,Pr (YE γ κ x cb))(s:Bp):Pr (YS γ κ s (.sfl c ca f cb)):=
 match s with
 |.Assign [.Attribute a g _] b _=>an (ask (g=f/\γ.fl c f=AB/\nco b=AB)) λh=>an (fo a) λha=>an (fv b) λhb=>ok λm S X G=>by
  let⟨rfl,h1,h2⟩:=h;exact zoa (G.glo.A c g h1).1 (G.glo.A c g h1).2 (ha m S X G) (hb m S X G) (swp h2)
 |_=>AD
def ygh(c i:Nat)(f:AQ)(j:Int)(fo:∀x,Pr (YE γ κ x (.var i)))(fv:∀x,Pr (YE γ κ x (.cst (.int j))))(s:Bp):Pr (YS γ κ s (.sfl c (.var i) f (.bin .add (.fld c (.var i) f) (.cst (.int j))))):=
 match s with
 |.AugAssign (.Attribute a g _) .Add b _=>an (ask (g=f/\γ.fl c f=AB)) λh=>an (fo a) λha=>an (fv b) λhb=>ok λm S X G=>by
  let⟨rfl,h1⟩:=h;exact zov (G.glo.A c g h1).1 (G.glo.A c g h1).2 (ha m S X G) (hb m S X G)
 |_=>AD
def ygj(c:Nat)(o:Ce)(f:AQ)(e:Ce)(O:Ev γ o)(E:Ev γ e)(s:Bp):Pr (YS γ κ s (.sfl c o f e)):=
 match s with
 |.AugAssign t op b p=>match o,e with
  | .var i,.bin .add (.fld c' (.var i') f') (.cst (.int j))=>an (ask (c'=c/\i'=i/\f'=f)) λh=>an (ygh (γ:=γ) (κ:=κ) c i f j (λx=>yfk i x) (λx=>yeW (.int j) x) (.AugAssign t op b p)) λq=>ok (by
    let⟨rfl,rfl,rfl⟩:=h;exact q)
  |_,_=>AD
 |s=>yfV c f (O.e κ) (E.e κ) s
def ygO(ix:Nat)(D:List (AQ×Nat)){cn:Ce}{ces:Ces}(fn:∀x,Pr (YE γ κ x cn))(F:Fs γ κ ces)(ss:List Bp):Pr (YSs γ κ ss (.cons (.mkr ix D cn ces) .nil)):=
 match ss with
 |[.Assign [.Name x _] (.Subscript (.Name y _) n _) _,.Return (AA (.Call (.Name x' _) (e::es) [] _)) _]=>match hy:γ.mr y with
  |some E=>an (ask (E=D/\x'=x/\setB κ ix x=AB/\ydT κ.sc x=AB/\glB κ y=AB/\nsl n=AB/\nst e=AB/\ybV es=AB)) λh=>an (fn n) λhn=>an (yaZ F (e::es)) λha=>ok λm S X G=>by
   let⟨rfl,rfl,h1,h2,h3,h4,h5,h6⟩:=h;have q:=zaW G h1;let⟨fa,fdd,ps,M,d⟩:=G.glo.K y E hy;exact zox M (G.room.mono (Cb m)) q.d q.i q.l (by rw[G.sc];exact ziu h2) (zaf G h3) d (hn m S X G) (ha m S X G) (nos h4) (swp rfl) q.f (ybt (zbA h3)) (ybt q.p) (ydV q.p) (yah h5) (stars h6)
  |none=>AD
 |_=>AD
end
mutual
noncomputable def chS(γ:Gs):(c:Cs)->(κ:Kx)->∀s,Pr (YS γ κ s c)
 |.expr e,κ=>yd6 ((ch γ e).e κ)
 |.asg (.n i) c,κ=>yfl i ((ch γ c).e κ)
 |.asg (.t [i,j]) (.tup (.cons a (.cons b .nil))),κ=>yfw i j ((ch γ a).e κ) ((ch γ b).e κ)
 |.asg (.t l) c,κ=>ygA l ((ch γ c).e κ)
 |.six o i e,κ=>yfH ((ch γ e).e κ) ((ch γ o).e κ) ((ch γ i).e κ)
 |.dput o i e,κ=>yd0 ((ch γ e).e κ) ((ch γ o).e κ) ((ch γ i).e κ)
 |.aug i o e,κ=>ygp i o ((ch γ e).e κ)
 |.ret e,κ=>ygP e ((ch γ e).e κ)
 |.ite c a b,κ=>sIf ((ch γ c).t κ) (yc3 γ a κ) (yc3 γ b κ)
 |.for t it b,κ=>ygH t (chi γ it κ) (yc3 γ b κ)
 |.while c b,κ=>sWh ((ch γ c).t κ) (yc3 γ b κ)
 |.nope,_=>λ_=>ok λ_ _ _ _=>zkS
 |.sfl c o f e,κ=>ygj c o f e (ch γ o) (ch γ e)
 |_,_=>λ_=>AD
noncomputable def yc3(γ:Gs):(c:Css)->(κ:Kx)->∀s,Pr (YSs γ κ s c)
 |.nil,_,[]=>ok λ_ _ _ _=>zoL
 |.cons (.mkr ix D cn ces) .nil,κ,ss=>ygO ix D ((ch γ cn).e κ) (chs γ ces κ) ss
 |.cons c cs,κ,s::ss=>an (chS γ c κ s) λh=>an (yc3 γ cs κ ss) λhr=>ok λm S X G=>zlm (h m S X G) (hr m S X G)
 |_,_,_=>AD
end
inductive Dk where
 |fn|fd (ds:List Int)|me (c:Nat)|ini (c:Nat)
structure Df where
 gn:AQ
 nm:AQ
 q:AQ
 st:Bp
 N:List AQ
 ps:List AQ
 fn:IC.Fn
 k:Dk
def scB(N P:List AQ)(sc:Bi):Bool:=decide (sc.kind=.function)&&!sc.isCoroutine&&!sc.isGenerator&&decide N.Nodup&&decide (N.take P.length=P)&&P.all (ydU sc)&&sc.names.all λy=>y.2 != .free
theorem znj{N P:List AQ}{sc:Bi}(h:scB N P sc=AB):yba N P sc:=by
 erw[scB,AK,decide_eq_true_eq,Ca,BP,bne_iff_ne,ne_eq]at h;let⟨⟨⟨⟨⟨⟨h1,h2⟩,h3⟩,h4⟩,h5⟩,h6⟩,h7⟩:=h;exact⟨h1,h2,h3,h4,h5,λx hx=>ziL (h6 x hx),h7⟩
def okD(γ:Gs)(d:Df):Bool:=scB d.N d.ps (yH d.st)&&decide (d.ps.length=d.fn.np)&&decide (d.N.length=d.fn.ns)&&(yc3 γ d.fn.body ⟨d.N,yH d.st,AB⟩ (yab d.st)).isSome
noncomputable def ybW{α:Type}(P:α->Prop):List α->Prop
 |[]=>True
 |d::r=>P d/\ybW P r
theorem ybW.get{α:Type}{P:α->Prop}:∀{l:List α},ybW P l->∀d∈l,P d
 |_::_,h,d,hd=>by
  rcases A3.1 hd with rfl|hd
  .exact h.1
  .exact h.2.get d hd
noncomputable def ybG:List AQ->(List AG->Prop)->Prop
 |[],P=>P []
 |_::r,P=>∀a,ybG r λus=>P (a::us)
theorem ybG.get:∀{ps:List AQ} {P:List AG->Prop},ybG ps P->∀us,us.length=ps.length->P us
 |[],P,h,[],_=>h
 |_::r,P,h,a::us,e=>(h a).get us (by simpa using e)
def ybf(d:Df):Prop:=∀(kV doc pm:AG) (an:Option AI) (cdv ct:AG),ybG d.ps λus=>bindArgs (B2 d.nm d.q (yaf d.st) (yab d.st) (yH d.st) .none kV doc pm an cdv ct) ⟨us,[]⟩=pure (d.ps.zip us)
structure ycr(K:AE)(d:Df)(dv:AG)(f:AI)(fd:BC):Prop where
 ex:∃(oc:AG) (od:Option AI) (kV doc pm:AG) (an:Option AI) (cdv ct:AG) (osl:Array (Option AG)),
  fd=B2 d.nm d.q (yaf d.st) (yab d.st) (yH d.st) dv kV doc pm an cdv ct/\K.lookup f=AA ⟨oc,od,.func fd,osl⟩/\CA K cdv d.q=AB
 kp:Ap K (.ref f)=AB
def At(K:AE)(cn:Nat->AQ)(d:Df)(f:AI):Prop:=
 match d.k with
 |.fn=>BM K mainGlobals d.gn=AA (AA (.ref f))/\ybf d
 |.fd _=>BM K mainGlobals d.gn=AA (AA (.ref f))
 |.me c=>ybf d/\∃q,BM K mainGlobals (cn c)=AA (AA (.ref q))/\Av K (.ref q) d.nm=AA (AA (.ref f))/\Ck K (.ref f)=AB
 |.ini c=>ybf d/\∃q,BM K mainGlobals (cn c)=AA (AA (.ref q))/\Av K (.ref q) d.nm=AA (AA (.ref f))/\Ck K (.ref f)=AB/\D3 K q=AB/\Ap K (.ref q)=AB
def DvP(K:AE)(d:Df)(dv:AG):Prop:=
 match d.k with
 |.fd ds=>∃dT o its n,dv=.ref dT/\K.lookup dT=AA o/\o.data=.seq its n/\Vals (ds.map V.int) its.toList
 |_=>dv=.none
def yc1(K:AE)(cn:Nat->AQ)(d:Df):Prop:=∃dv f fd,ycr K d dv f fd/\At K cn d f/\DvP K d dv
section
variable {K:AE}{cn:Nat->AQ}{gn nm:AQ}{st:Bp}{N ps:List AQ}{fn:IC.Fn}{f:AI}{oc:AG}{od:Option AI}{kV doc pm:AG}{an:Option AI}{cdv ct:AG}{osl:Array (Option AG)}
theorem rowFn(a:BM K mainGlobals gn=AA (AA (.ref f)))(l:K.lookup f=AA ⟨oc,od,.func (B2 nm nm (yaf st) (yab st) (yH st) .none kV doc pm an cdv ct),osl⟩)
  (c:CA K cdv nm=AB) (p:Ap K (.ref f)=AB) (b:ybf ⟨gn,nm,nm,st,N,ps,fn,.fn⟩):yc1 K cn ⟨gn,nm,nm,st,N,ps,fn,.fn⟩:=
 ⟨.none,f,_,⟨⟨oc,od,kV,doc,pm,an,cdv,ct,osl,rfl,l,c⟩,p⟩,⟨a,b⟩,rfl⟩
theorem rowFd{ds:List Int}{dT:AI}{o:Bu}{its:Array AG}{n:Nat}(a:BM K mainGlobals gn=AA (AA (.ref f)))(l:K.lookup f=AA ⟨oc,od,.func (B2 nm nm (yaf st) (yab st) (yH st) (.ref dT) kV doc pm an cdv ct),osl⟩)
  (c:CA K cdv nm=AB) (p:Ap K (.ref f)=AB) (d:K.lookup dT=AA o) (e:o.data=.seq its n) (v:Vals (ds.map V.int) its.toList):yc1 K cn ⟨gn,nm,nm,st,N,ps,fn,.fd ds⟩:=
 ⟨.ref dT,f,_,⟨⟨oc,od,kV,doc,pm,an,cdv,ct,osl,rfl,l,c⟩,p⟩,a,dT,o,its,n,rfl,d,e,v⟩
theorem rowMe{qn:AQ}{cc:Nat}{q:AI}(z:BM K mainGlobals (cn cc)=AA (AA (.ref q)))(a:Av K (.ref q) nm=AA (AA (.ref f)))(i:Ck K (.ref f)=AB)(l:K.lookup f=AA ⟨oc,od,.func (B2 nm qn (yaf st) (yab st) (yH st) .none kV doc pm an cdv ct),osl⟩)
  (c:CA K cdv qn=AB) (p:Ap K (.ref f)=AB) (b:ybf ⟨gn,nm,qn,st,N,ps,fn,.me cc⟩):yc1 K cn ⟨gn,nm,qn,st,N,ps,fn,.me cc⟩:=
 ⟨.none,f,_,⟨⟨oc,od,kV,doc,pm,an,cdv,ct,osl,rfl,l,c⟩,p⟩,⟨b,q,z,a,i⟩,rfl⟩
theorem rowIni{qn:AQ}{cc:Nat}{q:AI}(z:BM K mainGlobals (cn cc)=AA (AA (.ref q)))(a:Av K (.ref q) nm=AA (AA (.ref f)))(i:Ck K (.ref f)=AB)(l:K.lookup f=AA ⟨oc,od,.func (B2 nm qn (yaf st) (yab st) (yH st) .none kV doc pm an cdv ct),osl⟩)
  (c:CA K cdv qn=AB) (p:Ap K (.ref f)=AB) (b:ybf ⟨gn,nm,qn,st,N,ps,fn,.ini cc⟩) (mk:D3 K q=AB) (kq:Ap K (.ref q)=AB):yc1 K cn ⟨gn,nm,qn,st,N,ps,fn,.ini cc⟩:=
 ⟨.none,f,_,⟨⟨oc,od,kV,doc,pm,an,cdv,ct,osl,rfl,l,c⟩,p⟩,⟨b,q,z,a,i,mk,kq⟩,rfl⟩
theorem gdf_mk{w:Aj}{h:BB}{mg:AQ->Option AG}{x:AQ}{D:List (AQ×Nat)}{fa:Nat->AI}{y:AI}{es:Array By}{ep:Nat}(X:K.In h)(G:h.Ns mainGlobals mg)(a:BM K mainGlobals x=AA (AA (.ref y)))(l:K.lookup y=AA ⟨.type "dict",AD,.dict es ep,#[]⟩)
  (r:yb9 w fa D es.toList) (n:(D.map (·.1)).Nodup):GDF K w mg fa x D:=⟨y,es,ep,EX X G a,l,r,n⟩
theorem gd_mk{w:Aj}{h:BB}{mg:AQ->Option AG}{x:AQ}{D:List (AQ×PV)}{cl:Nat->AI}{y:AI}{es:Array By}{ep:Nat}(X:K.In h)(G:h.Ns mainGlobals mg)(a:BM K mainGlobals x=AA (AA (.ref y)))(l:K.lookup y=AA ⟨.type "dict",AD,.dict es ep,#[]⟩)
  (s:(y==sysModules)=AC) (r:ycl K cl w D es.toList) (n:(D.map (·.1)).Nodup):GD K w mg cl x D:=⟨y,es,ep,EX X G a,l,s,r,n⟩
end
abbrev KoV(K:AE)(v:PV)(u:AG):Prop:=∃x:V,RelV x u/\∀cl B φ H,yd K cl B φ H v x
abbrev KoL(K:AE)(vs:List PV)(us:List AG):Prop:=∃xs:List V,Vals xs us/\∀cl B φ H,ye K cl B φ H vs xs
mutual
noncomputable def yeq(K:AE):(v:PV)->(u:AG)->Pr (KoV K v u)
 |.int i,.int j t=>an (ask (i=j)) λh=>ok ⟨.int i,⟨t,by rw[h]⟩,λ_ _ _ _=>by erw[yd]⟩
 |.str i,.str j t=>an (ask (i=j)) λh=>ok ⟨.str i,⟨t,by rw[h]⟩,λ_ _ _ _=>by erw[yd]⟩
 |.tp AB vs,.ref a=>match h:K.lookup a with
  |some ⟨c,_,.seq its n,_⟩=>an (ask (c=.type "tuple"/\its.size<=sizeLine)) λq=>an (ydx K vs its.toList) λr=>ok (by
    let⟨xs,r1,r2⟩:=r;refine⟨.ref a,rfl,λcl B φ H=>?_⟩;erw[yd];exact⟨a,xs,rfl,.inr ⟨rfl,_,its,n,h,q.1,rfl,q.2,r1⟩,r2 cl B φ H⟩)
  |_=>AD
 |_,_=>AD
noncomputable def ydx(K:AE):(vs:List PV)->(us:List AG)->Pr (KoL K vs us)
 |[],[]=>ok ⟨[],.nil,λ_ _ _ _=>by erw[ye]⟩
 |v::vs,u::us=>an (yeq K v u) λh=>an (ydx K vs us) λr=>ok (by
   let⟨x,h1,h2⟩:=h;let⟨xs,r1,r2⟩:=r;refine⟨x::xs,.cons h1 r1,λcl B φ H=>?_⟩;erw[ye];exact⟨x,xs,rfl,h2 cl B φ H,r2 cl B φ H⟩)
 |_,_=>AD
end
theorem con_row{K:AE}{cl:Nat->AI}{w:Aj}{k:AQ}{v:PV}{tk:He}{u:AG}{D:List (AQ×PV)}{es:List By}(c:(yeq K v u).isSome=AB)(h:ycl K cl w D es):ycl K cl w ((k,v)::D) (⟨EA w.params k,.str k tk,u⟩ :: es):=by
 let⟨⟨x,r,q⟩,_⟩:=Au.1 c;exact .cons r (q cl) h
theorem frow_cons{w:Aj}{fa:Nat->AI}{k:AQ}{i:Nat}{tk:He}{a:AI}{D:List (AQ×Nat)}{es:List By}(e:fa i=a)(h:yb9 w fa D es):yb9 w fa ((k,i)::D) (⟨EA w.params k,.str k tk,.ref a⟩ :: es):=by
 subst e;exact .cons h
structure Tb where
 tbl:List Df
 al:List (AQ×GK)
 bs:List AQ
 ts:List Ty
 fl:List (Nat×AQ)
 me:List ((Nat×AQ)×Nat)
 kb:List ((Nat×Nat×List AQ)×List (Option Int))
 cn:List (Nat×AQ)
 dd:List (AQ×List (AQ×PV))
 ml:List (AQ×List (AQ×Nat))
noncomputable abbrev eF(x:AQ)(i:Nat):AQ×GK:=(x,.fn i)
noncomputable abbrev eD(x:AQ)(i:Nat):AQ×GK:=(x,.fnD i)
noncomputable abbrev eC(x:AQ)(v:PV):AQ×GK:=(x,.cst v)
noncomputable abbrev eG(x:AQ)(g:GK):AQ×GK:=(x,g)
noncomputable abbrev eN(c:Nat)(x:AQ):Nat×Str:=(c,x)
noncomputable abbrev eM(c:Nat)(x:AQ)(i:Nat):(Nat×AQ)×Nat:=((c,x),i)
noncomputable abbrev eK(i n:Nat)(ks:List AQ)(sh:List (Option Int)):(Nat×Nat×List AQ)×List (Option Int):=((i,n,ks),sh)
noncomputable abbrev eL(x:AQ)(d:List (AQ×Nat)):AQ×List (AQ×Nat):=(x,d)
noncomputable abbrev eB(x:AQ)(d:List (AQ×PV)):AQ×List (AQ×PV):=(x,d)
noncomputable def tyE:Ty->Ty->Bool
 |.int,.int=>AB
 |.bool,.bool=>AB
 |.str,.str=>AB
 |.tuple,.tuple=>AB
 |.list,.list=>AB
 |_,_=>AC
theorem znc{a b:Ty}(h:tyE a b=AB):a=b:=by
 cases a<;>cases b<;>first|rfl|cases h
def Tb.gs(t:Tb):Gs:=⟨λx=>t.al.lookup x,λx=>t.bs.contains x,λy=>t.ts.any (tyE y),λc f=>t.fl.contains (c,f),λc n=>t.me.lookup (c,n),λi n ks=>t.kb.lookup (i,n,ks),λx=>t.ml.lookup x⟩
noncomputable def nmA(K:AE)(x:AQ):Option Addr:=match BM K mainGlobals x with
 |some (AA (.ref q))=>AA q
 |_=>AD
def clA(K:AE)(t:Tb)(c:Nat):Addr:=((t.cn.lookup c).bind (nmA K)).getD 0
noncomputable def cnm(t:Tb)(c:Nat):Str:=(t.cn.lookup c).getD ""
def faA(K:AE)(t:Tb)(i:Nat):Addr:=match t.tbl[i]? with
 |some d=>match d.k with
  |.fn=>(nmA K d.gn).getD 0
  |.fd _=>(nmA K d.gn).getD 0
  |.me c=>match Av K (.ref (clA K t c)) d.nm with
   |some (AA (.ref f))=>f
   |_=>0
  |.ini c=>match Av K (.ref (clA K t c)) d.nm with
   |some (AA (.ref f))=>f
   |_=>0
 |none=>0
noncomputable def ydk:Dk->Bool
 |.fn=>AB
 |_=>AC
noncomputable def yex:Dk->Bool
 |.fd _=>AB
 |_=>AC
noncomputable def yge:PV->Bool
 |.int _=>AB
 |.tp _ _=>AB
 |_=>AC
def alB(K:AE)(t:Tb):AQ×GK->Bool
 |(x,.fn i)=>match t.tbl[i]? with
  |some d=>ydk d.k&&(decide (x=d.gn) || decide (nmA K x=nmA K d.gn))
  |none=>AC
 |(x,.fnD i)=>match t.tbl[i]? with
  |some d=>yex d.k&&(decide (x=d.gn) || decide (nmA K x=nmA K d.gn))
  |none=>AC
 |(x,.cst v)=>yge v&&match BM K mainGlobals x with
  |some (AA u)=>(yeq K v u).isSome
  |_=>AC
 |(x,.dct d)=>t.dd.any λp=>decide (p.1=x)&&(eqD p.2 d).isSome
 |(x,.exc c)=>decide (t.cn.lookup c=AA x)&&(nmA K x).any λq=>F4 K q [.type "ValueError",.type "Exception",.type "BaseException",.type "object"] "ValueError.__new__"
 |(x,.cls c i)=>decide (t.cn.lookup c=AA x)&&(nmA K x).isSome&&match t.tbl[i]? with
  |some d=>match d.k with
   |.ini c'=>decide (c'=c)&&decide (d.nm="__init__")
   |_=>AC
  |none=>AC
def ye5(K:AE)(t:Ty):Bool:=
 decide (BZ K (.type "NoneType") (.type (tyN t))=AA (ybz .non t))&&decide (BZ K (.type "bool") (.type (tyN t))=AA (ybz (.bl AB) t))&&decide (BZ K (.type "int") (.type (tyN t))=AA (ybz (.int 0) t))&&decide (BZ K (.type "str") (.type (tyN t))=AA (ybz (.str GM) t))&&decide (BZ K (.type "tuple") (.type (tyN t))=AA (ybz (.tp AB []) t))&&decide (BZ K (.type "list") (.type (tyN t))=AA (ybz (.lst []) t))
noncomputable def ydR(K:AE)(q:AI):Bool:=Cj K q GM&&DC K q&&EL K q&&decide (Av K (.ref q) "__setattr__"=AA (AA (.builtin "object.__setattr__")))
theorem zib{K:AE}{q:AI}(h:ydR K q=AB):Cls K q:=by
 erw[ydR,AK,decide_eq_true_eq]at h;exact⟨h.1.1.1,h.1.1.2,h.1.2,h.2⟩
def yeo(K:AE)(t:Tb):Bool:=
 t.al.all (alB K t)&&t.bs.all (λx=>decide (BM K mainGlobals x=AA AD))&&t.ts.all (ye5 K) &&
  t.fl.all (λp=>(t.cn.lookup p.1).isSome&&(nmA K (cnm t p.1)).any λq=>ydR K q&&decide (Av K (.ref q) p.2=AA AD)) &&
  t.me.all (λp=>(t.cn.lookup p.1.1).isSome&&(nmA K (cnm t p.1.1)).any λq=>ydR K q&&match t.tbl[p.2]? with
   |some d=>(match d.k with
    |.me c=>decide (c=p.1.1)
    |_=>AC)&&decide (d.nm=p.1.2)
   |none=>AC) &&
  t.ml.all λp=>p.2.all λq=>match t.tbl[q.2]? with
   |some d=>ydk d.k
   |none=>AC
noncomputable def fd0:FuncData:=B2 "" "" (yaf (.Pass ⟨0,0,0,0⟩)) [] (yH (.Pass ⟨0,0,0,0⟩)) .none .none .none .none AD .none .none
def fdA(K:AE)(t:Tb)(i:Nat):FuncData:=match K.lookup (faA K t i)with
 |some ⟨_,_,.func fd,_⟩=>fd
 |_=>fd0
noncomputable def psA(t:Tb)(i:Nat):List Str:=match t.tbl[i]? with
 |some d=>d.ps
 |none=>[]
theorem lkm{α β:Type}[BEq α][LawfulBEq α]{x:α}{k:β}:∀{l:List (α×β)},l.lookup x=AA k->(x,k)∈l
 |[],h=>nomatch h
 |y::l,h=>by
  rw[Be]at h
  cases hx:x==y.1 with
  |true=>rw[hx]at h;cases h;rw[eq_of_beq hx];exact BG
  |false=>rw[hx]at h;exact AX _ (lkm h)
def KbP(t:Tb)(p:(Nat×Nat×List AQ)×List (Option Int)):Prop:=∀d ds,t.tbl[p.1.1]?=AA d->d.k=.fd ds->∀(K:AE) (mg:AQ->Option AG) (f:AI) (fd:BC),FnD K mg d.nm d.st d.ps ds f fd->∃g,ybD K fd d.ps p.1.2.2 g (gK p.1.2.1 p.2)
structure Fact(t:Tb)(w:Aj)(K:AE)(mg:AQ->Option AG):Prop where
 X:∀x u,BM K mainGlobals x=AA u->mg x=u
 R:ybW (yc1 K (cnm t)) t.tbl
 B:yeo K t=AB
 D:ybW (λp=>∀cl,GD K w mg cl p.1 p.2) t.dd
 Kb:ybW (KbP t) t.kb
 Ml:ybW (λp=>GDF K w mg (faA K t) p.1 p.2) t.ml
theorem zoc{K:AE}{x:AQ}{q:AI}(h:nmA K x=AA q):BM K mainGlobals x=AA (AA (.ref q)):=by
 unfold nmA at h;split at h
 .cases h;assumption
 .cases h
theorem zcu{K:AE}{x:AQ}{q:AI}(h:BM K mainGlobals x=AA (AA (.ref q))):nmA K x=AA q:=by
 erw[nmA,h]
theorem zgo{K:AE}{t:Tb}{c:Nat}{q:AI}(h:nmA K (cnm t c)=AA q)(hc:(t.cn.lookup c).isSome=AB):clA K t c=q:=by
 let⟨x,e⟩:=Au.1 hc;erw[clA,e,Bg];erw[cnm,e,Bf]at h;rw[h];rfl
noncomputable def okT(t:Tb)(d:Df):Bool:=okD t.gs d&&match d.k with
 |.fn=>AB
 |.fd _=>decide (d.q=d.nm)
 |.me c=>(t.cn.lookup c).isSome
 |.ini c=>(t.cn.lookup c).isSome&&decide (d.nm="__init__")
section
variable {t:Tb}{w:Aj}{K:AE}{mg:AQ->Option AG}{T:Nat->Option IC.Fn}{P:A8}{base:BB}{k:Nat}
theorem zdu(F:Fact t w K mg)(O:∀d∈t.tbl,okT t d=AB){i:Nat}{d:Df}(h:t.tbl[i]?=AA d):∃dv fd,ycr K d dv (faA K t i) fd/\At K (cnm t) d (faA K t i)/\DvP K d dv:=by
 have hm:=A2 h;let⟨dv,f,fd,h1,h2,h3⟩:=F.R.get d hm;have e:f=faA K t i:=by
  have o:=O d hm;erw[okT,AK]at o;have o:=o.2;erw[faA,h];unfold At at h2
  cases q:d.k with
  |fn=>
   rw[q]at h2;erw[zcu h2.1,Bf]
  |fd ds=>
   rw[q]at h2;have h2:BM K mainGlobals d.gn=AA (AA (.ref f)):=h2;erw[zcu h2,Bf]
  |me c=>
   rw[q]at h2 o;let⟨_,q',e1,e2,_⟩:=h2;erw[zgo (zcu e1) o,e2]
  |ini c=>
   rw[q]at h2 o;let⟨_,q',e1,e2,_⟩:=h2;erw[AK]at o;erw[zgo (zcu e1) o.1,e2]
 subst e;exact⟨dv,fd,h1,h2,h3⟩
theorem ycr.binds{d:Df}{f:AI}{fd:BC}(R:ycr K d .none f fd)(b:ybf d):Binds K fd d.ps []:=
 Fun.binds ⟨R.ex,R.kp⟩ λkV doc pm an cdv ct us hl=>(b kV doc pm an cdv ct).get us hl
theorem ycr.ok{d:Df}{dv:AG}{f:AI}{fd:BC}{fi m:Nat}{cl:Nat->AI}(R:ycr K d dv f fd)(hT:T fi=AA d.fn)(Sc:yba d.N d.ps (yH d.st))(hnp:d.ps.length=d.fn.np)(hns:d.N.length=d.fn.ns)
  (body:∀(cdv:AG) (A:Ao) (outer:List BX) (s:AJ) (H:Hp) (E:XK),yav m (A.deeper (envOfC d.q (yH d.st) s.heap.objs.size f cdv)) ->
   PSs (yaX (CX1 P w) P w K mg base d.N d.q (yH d.st) f cdv A outer s H E) (yab d.st) (tSs ⟨cl,yc T k,AB⟩ (yaX (CX1 P w) P w K mg base d.N d.q (yH d.st) f cdv A outer s H E) d.fn.body)):
  yaJ P w K mg base (CX1 P w) (m+1) f fd d.ps (spI K cl (yc T (k+1)) fi):=by
 let⟨oc,od,kV,doc,pm,an,cdv,ct,osl,rfl,lk,hcd⟩:=R.ex;exact zpw lk hcd Sc (λvs H Q E h=>zn8 hT hnp h) λA outer s H vs Q E hr h=>⟨_,body cdv A outer s H E hr,zk0 hT hns h⟩
def Fn2(t:Tb)(P:A8)(w:Aj)(K:AE)(mg:AQ->Option AG)(base:BB)(T:Nat->Option IC.Fn)(k:Nat):Prop:=
 ∀i d dv fd,t.tbl[i]?=AA d->ycr K d dv (faA K t i) fd->yaJ P w K mg base (CX1 P w) (2*k) (faA K t i) fd d.ps (spI K (clA K t) (yc T k) i)
theorem zi9(F:Fact t w K mg)(O:∀d∈t.tbl,okT t d=AB)(C:Fn2 t P w K mg base T k){N:List AQ}{q:AQ}{sc:Bi}{f:AI}{cdv:AG}{A:Ao}{outer:List BX}{s:AJ}{H:Hp}{E:XK}:
  Glo t.gs (2*k) ⟨clA K t,yc T k,AB⟩ (yaX (CX1 P w) P w K mg base N q sc f cdv A outer s H E):=by
 have B:=F.B;erw[yeo,AK,BP]at B;let⟨⟨⟨⟨⟨b1,b2⟩,b3⟩,b4⟩,b5⟩,b6⟩:=B;have mgr:∀{x:AQ} {a:AI},nmA K x=AA a->mg x=AA (.ref a):=λh=>F.X _ _ (zoc h);have same:∀{x y:AQ} {a:AI},(decide (x=y) || decide (nmA K x=nmA K y))=AB->nmA K y=AA a->nmA K x=AA a:=λ{x y a} h e=>by
  erw[Cy,decide_eq_true_eq]at h;rcases h with rfl|h
  .exact e
  .rw[h];exact e
 refine⟨λx i h=>?_,λx i np ks sh h hk=>?_,λx v h=>?_,λx d h=>?_,λx c h=>?_,λx c i h=>?_,λx h=>?_,λy h=>?_,λc n h=>?_,λc n i h=>?_,λy D h=>?_⟩
 .have q:=b1 _ (lkm h);erw[alB]at q;split at q
  .rename_i d hd;erw[AK]at q;let⟨dv,fd,r1,r2,r3⟩:=zdu F O hd;have hk:d.k=.fn:=by cases e:d.k<;>rw[e]at q<;>first|rfl|cases q.1
   erw[At,hk]at r2;erw[DvP,hk]at r3;subst r3;exact⟨_,fd,d.ps,C i d _ fd hd r1,mgr (same q.2 (zcu r2.1)),r1.kp,r1.binds r2.2⟩
  .cases q
 .have q:=b1 _ (lkm h);erw[alB]at q;split at q
  .rename_i d hd;erw[AK]at q;let⟨dv,fd,r1,r2,r3⟩:=zdu F O hd;obtain⟨ds,hk'⟩:∃ds,d.k=.fd ds:=by cases e:d.k<;>rw[e]at q<;>first|exact⟨_,rfl⟩|cases q.1
   erw[At,hk']at r2;erw[DvP,hk']at r3;let⟨dT,o,its,n,rfl,e1,e2,e3⟩:=r3;have oo:=O d (A2 hd);erw[okT,hk',AK,decide_eq_true_eq]at oo;have D:FnD K (λ_=>AA (.ref (faA K t i))) d.nm d.st d.ps ds (faA K t i) fd:=by
    let⟨oc,od,kV,doc,pm,an,cdv,ct,osl,z1,z2,z3⟩:=r1.ex;rw[oo.2]at z1 z3;exact⟨⟨oc,od,dT,kV,doc,pm,an,cdv,ct,osl,o,its,n,z1,z2,z3,e1,e2,e3⟩,r1.kp,rfl⟩
   exact⟨_,fd,d.ps,C i d _ fd hd r1,mgr (same q.2 (zcu r2)),r1.kp,F.Kb.get _ (lkm hk) d ds hd hk' K _ _ _ D⟩
  .cases q
 .have q:=b1 _ (lkm h);erw[alB,AK]at q;let⟨q0,q⟩:=q;split at q
  .rename_i u hu;let⟨⟨y,r,z⟩,_⟩:=Au.1 q;have hm:=F.X _ _ hu
   cases v with
   |int i=>
    have z:=z (λ_=>0) (λ_=>False) [] (λ_=>AD);erw[yd]at z;subst z;let⟨tk,rfl⟩:=r;exact .inr ⟨i,rfl,tk,hm⟩
   |tp b vs=>
    have z0:=z (λ_=>0) (λ_=>False) [] (λ_=>AD);erw[yd]at z0;let⟨a,xs,rfl,_⟩:=z0;have r:u=.ref a:=r;subst r;exact .inl ⟨a,hm,λB φ H=>z _ B φ H⟩
   |_=>cases q0
  .cases q
 .have q:=b1 _ (lkm h);erw[alB,Ee,AK,decide_eq_true_eq]at q;let⟨p,hp,rfl,q⟩:=q;let⟨⟨e⟩,_⟩:=Au.1 q;rw[<-e];exact F.D.get p hp _
 .have q:=b1 _ (lkm h);erw[alB,AK,decide_eq_true_eq,Cf]at q;let⟨q1,q2,q3⟩:=q;let⟨a,ha⟩:=Au.1 q2;have e:clA K t c=a:=by erw[clA,q1,Bg,ha,Bf]
  erw[ha,FA]at q3;exact⟨by show mg x=AA (.ref (clA K t c));rw[e];exact mgr ha,by show F4 K (clA K t c) _ _=AB;rw[e];exact q3⟩
 .have q:=b1 _ (lkm h);erw[alB,AK,decide_eq_true_eq]at q;let⟨⟨q1,q2⟩,q3⟩:=q;let⟨a,ha⟩:=Au.1 q2;have e:clA K t c=a:=by erw[clA,q1,Bg,ha,Bf]
  split at q3
  .rename_i d hd
   cases hk:d.k with
   |ini c'=>
    rw[hk]at q3;erw[AK,decide_eq_true_eq]at q3;let⟨rfl,hn⟩:=q3;let⟨dv,fd,r1,r2,r3⟩:=zdu F O hd;erw[At,hk]at r2;erw[DvP,hk]at r3;subst r3;let⟨r0,q',r4,r5,r6,r7,r8⟩:=r2;have e2:q'=a:=by
     have:nmA K (cnm t c')=AA q':=zcu r4;erw[cnm,q1,Bf,ha]at this;exact(AY this).symm
    subst e2;rw[hn]at r5;refine⟨by show mg x=AA (.ref (clA K t c'));rw[e];exact mgr ha,_,fd,d.ps,?_,C i d _ fd hd r1,r1.binds r0⟩;show Mk K (clA K t c') _;rw[e];exact⟨r7,r5,r6,r8⟩
   |_=>rw[hk]at q3;cases q3
  .cases q3
 .have q:x∈t.bs:=by simpa [Tb.gs] using h
  have:=b2 x q;erw[decide_eq_true_eq]at this;exact F.X _ _ this
 .simp only[Tb.gs,Ee]at h;let⟨y',hy,e⟩:=h;have:=znc e;subst this;have q:=b3 y hy;erw[ye5,AK,decide_eq_true_eq]at q;exact⟨q.1.1.1.1.1,q.1.1.1.1.2,q.1.1.1.2,q.1.1.2,q.1.2,q.2⟩
 .have q:(c,n)∈t.fl:=by simpa [Tb.gs] using h
  have q:=b4 _ q;erw[AK,Cf,decide_eq_true_eq]at q;let⟨q1,q2,q3⟩:=q;let⟨a,ha⟩:=Au.1 q2;erw[ha,FA]at q3;have e:clA K t c=a:=zgo ha q1;show Cls K (clA K t c)/\yau K (clA K t c) n;rw[e];exact⟨zib q3.1,q3.2⟩
 .have q:=b5 _ (lkm h);erw[AK,Cf,decide_eq_true_eq]at q;let⟨q1,q2,q3,q4⟩:=q;let⟨a,ha⟩:=Au.1 q2;erw[ha,FA]at q3;have e:clA K t c=a:=zgo ha q1;split at q4
  .rename_i d hd;erw[AK,decide_eq_true_eq]at q4;let⟨q4,hn⟩:=q4
   cases hk:d.k with
   |me c'=>
    rw[hk]at q4;have q4:c'=c:=by simpa using q4
    subst q4;let⟨dv,fd,r1,r2,r3⟩:=zdu F O hd;erw[At,hk]at r2;erw[DvP,hk]at r3;subst r3;let⟨r0,q',r4,r5,r6⟩:=r2;have e2:q'=a:=AY ((zcu r4).symm.trans ha);subst e2;refine⟨by show Cls K (clA K t c');rw[e];exact zib q3,_,fd,d.ps,?_,C i d _ fd hd r1,r1.binds r0⟩;show Meth K (clA K t c') n _;rw[e,<-hn];exact⟨r5,r6,r1.kp⟩
   |_=>rw[hk]at q4;cases q4
  .cases q4
 .have q:=b6 _ (lkm h);have g:∀s j,D.lookup s=AA j->∃d dv fd,t.tbl[j]?=AA d/\ycr K d dv (faA K t j) fd/\dv=.none/\ybf d/\fd=fdA K t j/\d.ps=psA t j:=λs j hj=>by
   have q:=q _ (lkm hj);split at q
   .rename_i d hd;let⟨dv,fd,r1,r2,r3⟩:=zdu F O hd;have hk:d.k=.fn:=by cases e:d.k<;>rw[e]at q<;>first|rfl|cases q
    erw[At,hk]at r2;erw[DvP,hk]at r3;let⟨oc,od,kV,doc,pm,an,cdv,ct,osl,_,lk,_⟩:=r1.ex;exact⟨d,dv,fd,hd,r1,r3,r2.2,by erw[fdA,lk],by erw[psA,hd]⟩
   .cases q
  refine⟨faA K t,fdA K t,psA t,⟨λs j hj=>?_,λs j hj=>?_,λs j hj=>?_⟩,F.Ml.get _ (lkm h)⟩
  .let⟨d,dv,fd,h1,h2,h3,h4,h5,h6⟩:=g s j hj;rw[<-h5,<-h6];exact C j d dv fd h1 h2
  .let⟨d,dv,fd,h1,h2,h3,h4,h5,h6⟩:=g s j hj;exact h2.kp
  .let⟨d,dv,fd,h1,h2,h3,h4,h5,h6⟩:=g s j hj;subst h3;rw[<-h5,<-h6];exact h2.binds h4
theorem zhh(F:Fact t w K mg)(O:∀d∈t.tbl,okT t d=AB)(hT:∀i d,t.tbl[i]?=AA d->T i=AA d.fn):∀k,Fn2 t P w K mg base T k
 |0=>λi d dv fd _ _=>zjx
 |k+1=>λi d dv fd h R=>by
  have o:=O d (A2 h);erw[okT,okD,AK,decide_eq_true_eq]at o;let⟨⟨⟨⟨o1,o2⟩,o3⟩,o4⟩,_⟩:=o;let⟨⟨y⟩,_⟩:=Au.1 o4;exact R.ok (m:=2*k+1) (hT i d h) (znj o1) o2 o3 λ_ _ _ _ _ _ hr=>y (2*k) _ _ ⟨rfl,rfl,rfl,hr,λ_=>⟨own1,λ_=>rfl,rfl⟩,zi9 F O (zhh F O hT k)⟩
noncomputable def yc4:Nat->(List AG->Prop)->Prop
 |0,P=>P []
 |n+1,P=>∀a,yc4 n λus=>P (a::us)
theorem yc4.get:∀{n:Nat} {P:List AG->Prop},yc4 n P->∀us,us.length=n->P us
 |0,P,h,[],_=>h
 |n+1,P,h,a::us,e=>(h a).get us (by simpa using e)
theorem kbP{i np:Nat}{ks:List AQ}{sh:List (Option Int)}{d:Df}{ds:List Int}(hd:t.tbl[i]?=AA d)(hk:d.k=.fd ds)(h1:ks.length=nKw sh)(h2:sh.length=(ds.drop (ds.length-sh.length)).length)
  (h3:((sh.zip (ds.drop (ds.length-sh.length))).all λp=>p.1.all λi=>decide (i=p.2))=AB) (hp:0<d.ps.length)
  (h:∀(dT:AI) (kV doc pm:AG) (an:Option AI) (cdv ct:AG),yc4 np λus=>yc4 ks.length λws=>yc4 ds.length λits=>
   ∃k,bindArgs (B2 d.nm d.nm (yaf d.st) (yab d.st) (yH d.st) (.ref dT) kV doc pm an cdv ct) ⟨us,ks.zip ws⟩=seqItems? (.ref dT) >>= k/\k (AA its.toArray)=pure (d.ps.zip (us++ya8 sh ws (its.drop (ds.length-sh.length))))):KbP t ((i,np,ks),sh):=by
 intro d' ds' e1 e2 K mg f fd D;have e1:t.tbl[i]?=AA d':=e1;rw[hd]at e1
 cases e1
 rw[hk]at e2
 cases e2
 exact kbD D h1 h2 h3 (λdT kV doc pm an cdv ct us ws its z1 z2 z3=>(((h dT kV doc pm an cdv ct).get us z1).get ws z2).get its z3) hp
theorem all_mk2{h:BB}{fx:AI}(X:K.In h)(G:h.Ns mainGlobals mg)(hfa:mg "law"=AA (.ref fx))(R:ybW (yc1 K (cnm t)) t.tbl)(B:yeo K t=AB)(D:ybW (λp=>∀cl,GD K w mg cl p.1 p.2) t.dd)(Kb:ybW (KbP t) t.kb)(Ml:ybW (λp=>GDF K w mg (faA K t) p.1 p.2) t.ml)
  (O:t.tbl.all (okT t)=AB) (hT:∀i d,t.tbl[i]?=AA d->T i=AA d.fn) {L:Nat} {st:Bp} {N:List AQ} {fn:IC.Fn} (hL:t.tbl[L]?=AA ⟨"law","law","law",st,N,["_law_script"],fn,.fn⟩) (lvl:Nat):
  ∃fd:BC,(∀(s:AJ) (v:AG),FP s fd ⟨[v],[]⟩ [("_law_script",v)])/\∀base:BB,K.In base->base.Ns mainGlobals mg->yaJ P w K mg base (CX1 P w) (2*lvl) fx fd ["_law_script"] (spX K (yc T lvl) L):=by
 have F:Fact t w K mg:=⟨λx u e=>by
  cases u with
  |none=>exact PySem.W.mg_none_of X G e
  |some v=>exact EX X G e,R,B,D,Kb,Ml⟩
 have O':=BP.1 O;let⟨dv,fd,r1,r2,r3⟩:=zdu F O' hL;have r3:dv=.none:=r3;subst r3;have r2:BM K mainGlobals "law"=AA (AA (.ref (faA K t L)))/\ybf _:=r2;have e:=Value.ref.inj (AY (hfa.symm.trans (EX X G r2.1)));subst e;refine⟨fd,λs v=>?_,λbase _ _=>(zhh F O' hT lvl L _ _ fd hL r1).imp λ_ _ _ _ h=>h _⟩;let⟨oc,od,kV,doc,pm,an,cdv,ct,osl,rfl,_⟩:=r1.ex;exact .of_eq (r2.2 kV doc pm an cdv ct v)
end
end L2
namespace IC
open PySem
noncomputable def zbl:List (AQ×Nat):=[(AF "sum",64),(AF "difference",65),(AF "turned",66),(AF "both",67),(AF "any",68),(AF "odd",69),(AF "bare",70),(AF "left",71),(AF "right",72),(AF "down",73),(AF "roll",74),(AF "product",75),(AF "signed product",76),(AF "quotient",77),(AF "signed quotient",78)]
noncomputable def zM:List (AQ×Nat):=[(AF "move",81),(AF "bare",82),(AF "sum",83),(AF "less",84),(AF "both",85),(AF "any",86),(AF "odd",87),(AF "twice",88),(AF "half",89)]
noncomputable def zaJ:PV:=(.tp AB [(.int 0),(.int 1),(.int 0)])
noncomputable def zbs:PV:=(.int 10000000000000000000000000000000000000000)
noncomputable def zai:PV:=(.tp AB [(.tp AB [(.str "m"),(.tp AB [(.int 0),(.int 0),(.int 0),(.int 0)])]),(.tp AB [(.str "m"),(.tp AB [(.int 1),(.int 0),(.int 0),(.int 0)])]),(.tp AB [(.str "m"),(.tp AB [(.int 2),(.int 0),(.int 0),(.int 0)])]),(.tp AB [(.str "m"),(.tp AB [(.int 3),(.int 0),(.int 0),(.int 0)])])])
noncomputable def zcq:PV:=(.int 4)
noncomputable def zeu:PV:=(.int 2)
noncomputable def zbH:PV:=(.int 4000)
noncomputable def zdh:PV:=(.int 4000)
noncomputable def zeH:PV:=(.int 20)
noncomputable def zeg:PV:=(.int 2)
noncomputable def zcU:PV:=(.int 200)
noncomputable def zjk:PV:=(.tp AB [(.str "z"),(.tp AB [(.int 0),(.int 0),(.int 0),(.int 0)])])
noncomputable def zcn:PV:=(.tp AB [(.str "product"),(.str "signed product")])
noncomputable def zas:PV:=(.tp AB [(.str "quotient"),(.str "signed quotient")])
noncomputable def zfd:PV:=(.tp AB [(.str "s"),(.tp AB [(.int 0),(.int 0),(.int 0),(.int 0)])])
noncomputable def zbM:PV:=(.tp AB [(.str "left"),(.str "right"),(.str "down"),(.str "roll")])
noncomputable def zfH:PV:=(.tp AB [(.str "t"),(.tp AB [(.int 0),(.int 0),(.int 0),(.int 0)])])
def zae:List (AQ×PV):=[(AF "set",(.tp AB [(.str "cell"),(.str "figure")])),(AF "move",(.tp AB [(.str "cell"),(.str "cell")])),(AF "bare",(.tp AB [(.str "cell"),(.str "cell")])),(AF "sum",(.tp AB [(.str "cell"),(.str "cell"),(.str "cell")])),(AF "less",(.tp AB [(.str "cell"),(.str "cell"),(.str "cell")])),(AF "both",(.tp AB [(.str "cell"),(.str "cell"),(.str "cell")])),(AF "any",(.tp AB [(.str "cell"),(.str "cell"),(.str "cell")])),(AF "odd",(.tp AB [(.str "cell"),(.str "cell"),(.str "cell")])),(AF "twice",(.tp AB [(.str "cell"),(.str "cell")])),(AF "half",(.tp AB [(.str "cell"),(.str "cell")])),(AF "times",(.tp AB [(.str "cell"),(.str "cell"),(.str "cell"),(.str "cell")])),(AF "mark",(.tp AB [(.str "figure")])),(AF "ask",(.tp AB [(.str "cell")]))]
noncomputable def zkf:Fn:=⟨5,5,AB,(.k (.ret (.tup (.k (.v 0) (.k (.tup (.k (.v 1) (.k (.v 2) (.k (.v 3) (.k (.v 4) .e))))) .e)))) .e)⟩
def zcO:Fn:=⟨1,1,AB,(.k (.ret (.call 0 (ya7 (.k (.v 0) (.k (.neg (.i 1)) .e)) (yR [.inr 0,.inr 0,.inl (.i 1)])))) .e)⟩
noncomputable def zkv:Fn:=⟨1,1,AB,(.k (.ret (.blt .tuple (.k (.comp [AD] (.n 0) (.seq (.v 0)) (.cst (.bl AB)) (.tup (.k (.s "row") (.k (.v 0) .e)))) .e))) .e)⟩
noncomputable def zfI:Fn:=⟨3,3,AB,(.k (.ret (.tup (.k (.tup (.k (.s "rounds") (.k (.v 0) (.k (.v 1) (.k (.v 2) .e))))) .e))) .e)⟩
noncomputable def zgh:Fn:=⟨5,5,AB,(.k (.ret (.tup (.k (.s "slice") (.k (.v 0) (.k (.tup (.k (.i 0) (.k (.i 0) (.k (.i 0) (.k (.i 0) .e))))) (.k (.tup (.k (.v 1) (.k (.v 2) (.k (.v 3) (.k (.v 4) .e))))) .e)))))) .e)⟩
noncomputable def zkr:Fn:=⟨6,6,AB,(.k (.ret (.tup (.k (.v 0) (.k (.tup (.k (.i 0) (.k (.v 2) (.k (.i 0) (.k (.v 3) (.k (.v 4) (.k (.v 5) .e))))))) (.k (.v 1) .e))))) .e)⟩
def zbQ:Fn:=⟨3,4,AB,(.k (.asg (.n 3) (.tup (.k (.call 5 (ya7 (.k (.i 1) (.k (.tup (.k (.call 4 (ya7 (.k (.v 1) .e) (yR [.inr 0,.inl (.i 1),.inr 0,.inr 0]))) .e)) .e)) (yR [.inr 0,.inr 0,.inr 0,.inr 0]))) (.k (.call 5 (ya7 (.k (.neg (.i 1)) (.k (.tup (.k (.call 4 (ya7 (.k (.v 0) .e) (yR [.inr 0,.inl (.i 1),.inr 0,.inr 0]))) .e)) .e)) (yR [.inr 0,.inr 0,.inr 0,.inr 0]))) .e)))) (.k (.ret (.call 3 (.k (.tup (.k (.v 2) (.k (.i 1) (.k (.i 0) .e)))) (.k (.v 3) (.k (.call 2 (.k (.lst (.k (.tup (.k (.s "move") (.k (.call 0 (ya7 (.k (.v 0) .e) (yR [.inr 0,.inl (.i 1),.inr 0,.inr 0]))) (.k (.call 0 (ya7 (.k (.v 1) .e) (yR [.inr 0,.inl (.i 1),.inr 0,.inr 0]))) .e)))) .e)) .e)) .e))))) .e))⟩
def zaS:Fn:=⟨2,2,AB,(.k (.ret (.call 3 (.k (.v 1) (.k (.tup .e) (.k (.call 2 (.k (.lst (.k (.tup (.k (.s "twice") (.k (.call 0 (ya7 (.k (.v 0) .e) (yR [.inr 0,.inr 0,.inl (.i 1),.inr 0]))) (.k (.call 0 (ya7 (.k (.v 0) .e) (yR [.inr 0,.inr 0,.inl (.i 1),.inr 0]))) .e)))) .e)) .e)) .e))))) .e)⟩
def zcX:Fn:=⟨1,1,AB,(.k (.ret (.tup (.k (.s "sum") (.k (.v 0) (.k (.cst zjk) (.k (.cst zjk) .e)))))) .e)⟩
def zaU:Fn:=⟨1,1,AB,(.k (.ret (.lst (.k (.tup (.k (.s "set") (.k (.v 0) (.k (.i 1) .e)))) (.k (.tup (.k (.s "less") (.k (.v 0) (.k (.v 0) (.k (.cst zjk) .e))))) .e)))) .e)⟩
def zcc:Fn:=⟨3,4,AB,(.k (.asg (.n 3) (.tup (.k (.s "any") (.k (.cst zfd) (.k (.cst zfd) (.k (.call 0 (ya7 (.k (.v 0) .e) (yR [.inr 0,.inl (.i 1),.inr 0,.inl (.v 1)]))) .e)))))) (.k (.ret (.bin .add (.bin .add (.call 2 (.k (.lst (.k (.tup (.k (.s "set") (.k (.cst zfd) (.k (.i 0) .e)))) .e)) .e)) (.call 3 (.k (.v 2) (.k (.tup .e) (.k (.call 2 (.k (.lst (.k (.v 3) .e)) .e)) .e))))) (.call 2 (.k (.lst (.k (.tup (.k (.s "ask") (.k (.cst zfd) .e))) .e)) .e)))) .e))⟩
def zbu:Fn:=⟨2,3,AB,(.k (.asg (.n 2) (.lst (.k (.tup (.k (.s "twice") (.k (.cst zfH) (.k (.call 0 (ya7 (.k (.s "c") (.k (.bin .sub (.v 0) (.i 1)) .e)) (yR [.inr 0,.inr 0,.inl (.v 1)]))) .e)))) (.k (.call 8 (.k (.idx (.cst zai) (.i 3)) .e)) .e)))) (.k (.ret (.bin .add (.call 10 (.k (.s "c") (.k (.i 0) (.k (.tup (.k (.v 0) (.k (.v 1) (.k (.i 0) .e)))) .e)))) (.call 2 (.k (.bin .add (.call 9 (.k (.idx (.cst zai) (.i 2)) .e)) (.v 2)) .e)))) .e))⟩
noncomputable def zan:Fn:=⟨3,3,AB,(.k (.ret (.and (.isi (.v 0) [.int]) (.and (.not (.isi (.v 0) [.bool])) (.chain .le .le (.v 1) (.v 0) (.v 2))))) .e)⟩
noncomputable def zbC:Fn:=⟨1,1,AB,(.k (.ret (.and (.isi (.v 0) [.str]) (.and (.cmp .eq (.blt .len (.k (.v 0) .e)) (.i 1)) (.chain .le .le (.s "a") (.v 0) (.s "z"))))) .e)⟩
def zdv:Fn:=⟨2,2,AB,(.k (.ite (.or (.not (.isi (.v 0) [.tuple])) (.cmp .ne (.blt .len (.k (.v 0) .e)) (.v 1))) (.k .nope .e) .e) (.k (.ret (.blt .all (.k (.comp [AD] (.n 0) (.seq (.v 0)) (.cst (.bl AB)) (.call 12 (.k (.v 0) (.k (.neg (.cst zcU)) (.k (.cst zcU) .e))))) .e))) .e))⟩
def zbx:Fn:=⟨1,1,AB,(.k (.ret (.bin .add (.bin .add (.call 19 (.k (.v 0) (.k (.tup (.k (.s "mark") (.k (.i 0) .e))) (.k (.call 7 (.k (.s "c") (.k (.cst zaJ) .e))) .e)))) (.call 22 .e)) (.call 11 (.k (.i 0) (.k (.i 1) .e))))) .e)⟩
noncomputable def za5:Fn:=⟨1,1,AB,(.k (.ret (.bin .add (.bin .add (.call 19 (.k (.v 0) (.k (.tup (.k (.s "mark") (.k (.i 0) .e))) (.k (.call 20 .e) .e)))) (.call 22 .e)) (.call 11 (.k (.i 0) (.k (.i 1) .e))))) .e)⟩
noncomputable def zbw:Fn:=⟨1,1,AB,(.k (.ret (.bin .add (.bin .add (.call 19 (.k (.v 0) (.k (.call 21 .e) (.k (.call 20 .e) .e)))) (.call 22 .e)) (.call 11 (.k (.i 0) (.k (.i 1) .e))))) .e)⟩
def zbr:Fn:=⟨1,1,AB,(.k (.ret (.bin .add (.call 19 (.k (.v 0) (.k (.call 21 .e) (.k (.call 7 (.k (.s "c") (.k (.cst zaJ) .e))) .e)))) (.call 11 (.k (.i 0) (.k (.i 1) .e))))) .e)⟩
def zez:Fn:=⟨3,3,AB,(.k (.ret (.bin .add (.call 6 (ya7 (.k (.s "c") (.k (.s "a") .e)) (yR [.inr 0]))) (.call 3 (.k (.tup (.k (.v 0) (.k (.i 0) (.k (.i 0) .e)))) (.k (.tup .e) (.k (.bin .add (.call 2 (.k (.lst (.k (.v 1) .e)) .e)) (.v 2)) .e)))))) .e)⟩
def zaV:Fn:=⟨0,1,AB,(.k (.asg (.n 0) (.call 0 (ya7 (.k (.s "c") (.k (.neg (.i 1)) .e)) (yR [.inr 0,.inl (.neg (.i 1)),.inl (.i 1)])))) (.k (.ret (.call 3 (.k (.cst zaJ) (.k (.tup .e) (.k (.call 2 (.k (.lst (.k (.tup (.k (.s "half") (.k (.v 0) (.k (.v 0) .e)))) .e)) .e)) .e))))) .e))⟩
def zbI:Fn:=⟨0,0,AB,(.k (.ret (.tup (.k (.s "twice") (.k (.cst zfH) (.k (.call 1 (.k (.s "c") .e)) .e))))) .e)⟩
def zb6:Fn:=⟨0,0,AB,(.k (.ret (.call 2 (.k (.lst (.k (.call 8 (.k (.idx (.cst zai) (.i 0)) .e)) .e)) .e))) .e)⟩
noncomputable def zcJ:Fn:=⟨1,1,AB,(.k (.ret (.call 25 (.k (.v 0) (.k (.cst (.bl AC)) .e)))) .e)⟩
noncomputable def zbY:Fn:=⟨1,1,AB,(.k (.ret (.call 25 (.k (.v 0) (.k (.cst (.bl AB)) .e)))) .e)⟩
def yP:Fn:=⟨2,4,AB,(.k (.ite (.or (.not (.call 26 (.k (.v 0) .e))) (.cmp .ne (.blt .len (.k (.v 0) .e)) (.bin .add (.blt .len (.k (.dix zae (.idx (.v 0) (.i 0))) .e)) (.i 1)))) (.k (.ret (.cst (.bl AC))) .e) .e) (.k (.for (.t [2,3]) (.zip (.dix zae (.idx (.v 0) (.i 0))) (.slc (.v 0) (.i 1) (.cst .non))) (.k (.ite (.not (.call 27 (.k (.v 2) (.k (.v 3) (.k (.v 1) .e))))) (.k (.ret (.cst (.bl AC))) .e) .e) .e)) (.k (.ret (.or (.cmp .ne (.idx (.v 0) (.i 0)) (.s "times")) (.cmp .ne (.idx (.v 0) (.i 1)) (.idx (.v 0) (.i 2))))) .e)))⟩
def zbn:Fn:=⟨1,1,AB,(.k (.ret (.and (.isi (.v 0) [.tuple]) (.and (.cmp .gt (.blt .len (.k (.v 0) .e)) (.i 0)) (.and (.isi (.idx (.v 0) (.i 0)) [.str]) (.din (.idx (.v 0) (.i 0)) zae))))) .e)⟩
noncomputable def zT:Fn:=⟨3,3,AB,(.k (.ite (.cmp .eq (.v 0) (.s "figure")) (.k (.ret (.call 12 (.k (.v 1) (.k (.i 0) (.k (.i 1) .e))))) .e) .e) (.k (.ret (.ite (.v 2) (.call 29 (.k (.v 1) .e)) (.call 28 (.k (.v 1) .e)))) .e))⟩
noncomputable def zbS:Fn:=⟨1,1,AB,(.k (.ret (.and (.call 30 (.k (.v 0) .e)) (.call 12 (.k (.idx (.v 0) (.i 1)) (.k (.i 0) (.k (.i 99) .e)))))) .e)⟩
noncomputable def zbt:Fn:=⟨1,1,AB,(.k (.ret (.and (.call 30 (.k (.v 0) .e)) (.call 14 (.k (.idx (.v 0) (.i 1)) (.k (.i 4) .e))))) .e)⟩
noncomputable def zah:Fn:=⟨1,1,AB,(.k (.ret (.and (.isi (.v 0) [.tuple]) (.and (.cmp .eq (.blt .len (.k (.v 0) .e)) (.i 2)) (.call 13 (.k (.idx (.v 0) (.i 0)) .e))))) .e)⟩
def zbW:Fn:=⟨1,1,AB,(.k (.ret (.and (.isi (.v 0) [.tuple]) (.and (.cmp .le (.blt .len (.k (.v 0) .e)) (.cst zeH)) (.blt .all (.k (.comp [AD] (.n 0) (.seq (.v 0)) (.cst (.bl AB)) (.call 33 (.k (.v 0) .e))) .e))))) .e)⟩
noncomputable def zbk:Fn:=⟨4,4,AB,(.k (.ret (.bin .add (.bin .add (.bin .add (.idx (.v 0) (.i 0)) (.bin .mul (.idx (.v 0) (.i 1)) (.v 2))) (.bin .mul (.idx (.v 0) (.i 2)) (.v 3))) (.bin .mul (.idx (.v 0) (.i 3)) (.v 1)))) .e)⟩
def zeY:Fn:=⟨1,4,AB,(.k (.ite (.or (.not (.isi (.v 0) [.tuple])) (.cmp .ne (.blt .len (.k (.v 0) .e)) (.i 3))) (.k (.ret (.cst (.bl AC))) .e) .e) (.k (.asg (.t [1,2,3]) (.v 0)) (.k (.ret (.and (.call 12 (.k (.v 1) (.k (.bin .sub (.i 1) (.cst zbs)) (.k (.bin .sub (.cst zbs) (.i 1)) .e)))) (.and (.call 14 (.k (.v 2) (.k (.i 6) .e))) (.call 34 (.k (.v 3) .e))))) .e)))⟩
def zct:Fn:=⟨1,1,AB,(.k (.ret (.and (.isi (.v 0) [.tuple]) (.and (.cmp .le (.blt .len (.k (.v 0) .e)) (.cst zeg)) (.blt .all (.k (.comp [AD] (.n 0) (.seq (.v 0)) (.cst (.bl AB)) (.call 35 (.k (.v 0) .e))) .e))))) .e)⟩
noncomputable def zdQ:Fn:=⟨1,1,AB,(.k (.ite (.or (.not (.isi (.v 0) [.tuple])) (.cmp .eq (.blt .len (.k (.v 0) .e)) (.i 0))) (.k (.ret (.cst (.bl AC))) .e) .e) (.k (.ite (.cmp .eq (.idx (.v 0) (.i 0)) (.s "mark")) (.k (.ret (.cmp .eq (.blt .len (.k (.v 0) .e)) (.i 1))) .e) .e) (.k (.ite (.or (.cmp .ne (.idx (.v 0) (.i 0)) (.s "slice")) (.or (.cmp .ne (.blt .len (.k (.v 0) .e)) (.i 4)) (.not (.call 13 (.k (.idx (.v 0) (.i 1)) .e))))) (.k (.ret (.cst (.bl AC))) .e) .e) (.k (.ret (.and (.call 14 (.k (.idx (.v 0) (.i 2)) (.k (.i 4) .e))) (.call 14 (.k (.idx (.v 0) (.i 3)) (.k (.i 4) .e))))) .e))))⟩
noncomputable def zO:Fn:=⟨3,3,AC,(.k (.sfl 20 (.v 0) (AF "w") (.v 1)) (.k (.sfl 20 (.v 0) (AF "n") (.v 2)) (.k (.sfl 20 (.v 0) (AF "steps") (.newl .e)) (.k (.sfl 20 (.v 0) (AF "rows") (.i 0)) (.k (.sfl 20 (.v 0) (AF "rounds") (.i 0)) .e)))))⟩
noncomputable def yh:Fn:=⟨3,4,AC,(.k (.for (.n 3) (.seq (.v 1)) (.k (.ite (.cmp .eq (.idx (.v 3) (.i 0)) (.s "row")) (.k (.expr (.mcl 20 40 (AF "add_row") (.v 0) (.k (.idx (.v 3) (.i 1)) (.k (.v 2) .e)))) .e) (.k (.expr (.mcl 20 38 (AF "go_rounds") (.v 0) (.k (.v 3) (.k (.v 2) .e)))) .e)) .e)) .e)⟩
noncomputable def yo:Fn:=⟨3,5,AC,(.k (.asg (.n 3) (.blt .max (.k (.i 0) (.k (.mcl 20 39 (AF "count_of") (.v 0) (.k (.idx (.v 1) (.i 1)) .e)) .e)))) (.k (.for (.n 4) (.range1 (.v 3)) (.k (.expr (.mcl 20 42 (AF "add_asked") (.v 0) (.k (.idx (.v 1) (.i 2)) (.k (.bin .add (.v 2) (.tup (.k (.v 4) .e))) .e)))) (.k (.expr (.mcl 20 41 (AF "add_round") (.v 0) .e)) (.k (.expr (.mcl 20 37 (AF "go_parts") (.v 0) (.k (.idx (.v 1) (.i 3)) (.k (.bin .add (.v 2) (.tup (.k (.v 4) .e))) .e)))) .e)))) (.k (.expr (.mcl 20 42 (AF "add_asked") (.v 0) (.k (.idx (.v 1) (.i 2)) (.k (.bin .add (.v 2) (.tup (.k (.v 3) .e))) .e)))) .e)))⟩
noncomputable def zz:Fn:=⟨2,5,AC,(.k (.asg (.t [2,3,4]) (.v 1)) (.k (.ret (.bin .add (.bin .add (.v 2) (.bin .mul (.v 3) (.fld 20 (.v 0) (AF "n")))) (.bin .mul (.bin .mul (.v 4) (.fld 20 (.v 0) (AF "w"))) (.fld 20 (.v 0) (AF "n"))))) .e))⟩
def zC:Fn:=⟨3,6,AC,(.k (.asg (.t [3,4]) (.call 48 (.k (.v 2) .e))) (.k (.asg (.n 5) (.blt .tuple (.k (.comp [AD,AA 3,AA 4,AA 0] (.n 0) (.seq (.v 1)) (.cst (.bl AB)) (.call 49 (.k (.v 0) (.k (.fld 20 (.v 3) (AF "n")) (.k (.v 1) (.k (.v 2) .e)))))) .e))) (.k (.sfl 20 (.v 0) (AF "rows") (.bin .add (.fld 20 (.v 0) (AF "rows")) (.i 1))) (.k (.ite (.or (.not (.call 23 (.k (.v 5) .e))) (.cmp .gt (.fld 20 (.v 0) (AF "rows")) (.cst zdh))) (.k .nope .e) .e) (.k (.expr (.mth .append (.fld 20 (.v 0) (AF "steps")) (.k (.tup (.k (.s "row") (.k (.v 5) .e))) .e))) .e)))))⟩
def zu:Fn:=⟨1,1,AC,(.k (.sfl 20 (.v 0) (AF "rounds") (.bin .add (.fld 20 (.v 0) (AF "rounds")) (.i 1))) (.k (.ite (.cmp .gt (.fld 20 (.v 0) (AF "rounds")) (.cst zbH)) (.k .nope .e) .e) .e))⟩
noncomputable def zy:Fn:=⟨3,5,AC,(.k (.asg (.t [3,4]) (.call 48 (.k (.v 2) .e))) (.k (.expr (.mth .append (.fld 20 (.v 0) (AF "steps")) (.k (.tup (.k (.s "asked") (.k (.v 1) (.k (.v 3) (.k (.v 4) .e))))) .e))) .e))⟩
def za3:Fn:=⟨1,1,AB,(.k (.ret (.call 46 (.k (.v 0) (.k (.cst zeu) .e)))) .e)⟩
noncomputable def zbh:Fn:=⟨3,3,AB,(.k (.ret (.blt .tuple (.k (.comp [AD] (.n 0) (.seq (.call 45 (.k (.v 0) (.k (.v 1) (.k (.v 2) .e))))) (.cmp .eq (.idx (.v 0) (.i 0)) (.s "row")) (.idx (.v 0) (.i 1))) .e))) .e)⟩
noncomputable def zbb:Fn:=⟨3,4,AB,(.k (.ite (.not (.call 43 (.k (.v 0) .e))) (.k .nope .e) .e) (.k (.asg (.n 3) (.new 20 36 (.k (.v 1) (.k (.v 2) .e)))) (.k (.expr (.mcl 20 37 (AF "go_parts") (.v 3) (.k (.v 0) (.k (.tup .e) .e)))) (.k (.ret (.frz (.fld 20 (.v 3) (AF "steps")))) .e))))⟩
noncomputable def zc0:Fn:=⟨2,2,AB,(.k (.ret (.and (.isi (.v 0) [.tuple]) (.blt .all (.k (.comp [AD,AA 1] (.n 0) (.seq (.v 0)) (.cst (.bl AB)) (.call 47 (.k (.v 0) (.k (.v 1) .e)))) .e)))) .e)⟩
noncomputable def zeN:Fn:=⟨2,2,AB,(.k (.ite (.or (.not (.isi (.v 0) [.tuple])) (.cmp .eq (.blt .len (.k (.v 0) .e)) (.i 0))) (.k (.ret (.cst (.bl AC))) .e) .e) (.k (.ite (.cmp .eq (.idx (.v 0) (.i 0)) (.s "row")) (.k (.ret (.and (.cmp .eq (.blt .len (.k (.v 0) .e)) (.i 2)) (.call 24 (.k (.idx (.v 0) (.i 1)) .e)))) .e) .e) (.k (.ite (.or (.cmp .ne (.idx (.v 0) (.i 0)) (.s "rounds")) (.or (.cmp .ne (.blt .len (.k (.v 0) .e)) (.i 4)) (.cmp .eq (.v 1) (.i 0)))) (.k (.ret (.cst (.bl AC))) .e) .e) (.k (.ret (.and (.call 14 (.k (.idx (.v 0) (.i 1)) (.k (.i 3) .e))) (.and (.call 31 (.k (.idx (.v 0) (.i 2)) .e)) (.call 46 (.k (.idx (.v 0) (.i 3)) (.k (.bin .sub (.v 1) (.i 1)) .e)))))) .e))))⟩
noncomputable def zau:Fn:=⟨1,1,AB,(.k (.ret (.slc (.bin .add (.v 0) (.tup (.k (.i 0) (.k (.i 0) .e)))) (.cst .non) (.i 2))) .e)⟩
noncomputable def zaG:Fn:=⟨4,4,AB,(.k (.ite (.not (.isi (.v 0) [.tuple])) (.k (.ret (.v 0)) .e) .e) (.k (.ret (.tup (.k (.idx (.v 0) (.i 0)) (.k (.call 32 (.k (.idx (.v 0) (.i 1)) (.k (.v 1) (.k (.v 2) (.k (.v 3) .e))))) .e)))) .e))⟩
def zdd:Fn:=⟨1,1,AB,(.k (.ite (.not (.call 52 (.k (.v 0) .e))) (.k .nope .e) .e) (.k (.ite (.cmp .eq (.idx (.v 0) (.i 0)) (.s "led")) (.k .nope .e) .e) (.k (.ite (.cmp .isin (.idx (.v 0) (.i 0)) (.cst zbM)) (.k (.ret (.call 55 (.k (.idx (.v 0) (.i 0)) (.k (.idx (.v 0) (.i 1)) .e)))) .e) .e) (.k .nope (.k .nope .e)))))⟩
noncomputable def zav:Fn:=⟨3,3,AB,(.k (.ret (.call 44 (.k (.call 50 (.k (.v 0) .e)) (.k (.v 1) (.k (.v 2) .e))))) .e)⟩
def zeV:Fn:=⟨1,1,AB,(.k (.ite (.or (.not (.isi (.v 0) [.tuple])) (.cmp .eq (.blt .len (.k (.v 0) .e)) (.i 0))) (.k .nope .e) .e) (.k (.ite (.cmp .eq (.idx (.v 0) (.i 0)) (.s "led")) (.k .nope .e) .e) (.k (.ite (.cmp .isin (.idx (.v 0) (.i 0)) (.cst zbM)) (.k (.ret (.and (.cmp .eq (.blt .len (.k (.v 0) .e)) (.i 2)) (.call 12 (.k (.idx (.v 0) (.i 1)) (.k (.i 0) (.k (.i 100) .e)))))) .e) .e) (.k .nope .e))))⟩
def zE:Fn:=⟨2,2,AB,(.k (.ite (.cmp .eq (.idx (.v 0) (.i 0)) (.s "compare")) (.k .nope .e) .e) (.k (.ite (.cmp .eq (.idx (.v 0) (.i 0)) (.s "led")) (.k .nope .e) .e) (.k (.ret (.ite (.cmp .isin (.idx (.v 0) (.i 0)) (.cst zcn)) (.bin .mul (.i 2) (.v 1)) (.v 1))) .e)))⟩
def zV:Fn:=⟨2,2,AB,(.k (.ret (.ite (.cmp .isin (.idx (.v 0) (.i 0)) (.cst zas)) (.v 1) (.i 0))) .e)⟩
noncomputable def za2:Fn:=⟨2,2,AB,(.k (.ite (.cmp .eq (.v 0) (.s "left")) (.k (.ret (.call 15 (.k (.v 1) .e))) .e) .e) (.k (.ite (.cmp .eq (.v 0) (.s "right")) (.k (.ret (.call 16 (.k (.v 1) .e))) .e) .e) (.k (.ite (.cmp .eq (.v 0) (.s "down")) (.k (.ret (.call 17 (.k (.v 1) .e))) .e) .e) (.k (.ret (.call 18 (.k (.v 1) .e))) .e))))⟩
noncomputable def zbe:Fn:=⟨3,3,AB,(.k (.ite (.or (.cmp .lt (.v 0) (.i 0)) (.cmp .ge (.v 0) (.bin .shl (.i 1) (.bin .mul (.v 1) (.v 2))))) (.k .nope .e) .e) (.k (.ret (.call 58 (.k (.v 0) (.k (.v 1) (.k (.v 2) .e))))) .e))⟩
noncomputable def zcb:Fn:=⟨2,2,AB,(.k (.ret (.bin .shr (.idx (.v 0) (.neg (.i 1))) (.bin .sub (.v 1) (.i 1)))) .e)⟩
noncomputable def z7:Fn:=⟨3,4,AB,(.k (.asg (.n 3) (.bin .sub (.bin .shl (.i 1) (.v 1)) (.i 1))) (.k (.ret (.blt .tuple (.k (.comp [AD,AA 3,AA 0,AA 1] (.n 0) (.range1 (.v 2)) (.cst (.bl AB)) (.bin .band (.bin .shr (.v 2) (.bin .mul (.v 3) (.v 0))) (.v 1))) .e))) .e))⟩
noncomputable def ybb:Fn:=⟨5,10,AB,(.k (.expr (.call 60 (.k (.v 0) (.k (.v 1) (.k (.v 2) (.k (.v 3) (.k (.v 4) .e))))))) (.k (.ite (.cmp .eq (.idx (.v 0) (.i 0)) (.s "compare")) (.k .nope .e) .e) (.k (.asg (.t [5,6,7]) (.call 61 (.k (.v 0) (.k (.v 1) (.k (.v 2) (.k (.v 3) (.k (.v 4) .e))))))) (.k (.asg (.n 8) (.call 58 (.k (.v 5) (.k (.v 1) (.k (.call 53 (.k (.v 0) (.k (.v 2) .e))) .e))))) (.k (.asg (.n 9) (.call 58 (.k (.bin .sub (.v 3) (.bin .mul (.v 4) (.v 5))) (.k (.v 1) (.k (.call 54 (.k (.v 0) (.k (.v 2) .e))) .e))))) (.k (.ret (.tup (.k (.v 8) (.k (.v 9) (.k (.tup (.k (.v 6) (.k (.v 7) (.k (.ite (.blt .any (.k (.v 8) .e)) (.i 0) (.i 1)) (.k (.call 57 (.k (.v 8) (.k (.v 1) .e))) .e))))) .e))))) .e))))))⟩
def zak:Fn:=⟨5,5,AB,(.k (.ite (.not (.call 52 (.k (.v 0) .e))) (.k .nope .e) .e) (.k (.expr (.call 56 (.k (.v 3) (.k (.v 1) (.k (.v 2) .e))))) (.k (.expr (.call 56 (.k (.v 4) (.k (.v 1) (.k (.v 2) .e))))) (.k (.ite (.and (.cmp .ne (.v 4) (.i 0)) (.not .nope)) (.k .nope .e) .e) (.k (.ite (.and (.cmp .eq (.v 4) (.i 0)) (.cmp .isin (.idx (.v 0) (.i 0)) (.cst zas))) (.k .nope .e) .e) .e)))))⟩
def yaz:Fn:=⟨5,6,AB,(.k (.ite (.cmp .eq (.idx (.v 0) (.i 0)) (.s "led")) (.k .nope .e) .e) (.k (.mkr 5 zbl (.idx (.v 0) (.i 0)) (.k (.v 3) (.k (.ite (.cmp .isin (.idx (.v 0) (.i 0)) (.cst zbM)) (.idx (.v 0) (.i 1)) (.v 4)) (.k (.bin .mul (.v 1) (.v 2)) .e)))) .e))⟩
noncomputable def z6:Fn:=⟨2,2,AB,(.k (.ret (.bin .sub (.v 0) (.bin .shl (.bin .shr (.v 0) (.bin .sub (.v 1) (.i 1))) (.v 1)))) .e)⟩
noncomputable def zht:Fn:=⟨2,3,AB,(.k (.asg (.n 2) (.bin .shl (.i 1) (.bin .sub (.v 1) (.i 1)))) (.k (.ret (.ite (.chain .le .lt (.neg (.v 2)) (.v 0) (.v 2)) (.i 0) (.i 1))) .e))⟩
noncomputable def zba:Fn:=⟨3,3,AB,(.k (.ret (.tup (.k (.bin .add (.v 0) (.v 1)) (.k (.bin .shr (.bin .add (.v 0) (.v 1)) (.v 2)) (.k (.call 63 (.k (.bin .add (.call 62 (.k (.v 0) (.k (.v 2) .e))) (.call 62 (.k (.v 1) (.k (.v 2) .e)))) (.k (.v 2) .e))) .e))))) .e)⟩
noncomputable def zax:Fn:=⟨3,3,AB,(.k (.ret (.tup (.k (.bin .sub (.v 0) (.v 1)) (.k (.blt .int (.k (.cmp .lt (.v 0) (.v 1)) .e)) (.k (.call 63 (.k (.bin .sub (.call 62 (.k (.v 0) (.k (.v 2) .e))) (.call 62 (.k (.v 1) (.k (.v 2) .e)))) (.k (.v 2) .e))) .e))))) .e)⟩
noncomputable def zgg:Fn:=⟨3,3,AB,(.k (.ret (.call 65 (.k (.i 0) (.k (.v 0) (.k (.v 2) .e))))) .e)⟩
noncomputable def zaO:Fn:=⟨3,3,AB,(.k (.ret (.tup (.k (.bin .band (.v 0) (.v 1)) (.k (.i 0) (.k (.i 0) .e))))) .e)⟩
noncomputable def zaR:Fn:=⟨3,3,AB,(.k (.ret (.tup (.k (.bin .bor (.v 0) (.v 1)) (.k (.i 0) (.k (.i 0) .e))))) .e)⟩
noncomputable def zaT:Fn:=⟨3,3,AB,(.k (.ret (.tup (.k (.bin .bxor (.v 0) (.v 1)) (.k (.i 0) (.k (.i 0) .e))))) .e)⟩
noncomputable def zbv:Fn:=⟨3,3,AB,(.k (.ret (.tup (.k (.bin .sub (.neg (.i 1)) (.v 0)) (.k (.i 0) (.k (.i 0) .e))))) .e)⟩
noncomputable def zaz:Fn:=⟨3,3,AB,(.k (.ret (.tup (.k (.bin .shl (.v 0) (.v 1)) (.k (.bin .band (.bin .shr (.bin .shl (.v 0) (.v 1)) (.v 2)) (.i 1)) (.k (.i 0) .e))))) .e)⟩
noncomputable def zam:Fn:=⟨3,3,AB,(.k (.ret (.tup (.k (.bin .shr (.v 0) (.v 1)) (.k (.bin .band (.bin .shr (.bin .mul (.i 2) (.v 0)) (.v 1)) (.i 1)) (.k (.i 0) .e))))) .e)⟩
noncomputable def zay:Fn:=⟨3,3,AB,(.k (.ret (.call 72 (.k (.call 62 (.k (.v 0) (.k (.v 2) .e))) (.k (.v 1) (.k (.v 2) .e))))) .e)⟩
noncomputable def zcC:Fn:=⟨3,4,AB,(.k (.asg (.n 3) (.bin .mod (.v 1) (.v 2))) (.k (.ret (.tup (.k (.bin .bor (.bin .shl (.v 0) (.v 3)) (.bin .shr (.v 0) (.bin .sub (.v 2) (.v 3)))) (.k (.i 0) (.k (.i 0) .e))))) .e))⟩
noncomputable def zcs:Fn:=⟨3,3,AB,(.k (.ret (.tup (.k (.bin .mul (.v 0) (.v 1)) (.k (.i 0) (.k (.ite (.cmp .eq (.bin .shr (.bin .mul (.v 0) (.v 1)) (.v 2)) (.i 0)) (.i 0) (.i 1)) .e))))) .e)⟩
noncomputable def zar:Fn:=⟨3,4,AB,(.k (.asg (.n 3) (.bin .mul (.call 62 (.k (.v 0) (.k (.v 2) .e))) (.call 62 (.k (.v 1) (.k (.v 2) .e))))) (.k (.ret (.tup (.k (.v 3) (.k (.i 0) (.k (.call 63 (.k (.v 3) (.k (.v 2) .e))) .e))))) .e))⟩
noncomputable def zeS:Fn:=⟨3,3,AB,(.k (.ret (.tup (.k (.bin .fdiv (.v 0) (.v 1)) (.k (.i 0) (.k (.i 0) .e))))) .e)⟩
noncomputable def zaP:Fn:=⟨3,6,AB,(.k (.asg (.t [3,4]) (.tup (.k (.call 62 (.k (.v 0) (.k (.v 2) .e))) (.k (.call 62 (.k (.v 1) (.k (.v 2) .e))) .e)))) (.k (.asg (.n 5) (.bin .fdiv (.blt .abs (.k (.v 3) .e)) (.blt .abs (.k (.v 4) .e)))) (.k (.ite (.cmp .ne (.cmp .lt (.v 3) (.i 0)) (.cmp .lt (.v 4) (.i 0))) (.k (.asg (.n 5) (.neg (.v 5))) .e) .e) (.k (.ret (.tup (.k (.v 5) (.k (.i 0) (.k (.call 63 (.k (.v 5) (.k (.v 2) .e))) .e))))) .e))))⟩
def zf4:Fn:=⟨5,6,AB,(.k (.mkr 5 zM (.v 0) (.k (.v 1) (.k (.v 2) (.k (.v 3) (.k (.v 4) .e))))) .e)⟩
noncomputable def zb2:Fn:=⟨1,1,AB,(.k (.ret (.bin .sub (.bin .shl (.i 1) (.v 0)) (.i 1))) .e)⟩
noncomputable def zer:Fn:=⟨4,4,AB,(.k (.ret (.tup (.k (.v 1) (.k (.v 3) .e)))) .e)⟩
noncomputable def zd7:Fn:=⟨4,4,AB,(.k (.ret (.tup (.k (.bin .sub (.call 80 (.k (.v 0) .e)) (.v 1)) (.k (.v 3) .e)))) .e)⟩
noncomputable def zcI:Fn:=⟨4,5,AB,(.k (.asg (.n 4) (.bin .add (.bin .add (.v 1) (.v 2)) (.v 3))) (.k (.ret (.tup (.k (.bin .band (.v 4) (.call 80 (.k (.v 0) .e))) (.k (.bin .shr (.v 4) (.v 0)) .e)))) .e))⟩
noncomputable def z8:Fn:=⟨4,5,AB,(.k (.asg (.n 4) (.bin .sub (.bin .sub (.v 1) (.v 2)) (.v 3))) (.k (.ret (.tup (.k (.bin .band (.v 4) (.call 80 (.k (.v 0) .e))) (.k (.ite (.cmp .lt (.v 4) (.i 0)) (.i 1) (.i 0)) .e)))) .e))⟩
noncomputable def zbK:Fn:=⟨4,4,AB,(.k (.ret (.tup (.k (.bin .band (.v 1) (.v 2)) (.k (.v 3) .e)))) .e)⟩
noncomputable def zcw:Fn:=⟨4,4,AB,(.k (.ret (.tup (.k (.bin .bor (.v 1) (.v 2)) (.k (.v 3) .e)))) .e)⟩
noncomputable def zcy:Fn:=⟨4,4,AB,(.k (.ret (.tup (.k (.bin .bxor (.v 1) (.v 2)) (.k (.v 3) .e)))) .e)⟩
noncomputable def zbZ:Fn:=⟨4,4,AB,(.k (.ret (.call 83 (.k (.v 0) (.k (.v 1) (.k (.v 1) (.k (.v 3) .e)))))) .e)⟩
noncomputable def zcB:Fn:=⟨4,4,AB,(.k (.ret (.tup (.k (.bin .bor (.bin .shr (.v 1) (.i 1)) (.bin .shl (.v 3) (.bin .sub (.v 0) (.i 1)))) (.k (.bin .band (.v 1) (.i 1)) .e)))) .e)⟩
noncomputable def zF:Fn:=⟨2,2,AC,(.k (.sfl 21 (.v 0) (AF "w") (.v 1)) (.k (.sfl 21 (.v 0) (AF "words") (.dict0 AB)) (.k (.sfl 21 (.v 0) (AF "marked") (.i 0)) .e)))⟩
noncomputable def zag:Fn:=⟨4,5,AC,(.k (.asg (.n 4) (.call 97 (.k (.v 1) (.k (.v 2) .e)))) (.k (.ite (.not (.call 12 (.k (.v 3) (.k (.i 0) (.k (.call 80 (.k (.fld 21 (.v 0) (AF "w")) .e)) .e))))) (.k .nope .e) .e) (.k (.dput (.fld 21 (.v 0) (AF "words")) (.v 4) (.v 3)) .e)))⟩
noncomputable def z5:Fn:=⟨3,3,AC,(.k (.ret (.mcl 21 94 (AF "held_in") (.v 0) (.k (.call 97 (.k (.v 1) (.k (.v 2) .e))) .e))) .e)⟩
noncomputable def yC:Fn:=⟨2,3,AC,(.k (.for (.n 2) (.seq (.v 1)) (.k (.expr (.call 98 (.k (.v 2) .e))) .e)) (.k (.for (.n 2) (.seq (.v 1)) (.k (.expr (.mcl 21 95 (AF "go_row") (.v 0) (.k (.v 2) .e))) .e)) .e))⟩
noncomputable def zJ:Fn:=⟨2,2,AC,(.k (.ret (.mth .get (.fld 21 (.v 0) (AF "words")) (.k (.v 1) (.k (.i 0) .e)))) .e)⟩
def zj:Fn:=⟨2,2,AC,(.k (.ite (.cmp .eq (.idx (.v 1) (.i 0)) (.s "mark")) (.k (.sfl 21 (.v 0) (AF "marked") (.idx (.v 1) (.i 1))) .e) (.k (.ite (.cmp .eq (.idx (.v 1) (.i 0)) (.s "ask")) (.k (.sfl 21 (.v 0) (AF "marked") (.ite (.cmp .eq (.mcl 21 94 (AF "held_in") (.v 0) (.k (.idx (.v 1) (.i 1)) .e)) (.i 0)) (.i 0) (.i 1))) .e) (.k (.ite (.cmp .eq (.idx (.v 1) (.i 0)) (.s "set")) (.k (.dput (.fld 21 (.v 0) (AF "words")) (.idx (.v 1) (.i 1)) (.idx (.v 1) (.i 2))) .e) (.k (.ite (.cmp .eq (.idx (.v 1) (.i 0)) (.s "times")) (.k .nope .e) (.k (.expr (.mcl 21 96 (AF "go_made") (.v 0) (.k (.v 1) .e))) .e)) .e)) .e)) .e)) .e)⟩
noncomputable def zK:Fn:=⟨2,6,AC,(.k (.asg (.t [2,3]) (.tup (.k (.mcl 21 94 (AF "held_in") (.v 0) (.k (.idx (.v 1) (.i 2)) .e)) (.k (.mcl 21 94 (AF "held_in") (.v 0) (.k (.idx (.v 1) (.neg (.i 1))) .e)) .e)))) (.k (.asg (.t [4,5]) (.call 79 (.k (.idx (.v 1) (.i 0)) (.k (.fld 21 (.v 0) (AF "w")) (.k (.v 2) (.k (.v 3) (.k (.fld 21 (.v 0) (AF "marked")) .e))))))) (.k (.dput (.fld 21 (.v 0) (AF "words")) (.idx (.v 1) (.i 1)) (.v 4)) (.k (.sfl 21 (.v 0) (AF "marked") (.v 5)) .e))))⟩
noncomputable def za8:Fn:=⟨2,2,AB,(.k (.ite (.not (.call 28 (.k (.tup (.k (.v 0) (.k (.v 1) .e))) .e))) (.k .nope .e) .e) (.k (.ret (.tup (.k (.v 0) (.k (.v 1) .e)))) .e))⟩
noncomputable def zab:Fn:=⟨1,1,AB,(.k (.ite (.not (.call 23 (.k (.v 0) .e))) (.k .nope .e) .e) .e)⟩
def ycn:Fn:=⟨5,7,AB,(.k (.expr (.call 60 (.k (.v 0) (.k (.v 1) (.k (.v 2) (.k (.v 3) (.k (.v 4) .e))))))) (.k (.asg (.n 5) (.call 100 (.k (.v 1) (.k (.v 2) (.k (.v 3) (.k (.v 4) .e)))))) (.k (.expr (.mcl 21 93 (AF "run") (.v 5) (.k (.call 51 (.k (.v 0) (.k (.v 1) (.k (.v 2) .e)))) .e))) (.k (.asg (.n 6) (.call 101 (.k (.v 5) (.k (.s "c") (.k (.call 53 (.k (.v 0) (.k (.v 2) .e))) .e))))) (.k (.ret (.tup (.k (.v 6) (.k (.call 101 (.k (.v 5) (.k (.s "d") (.k (.call 54 (.k (.v 0) (.k (.v 2) .e))) .e)))) (.k (.call 101 (.k (.v 5) (.k (.s "m") (.k (.cst zcq) .e)))) .e))))) .e)))))⟩
def yt:Fn:=⟨4,9,AC,(.k (.asg (.n 4) (.new 21 90 (.k (.v 0) .e))) (.k (.for (.t [5,6]) (.seq (.tup (.k (.tup (.k (.s "a") (.k (.v 2) .e))) (.k (.tup (.k (.s "b") (.k (.v 3) .e))) .e)))) (.k (.for (.t [7,8]) (.enum (.call 58 (.k (.v 6) (.k (.v 0) (.k (.v 1) .e))))) (.k (.expr (.mcl 21 91 (AF "put") (.v 4) (.k (.v 5) (.k (.v 7) (.k (.v 8) .e))))) .e)) .e)) (.k (.ret (.v 4)) .e)))⟩
noncomputable def yas:Fn:=⟨3,3,AC,(.k (.ret (.blt .tuple (.k (.comp [AD,AA 1,AA 0] (.n 0) (.range1 (.v 2)) (.cst (.bl AB)) (.mcl 21 92 (AF "word") (.v 2) (.k (.v 1) (.k (.v 0) .e)))) .e))) .e)⟩
noncomputable def zcH:Fn:=⟨1,1,AC,(.k (.ret (.newl (.k (.slc (.v 0) (.cst .non) (.i 63)) (.k (.i 0) (.k (.i 0) (.k (.cst (.bl AC)) .e)))))) .e)⟩
noncomputable def yaA:Fn:=⟨1,8,AB,(.k (.asg (.n 1) (.tup (.k (.i 2147483647) (.k (.i 2147483629) (.k (.i 2147483587) (.k (.i 2147483579) (.k (.i 2147483563) .e))))))) (.k (.asg (.n 2) (.i 0)) (.k (.for (.t [3,4]) (.enum (.v 1)) (.k (.asg (.n 5) (.bin .add (.v 0) (.idx (.tup (.k (.i 11) (.k (.i 101) (.k (.i 1009) (.k (.i 10007) (.k (.i 100003) .e)))))) (.v 3)))) (.k (.asg (.n 5) (.bin .mod (.bin .mul (.v 5) (.bin .add (.i 48271) (.bin .mul (.i 2) (.v 3)))) (.v 4))) (.k (.asg (.n 6) (.bin .mod (.bin .mul (.v 5) (.v 5)) (.v 4))) (.k (.asg (.n 7) (.bin .mod (.bin .mul (.bin .mod (.bin .mul (.v 6) (.v 6)) (.v 4)) (.v 5)) (.v 4))) (.k (.asg (.n 2) (.bin .add (.bin .mul (.v 2) (.v 4)) (.v 7))) .e)))))) (.k (.ret (.v 2)) .e))))⟩
noncomputable def yam:Fn:=⟨1,4,AC,(.k (.asg (.t [1,2]) (.tup (.k (.idx (.v 0) (.i 0)) (.k (.idx (.v 0) (.i 1)) .e)))) (.k (.asg (.n 3) (.bin .add (.bin .mul (.i 31) (.v 2)) (.i 7))) (.k (.ite (.cmp .gt (.blt .len (.k (.v 1) .e)) (.i 0)) (.k (.asg (.n 3) (.bin .mul (.i 104729) (.bin .fdiv (.v 2) (.blt .len (.k (.v 1) .e))))) (.k (.asg (.n 3) (.bin .add (.v 3) (.idx (.v 1) (.bin .mod (.v 2) (.blt .len (.k (.v 1) .e)))))) .e)) .e) (.k (.six (.v 0) (.i 1) (.bin .add (.v 2) (.i 1))) (.k (.six (.v 0) (.i 3) (.or (.cmp .ge (.v 2) (.blt .len (.k (.v 1) .e))) (.cmp .lt (.v 3) (.bin .pow (.i 10) (.i 18))))) (.k (.ite (.idx (.v 0) (.i 3)) (.k (.six (.v 0) (.i 2) (.call 103 (.k (.v 3) .e))) .e) (.k (.six (.v 0) (.i 2) (.bin .sub (.v 3) (.bin .pow (.i 10) (.i 18)))) .e)) .e))))))⟩
noncomputable def yZ:Fn:=⟨2,4,AC,(.k (.asg (.n 2) (.i 0)) (.k (.while (.and (.cmp .lt (.v 2) (.i 64)) (.or (.cmp .eq (.idx (.v 0) (.i 2)) (.i 0)) (.and (.idx (.v 0) (.i 3)) (.cmp .lt (.idx (.v 0) (.i 2)) (.bin .mul (.v 1) (.i 4096)))))) (.k (.expr (.call 104 (.k (.v 0) .e))) (.k (.aug 2 .add (.i 1)) (.k (.ite (.and (.idx (.v 0) (.i 3)) (.cmp .lt (.idx (.v 0) (.i 2)) (.bin .mul (.v 1) (.i 4096)))) (.k (.six (.v 0) (.i 2) (.bin .add (.idx (.v 0) (.i 2)) (.bin .mul (.bin .mul (.v 1) (.i 4096)) (.bin .add (.i 1) (.bin .mod (.idx (.v 0) (.i 2)) (.i 4093)))))) .e) .e) .e)))) (.k (.asg (.n 3) (.bin .mod (.idx (.v 0) (.i 2)) (.v 1))) (.k (.six (.v 0) (.i 2) (.bin .fdiv (.idx (.v 0) (.i 2)) (.v 1))) (.k (.ret (.v 3)) .e)))))⟩
noncomputable def zcK:Fn:=⟨2,2,AC,(.k (.ret (.tup (.k (.bin .add (.i 4) (.call 105 (.k (.v 0) (.k (.i 13) .e)))) (.k (.bin .add (.i 1) (.call 105 (.k (.v 0) (.k (.v 1) .e)))) .e)))) .e)⟩
noncomputable def yU:Fn:=⟨3,13,AC,(.k (.asg (.n 3) (.call 105 (.k (.v 0) (.k (.i 12) .e)))) (.k (.asg (.n 4) (.i 1)) (.k (.for (.n 5) (.range1 (.bin .mul (.v 1) (.v 2))) (.k (.asg (.n 4) (.bin .mul (.i 2) (.v 4))) .e)) (.k (.asg (.n 6) (.tup (.k (.i 0) (.k (.i 1) (.k (.bin .sub (.v 4) (.i 1)) (.k (.bin .fdiv (.v 4) (.i 2)) (.k (.bin .sub (.bin .fdiv (.v 4) (.i 2)) (.i 1)) (.k (.bin .sub (.v 4) (.i 2)) .e)))))))) (.k (.ite (.cmp .lt (.v 3) (.i 6)) (.k (.ret (.idx (.v 6) (.v 3))) .e) .e) (.k (.asg (.n 7) (.call 105 (.k (.v 0) (.k (.v 4) .e)))) (.k (.ite (.cmp .eq (.v 3) (.i 6)) (.k (.asg (.n 8) (.i 1)) (.k (.for (.n 5) (.range1 (.call 105 (.k (.v 0) (.k (.bin .mul (.v 1) (.v 2)) .e)))) (.k (.asg (.n 8) (.bin .mul (.i 2) (.v 8))) .e)) (.k (.ret (.bin .mul (.bin .fdiv (.v 7) (.v 8)) (.v 8))) .e))) .e) (.k (.ite (.cmp .eq (.v 3) (.i 7)) (.k (.asg (.n 8) (.i 1)) (.k (.for (.n 5) (.range1 (.call 105 (.k (.v 0) (.k (.bin .mul (.v 1) (.v 2)) .e)))) (.k (.asg (.n 8) (.bin .mul (.i 2) (.v 8))) .e)) (.k (.ret (.bin .sub (.v 4) (.v 8))) .e))) .e) (.k (.ite (.cmp .gt (.v 3) (.i 9)) (.k (.ret (.v 7)) .e) .e) (.k (.asg (.n 9) (.i 1)) (.k (.for (.n 5) (.range1 (.v 1)) (.k (.asg (.n 9) (.bin .mul (.i 2) (.v 9))) .e)) (.k (.asg (.n 10) (.i 0)) (.k (.for (.n 5) (.range1 (.v 2)) (.k (.asg (.n 11) (.bin .mod (.bin .fdiv (.v 7) (.bin .add (.v 5) (.i 1))) (.v 9))) (.k (.asg (.n 12) (.tup (.k (.i 0) (.k (.i 1) (.k (.bin .sub (.v 9) (.i 1)) (.k (.bin .fdiv (.v 9) (.i 2)) (.k (.v 11) .e))))))) (.k (.asg (.n 10) (.bin .add (.bin .mul (.v 10) (.v 9)) (.idx (.v 12) (.call 105 (.k (.v 0) (.k (.i 5) .e)))))) .e)))) (.k (.ret (.v 10)) .e))))))))))))))⟩
noncomputable def zbT:Fn:=⟨1,3,AB,(.k (.asg (.n 1) (.i 1)) (.k (.for (.n 2) (.range1 (.v 0)) (.k (.asg (.n 1) (.bin .mul (.i 2) (.v 1))) .e)) (.k (.ret (.v 1)) .e)))⟩
noncomputable def zcE:Fn:=⟨3,6,AB,(.k (.asg (.n 3) (.call 108 (.k (.v 1) .e))) (.k (.asg (.n 4) (.newl .e)) (.k (.for (.n 5) (.range1 (.v 2)) (.k (.expr (.mth .append (.v 4) (.k (.bin .mod (.v 0) (.v 3)) .e))) (.k (.asg (.n 0) (.bin .fdiv (.v 0) (.v 3))) .e))) (.k (.ret (.blt .tuple (.k (.v 4) .e))) .e))))⟩
noncomputable def zb3:Fn:=⟨2,3,AB,(.k (.asg (.n 2) (.call 108 (.k (.v 1) .e))) (.k (.ite (.cmp .ge (.bin .mul (.i 2) (.v 0)) (.v 2)) (.k (.ret (.bin .sub (.v 0) (.v 2))) .e) .e) (.k (.ret (.v 0)) .e)))⟩
noncomputable def zcx:Fn:=⟨1,1,AB,(.k (.ret (.and (.isi (.v 0) [.int]) (.not (.isi (.v 0) [.bool])))) .e)⟩
noncomputable def zbJ:Fn:=⟨3,3,AB,(.k (.ite (.or (.not (.isi (.v 0) [.tuple])) (.cmp .ne (.blt .len (.k (.v 0) .e)) (.v 1))) (.k .nope .e) .e) (.k (.ret (.blt .all (.k (.comp [AD,AA 2] (.n 0) (.seq (.v 0)) (.cst (.bl AB)) (.and (.call 111 (.k (.v 0) .e)) (.chain .le .le (.bin .sub (.i 0) (.v 1)) (.v 0) (.v 1)))) .e))) .e))⟩
noncomputable def zbN:Fn:=⟨3,3,AB,(.k (.ite (.or (.not (.isi (.v 0) [.tuple])) (.or (.cmp .ne (.blt .len (.k (.v 0) .e)) (.v 2)) (.not (.blt .all (.k (.comp [AD] (.n 0) (.seq (.v 0)) (.cst (.bl AB)) (.call 111 (.k (.v 0) .e))) .e))))) (.k .nope .e) .e) (.k (.ret (.blt .all (.k (.comp [AD,AA 1] (.n 0) (.seq (.v 0)) (.cst (.bl AB)) (.chain .le .lt (.i 0) (.v 0) (.call 108 (.k (.v 1) .e)))) .e))) .e))⟩
noncomputable def zd9:Fn:=⟨2,2,AB,(.k (.ret (.tup (.k (.blt .int (.k (.cmp .eq (.v 0) (.i 0)) .e)) (.k (.blt .int (.k (.cmp .ge (.bin .mul (.i 2) (.v 0)) (.call 108 (.k (.v 1) .e))) .e)) .e)))) .e)⟩
noncomputable def yr:Fn:=⟨4,6,AB,(.k (.ite (.cmp .eq (.v 0) (.s "left")) (.k (.asg (.n 4) (.i 0)) (.k (.ite (.chain .lt .le (.i 0) (.v 1) (.v 2)) (.k (.asg (.n 4) (.bin .mod (.bin .fdiv (.v 3) (.call 108 (.k (.bin .sub (.v 2) (.v 1)) .e))) (.i 2))) .e) .e) (.k (.ret (.tup (.k (.bin .mul (.v 3) (.call 108 (.k (.v 1) .e))) (.k (.v 4) .e)))) .e))) .e) (.k (.ite (.cmp .eq (.v 0) (.s "roll")) (.k (.asg (.n 5) (.bin .mod (.v 1) (.v 2))) (.k (.ret (.tup (.k (.bin .add (.bin .mul (.v 3) (.call 108 (.k (.v 5) .e))) (.bin .fdiv (.v 3) (.call 108 (.k (.bin .sub (.v 2) (.v 5)) .e)))) (.k (.i 0) .e)))) .e)) .e) (.k (.ite (.cmp .eq (.v 0) (.s "down")) (.k (.asg (.n 3) (.call 110 (.k (.v 3) (.k (.v 2) .e)))) .e) .e) (.k (.asg (.n 4) (.i 0)) (.k (.ite (.cmp .gt (.v 1) (.i 0)) (.k (.asg (.n 4) (.bin .mod (.bin .fdiv (.v 3) (.call 108 (.k (.bin .sub (.v 1) (.i 1)) .e))) (.i 2))) .e) .e) (.k (.ret (.tup (.k (.bin .fdiv (.v 3) (.call 108 (.k (.v 1) .e))) (.k (.v 4) .e)))) .e))))))⟩
noncomputable def za7:Fn:=⟨3,5,AC,(.k (.asg (.n 3) (.bin .mul (.v 1) (.v 2))) (.k (.asg (.n 4) (.call 105 (.k (.v 0) (.k (.i 12) .e)))) (.k (.ite (.cmp .lt (.v 4) (.i 8)) (.k (.ret (.blt .min (.k (.i 100) (.k (.idx (.tup (.k (.i 0) (.k (.i 1) (.k (.bin .sub (.v 1) (.i 1)) (.k (.v 1) (.k (.bin .add (.v 1) (.i 1)) (.k (.bin .sub (.v 3) (.i 1)) (.k (.v 3) (.k (.bin .add (.v 3) (.i 1)) .e))))))))) (.v 4)) .e)))) .e) .e) (.k (.ret (.call 105 (.k (.v 0) (.k (.i 101) .e)))) .e))))⟩
noncomputable def yac:Fn:=⟨2,3,AB,(.k (.ite (.or (.not (.isi (.v 0) [.tuple])) (.cmp .ne (.blt .len (.k (.v 0) .e)) (.i 3))) (.k .nope .e) .e) (.k (.for (.n 2) (.seq (.slc (.v 0) (.cst .non) (.i 2))) (.k (.ite (.or (.not (.isi (.v 2) [.tuple])) (.not (.call 113 (.k (.v 2) (.k (.v 1) (.k (.blt .len (.k (.v 2) .e)) .e)))))) (.k .nope .e) .e) .e)) (.k (.ret (.call 112 (.k (.idx (.v 0) (.i 2)) (.k (.i 4) (.k (.i 1) .e))))) .e)))⟩
noncomputable def ybc:Fn:=⟨1,12,AB,(.k (.asg (.n 1) (.call 102 (.k (.v 0) .e))) (.k (.for (.n 2) (.range1 (.i 3)) (.k (.asg (.n 3) (.idx (.tup (.k (.s "left") (.k (.s "right") (.k (.s "down") (.k (.s "roll") .e))))) (.call 105 (.k (.v 1) (.k (.i 4) .e))))) (.k (.asg (.t [4,5]) (.call 106 (.k (.v 1) (.k (.i 4) .e)))) (.k (.asg (.n 6) (.call 116 (.k (.v 1) (.k (.v 4) (.k (.v 5) .e))))) (.k (.asg (.n 7) (.call 107 (.k (.v 1) (.k (.v 4) (.k (.v 5) .e))))) (.k (.asg (.t [8,9]) (.call 115 (.k (.v 3) (.k (.v 6) (.k (.bin .mul (.v 4) (.v 5)) (.k (.v 7) .e)))))) (.k (.asg (.n 8) (.bin .mod (.v 8) (.call 108 (.k (.bin .mul (.v 4) (.v 5)) .e)))) (.k (.asg (.n 10) (.tup (.k (.call 109 (.k (.v 8) (.k (.v 4) (.k (.v 5) .e)))) (.k (.tup .e) (.k (.bin .add (.tup (.k (.v 9) (.k (.i 0) .e))) (.call 114 (.k (.v 8) (.k (.bin .mul (.v 4) (.v 5)) .e)))) .e))))) (.k (.for (.n 11) (.seq (.tup (.k (.call 59 (.k (.tup (.k (.v 3) (.k (.v 6) .e))) (.k (.v 4) (.k (.v 5) (.k (.v 7) (.k (.i 0) .e)))))) (.k (.call 99 (.k (.tup (.k (.v 3) (.k (.v 6) .e))) (.k (.v 4) (.k (.v 5) (.k (.v 7) (.k (.i 0) .e)))))) (.k (.call 59 (.k (.tup (.k (.v 3) (.k (.v 6) .e))) (.k (.v 4) (.k (.v 5) (.k (.v 7) (.k (.i 0) .e)))))) .e))))) (.k (.ite (.or (.not (.call 117 (.k (.v 11) (.k (.v 4) .e)))) (.cmp .ne (.v 11) (.v 10))) (.k .nope .e) .e) .e)) .e))))))))) (.k (.ret (.cst (.bl AB))) .e)))⟩
def Tl:List Fn:=[zkf,zcO,zkv,zfI,zgh,zkr,zbQ,zaS,zcX,zaU,zcc,zbu,zan,zbC,zdv,zbx,za5,zbw,zbr,zez,zaV,zbI,zb6,zcJ,zbY,yP,zbn,zT,zbS,zbt,zah,zbW,zbk,zeY,zct,zdQ,zO,yh,yo,zz,zC,zu,zy,za3,zbh,zbb,zc0,zeN,zau,zaG,zdd,zav,zeV,zE,zV,za2,zbe,zcb,z7,ybb,zak,yaz,z6,zht,zba,zax,zgg,zaO,zaR,zaT,zbv,zaz,zam,zay,zcC,zcs,zar,zeS,zaP,zf4,zb2,zer,zd7,zcI,z8,zbK,zcw,zcy,zbZ,zcB,zF,zag,z5,yC,zJ,zj,zK,za8,zab,ycn,yt,yas,zcH,yaA,yam,yZ,zcK,yU,zbT,zcE,zb3,zcx,zbJ,zbN,zd9,yr,za7,yac,ybc]
def T(i:Nat):Option Fn:=Tl[i]?
noncomputable abbrev zaE:Nat:=12
noncomputable abbrev zbB:Nat:=13
noncomputable abbrev zbd:Nat:=23
noncomputable abbrev zch:Nat:=25
noncomputable abbrev zcm:Nat:=26
noncomputable abbrev zB:Nat:=27
noncomputable abbrev zeU:Nat:=28
noncomputable abbrev zb8:Nat:=30
noncomputable abbrev zdr:Nat:=32
noncomputable abbrev zad:Nat:=36
noncomputable abbrev zP:Nat:=37
noncomputable abbrev zq:Nat:=38
noncomputable abbrev zN:Nat:=39
noncomputable abbrev zat:Nat:=40
noncomputable abbrev zH:Nat:=41
noncomputable abbrev zG:Nat:=42
noncomputable abbrev zS:Nat:=43
noncomputable abbrev zdH:Nat:=44
noncomputable abbrev zdw:Nat:=45
noncomputable abbrev zaL:Nat:=48
noncomputable abbrev zbf:Nat:=49
noncomputable abbrev zb4:Nat:=50
noncomputable abbrev zaK:Nat:=51
noncomputable abbrev ze0:Nat:=52
noncomputable abbrev zR:Nat:=53
noncomputable abbrev zaa:Nat:=54
noncomputable abbrev zbm:Nat:=56
noncomputable abbrev za0:Nat:=57
noncomputable abbrev zp:Nat:=58
noncomputable abbrev zd1:Nat:=59
noncomputable abbrev zaH:Nat:=60
noncomputable abbrev zco:Nat:=61
noncomputable abbrev zaB:Nat:=62
noncomputable abbrev za4:Nat:=71
noncomputable abbrev zaI:Nat:=72
noncomputable abbrev zcp:Nat:=73
noncomputable abbrev zek:Nat:=74
noncomputable abbrev zhR:Nat:=79
noncomputable abbrev zc3:Nat:=80
noncomputable abbrev zfF:Nat:=81
noncomputable abbrev zfB:Nat:=82
noncomputable abbrev zec:Nat:=83
noncomputable abbrev zaZ:Nat:=84
noncomputable abbrev zc6:Nat:=85
noncomputable abbrev zdT:Nat:=86
noncomputable abbrev zdU:Nat:=87
noncomputable abbrev zcV:Nat:=88
noncomputable abbrev zeh:Nat:=89
noncomputable abbrev zX:Nat:=90
noncomputable abbrev zca:Nat:=91
noncomputable abbrev zQ:Nat:=92
noncomputable abbrev zaF:Nat:=93
noncomputable abbrev zt:Nat:=94
noncomputable abbrev zl:Nat:=95
noncomputable abbrev z4:Nat:=96
noncomputable abbrev za6:Nat:=97
noncomputable abbrev zU:Nat:=98
noncomputable abbrev zjH:Nat:=99
noncomputable abbrev zaC:Nat:=100
noncomputable abbrev zap:Nat:=101
noncomputable abbrev zem:Nat:=102
noncomputable abbrev zeb:Nat:=103
noncomputable abbrev zhe:Nat:=104
noncomputable abbrev zen:Nat:=105
noncomputable abbrev zej:Nat:=106
noncomputable abbrev zeq:Nat:=107
noncomputable abbrev zI:Nat:=108
noncomputable abbrev zee:Nat:=109
noncomputable abbrev zdb:Nat:=110
noncomputable abbrev zbL:Nat:=111
noncomputable abbrev zeG:Nat:=112
noncomputable abbrev zeF:Nat:=113
noncomputable abbrev zfD:Nat:=114
noncomputable abbrev zW:Nat:=115
noncomputable abbrev zc7:Nat:=116
noncomputable abbrev zcQ:Nat:=117
noncomputable abbrev zi4:Nat:=118
end IC
namespace WK
open PySem L2 IC
noncomputable def top(i:Nat):Stmt:=EJ.main.body.getD i (.Pass ⟨0,0,0,0⟩)
def tbQ:Tb where
 tbl:=[⟨"word","word","word",top 15,["letter","c","i","j","m"],["letter","c","i","j","m"],zkf,.fd [0,0,0,0]⟩,⟨"last_word","last_word","last_word",top 16,["letter"],["letter"],zcO,.fn⟩,⟨"rows","rows","rows",top 17,["told"],["told"],zkv,.fn⟩,⟨"rounds","rounds","rounds",top 18,["count","sentence","inner"],["count","sentence","inner"],zfI,.fn⟩,⟨"lowest","lowest","lowest",top 19,["letter","c","i","j","m"],["letter","c","i","j","m"],zgh,.fd [0,0,0,0]⟩,⟨"term","term","term",top 20,["f","things","i","p","q","r"],["f","things","i","p","q","r"],zkr,.fd [0,0,0,0]⟩,⟨"moved_parts","moved","moved",top 21,["to","source","c","sentence"],["to","source","c"],zbQ,.fd [0]⟩,⟨"doubled_parts","doubled","doubled",top 23,["letter","count"],["letter","count"],zaS,.fn⟩,⟨"kept_mark","kept_mark","kept_mark",top 25,["to"],["to"],zcX,.fn⟩,⟨"kept_contrary","kept_contrary","kept_contrary",top 26,["to"],["to"],zaU,.fn⟩,⟨"asked_words","asked_words","asked_words",top 29,["letter","m","count","gathered"],["letter","m","count"],zcc,.fn⟩,⟨"answer_marks","answer_marks","answer_marks",top 30,["c","m","sign"],["c","m"],zbu,.fn⟩,⟨"is_whole","is_whole","is_whole",top 60,["thing","low","high"],["thing","low","high"],zan,.fn⟩,⟨"is_letter","is_letter","is_letter",top 61,["thing"],["thing"],zbC,.fn⟩,⟨"are_told","are_told","are_told",top 62,["thing","many"],["thing","many"],zdv,.fn⟩,⟨"left_telling","left_telling","left_telling",top 64,["s"],["s"],zbx,.fn⟩,⟨"right_telling","right_telling","right_telling",top 65,["s"],["s"],za5,.fn⟩,⟨"down_telling","down_telling","down_telling",top 66,["s"],["s"],zbw,.fn⟩,⟨"roll_telling","roll_telling","roll_telling",top 67,["s"],["s"],zbr,.fn⟩,⟨"shifted","shifted","shifted",top 68,["s","ahead","by_one"],["s","ahead","by_one"],zez,.fn⟩,⟨"halved_shifts","halved","halved",top 69,["here"],[],zaV,.fn⟩,⟨"highest_two","highest_two","highest_two",top 71,[],[],zbI,.fn⟩,⟨"left_behind","left_behind","left_behind",top 72,[],[],zb6,.fn⟩,⟨"is_row","is_row","is_row",top 103,["thing"],["thing"],zcJ,.fn⟩,⟨"is_told_row","is_told_row","is_told_row",top 104,["thing"],["thing"],zbY,.fn⟩,⟨"has_form","has_form","has_form",top 105,["thing","told","kind","operand"],["thing","told"],yP,.fn⟩,⟨"is_named","is_named","is_named",top 106,["thing"],["thing"],zbn,.fn⟩,⟨"is_operand","is_operand","is_operand",top 107,["kind","thing","told"],["kind","thing","told"],zT,.fn⟩,⟨"is_cell","is_cell","is_cell",top 108,["thing"],["thing"],zbS,.fn⟩,⟨"is_told_cell","is_told_cell","is_told_cell",top 109,["thing"],["thing"],zbt,.fn⟩,⟨"is_lettered","is_lettered","is_lettered",top 110,["thing"],["thing"],zah,.fn⟩,⟨"is_sentence","is_sentence","is_sentence",top 115,["thing"],["thing"],zbW,.fn⟩,⟨"place_of","place_of","place_of",top 116,["told","n","i","j"],["told","n","i","j"],zbk,.fn⟩,⟨"is_term","is_term","is_term",top 117,["thing","f","exponent","things"],["thing"],zeY,.fn⟩,⟨"are_things","are_things","are_things",top 118,["thing"],["thing"],zct,.fn⟩,⟨"is_thing","is_thing","is_thing",top 119,["thing"],["thing"],zdQ,.fn⟩,⟨"","__init__","Unrolling.__init__",inClass (top 124) 0,["self","w","n"],["self","w","n"],zO,.ini 20⟩,⟨"","go_parts","Unrolling.go_parts",inClass (top 124) 1,["self","parts","gone","part"],["self","parts","gone"],yh,.me 20⟩,⟨"","go_rounds","Unrolling.go_rounds",inClass (top 124) 2,["self","part","gone","count","at"],["self","part","gone"],yo,.me 20⟩,⟨"","count_of","Unrolling.count_of",inClass (top 124) 3,["self","told","c","m","t"],["self","told"],zz,.me 20⟩,⟨"","add_row","Unrolling.add_row",inClass (top 124) 4,["self","told","gone","i","j","row"],["self","told","gone"],zC,.me 20⟩,⟨"","add_round","Unrolling.add_round",inClass (top 124) 5,["self"],["self"],zu,.me 20⟩,⟨"","add_asked","Unrolling.add_asked",inClass (top 124) 6,["self","sentence","gone","i","j"],["self","sentence","gone"],zy,.me 20⟩,⟨"is_telling","is_telling","is_telling",top 125,["thing"],["thing"],za3,.fn⟩,⟨"unrolled","unrolled","unrolled",top 126,["telling","w","n"],["telling","w","n"],zbh,.fn⟩,⟨"steps_of","steps_of","steps_of",top 127,["telling","w","n","unrolling"],["telling","w","n"],zbb,.fn⟩,⟨"are_parts","are_parts","are_parts",top 128,["thing","nests"],["thing","nests"],zc0,.fn⟩,⟨"is_part","is_part","is_part",top 129,["thing","nests"],["thing","nests"],zeN,.fn⟩,⟨"both_gone","both_gone","both_gone",top 130,["gone"],["gone"],zau,.fn⟩,⟨"placed","placed","placed",top 131,["thing","n","i","j"],["thing","n","i","j"],zaG,.fn⟩,⟨"telling","telling","telling",top 140,["deed"],["deed"],zdd,.fn⟩,⟨"deed_rows","deed_rows","deed_rows",top 141,["deed","w","n"],["deed","w","n"],zav,.fn⟩,⟨"is_deed","is_deed","is_deed",top 142,["thing"],["thing"],zeV,.fn⟩,⟨"answer_words","answer_words","answer_words",top 144,["deed","n"],["deed","n"],zE,.fn⟩,⟨"rest_words","rest_words","rest_words",top 145,["deed","n"],["deed","n"],zV,.fn⟩,⟨"shift_telling","shift_telling","shift_telling",top 146,["name","s"],["name","s"],za2,.fn⟩,⟨"words_of","words_of","words_of",top 149,["worth","w","n"],["worth","w","n"],zbe,.fn⟩,⟨"sign_of","sign_of","sign_of",top 150,["number","w"],["number","w"],zcb,.fn⟩,⟨"lowest_words","lowest_words","lowest_words",top 151,["worth","w","n","highest"],["worth","w","n"],z7,.fn⟩,⟨"comes","comes","comes",top 153,["deed","w","n","x","y","worth","first","second","answer","rest"],["deed","w","n","x","y"],ybb,.fn⟩,⟨"refuse_deed","refuse_deed","refuse_deed",top 154,["deed","w","n","x","y"],["deed","w","n","x","y"],zak,.fn⟩,⟨"reckoned","reckoned","reckoned",top 155,["deed","w","n","x","y","reckon"],["deed","w","n","x","y"],yaz,.fn⟩,⟨"signed_worth","signed_worth","signed_worth",top 156,["x","k"],["x","k"],z6,.fn⟩,⟨"unfit","unfit","unfit",top 157,["worth","k","half"],["worth","k"],zht,.fn⟩,⟨"summed_worths","summed","summed",top 159,["x","y","k"],["x","y","k"],zba,.fn⟩,⟨"taken_away_worths","taken_away","taken_away",top 161,["x","y","k"],["x","y","k"],zax,.fn⟩,⟨"turned","turned","turned",top 163,["x","y","k"],["x","y","k"],zgg,.fn⟩,⟨"in_both_worths","in_both","in_both",top 164,["x","y","k"],["x","y","k"],zaO,.fn⟩,⟨"in_any_worths","in_any","in_any",top 166,["x","y","k"],["x","y","k"],zaR,.fn⟩,⟨"in_one_worths","in_one","in_one",top 168,["x","y","k"],["x","y","k"],zaT,.fn⟩,⟨"bared_worths","bared","bared",top 170,["x","y","k"],["x","y","k"],zbv,.fn⟩,⟨"moved_left","moved_left","moved_left",top 172,["x","s","k"],["x","s","k"],zaz,.fn⟩,⟨"moved_right","moved_right","moved_right",top 173,["x","s","k"],["x","s","k"],zam,.fn⟩,⟨"moved_down","moved_down","moved_down",top 174,["x","s","k"],["x","s","k"],zay,.fn⟩,⟨"rolled","rolled","rolled",top 175,["x","s","k","places"],["x","s","k"],zcC,.fn⟩,⟨"multiplied","multiplied","multiplied",top 176,["x","y","k"],["x","y","k"],zcs,.fn⟩,⟨"signed_multiplied","signed_multiplied","signed_multiplied",top 178,["x","y","k","worth"],["x","y","k"],zar,.fn⟩,⟨"divided","divided","divided",top 179,["x","y","k"],["x","y","k"],zeS,.fn⟩,⟨"signed_divided","signed_divided","signed_divided",top 181,["x","y","k","above","below","worth"],["x","y","k"],zaP,.fn⟩,⟨"made","made","made",top 185,["name","w","x","y","k","make"],["name","w","x","y","k"],zf4,.fn⟩,⟨"highest","highest","highest",top 186,["w"],["w"],zb2,.fn⟩,⟨"moved","moved","moved",top 187,["w","x","y","k"],["w","x","y","k"],zer,.fn⟩,⟨"bared","bared","bared",top 189,["w","x","y","k"],["w","x","y","k"],zd7,.fn⟩,⟨"summed","summed","summed",top 191,["w","x","y","k","total"],["w","x","y","k"],zcI,.fn⟩,⟨"taken_away","taken_away","taken_away",top 193,["w","x","y","k","total"],["w","x","y","k"],z8,.fn⟩,⟨"in_both","in_both","in_both",top 195,["w","x","y","k"],["w","x","y","k"],zbK,.fn⟩,⟨"in_any","in_any","in_any",top 197,["w","x","y","k"],["w","x","y","k"],zcw,.fn⟩,⟨"in_one","in_one","in_one",top 199,["w","x","y","k"],["w","x","y","k"],zcy,.fn⟩,⟨"doubled","doubled","doubled",top 201,["w","x","y","k"],["w","x","y","k"],zbZ,.fn⟩,⟨"halved","halved","halved",top 203,["w","x","y","k"],["w","x","y","k"],zcB,.fn⟩,⟨"","__init__","Machine.__init__",inClass (top 207) 0,["self","w"],["self","w"],zF,.ini 21⟩,⟨"","put","Machine.put",inClass (top 207) 1,["self","letter","at","word","cell"],["self","letter","at","word"],zag,.me 21⟩,⟨"","word","Machine.word",inClass (top 207) 2,["self","letter","at"],["self","letter","at"],z5,.me 21⟩,⟨"","run","Machine.run",inClass (top 207) 5,["self","rows","row"],["self","rows"],yC,.me 21⟩,⟨"","held_in","Machine.held_in",inClass (top 207) 6,["self","cell"],["self","cell"],zJ,.me 21⟩,⟨"","go_row","Machine.go_row",inClass (top 207) 7,["self","row"],["self","row"],zj,.me 21⟩,⟨"","go_made","Machine.go_made",inClass (top 207) 9,["self","row","x","y","word","mark"],["self","row"],zK,.me 21⟩,⟨"known_cell","known_cell","known_cell",top 208,["letter","at"],["letter","at"],za8,.fn⟩,⟨"refuse_row","refuse_row","refuse_row",top 209,["thing"],["thing"],zab,.fn⟩,⟨"ran","ran","ran",top 212,["deed","w","n","x","y","machine","answer"],["deed","w","n","x","y"],ycn,.fn⟩,⟨"machine_with","machine_with","machine_with",top 213,["w","n","x","y","machine","letter","worth","at","word"],["w","n","x","y"],yt,.fn⟩,⟨"number_in","number_in","number_in",top 214,["machine","letter","many"],["machine","letter","many"],yas,.fn⟩,⟨"_law_fresh","_law_fresh","_law_fresh",top 216,["_law_script"],["_law_script"],zcH,.fn⟩,⟨"_law_mixed","_law_mixed","_law_mixed",top 217,["_law_seed","_law_primes","_law_number_here","_law_k","_law_prime","_law_far","_law_square","_law_power"],["_law_seed"],yaA,.fn⟩,⟨"_law_fill","_law_fill","_law_fill",top 218,["_law_state","_law_cells","_law_at","_law_seed"],["_law_state"],yam,.fn⟩,⟨"_law_take","_law_take","_law_take",top 219,["_law_state","_law_many","_law_turns","_law_digit"],["_law_state","_law_many"],yZ,.fn⟩,⟨"_law_sizes","_law_sizes","_law_sizes",top 220,["_law_state","_law_most"],["_law_state","_law_most"],zcK,.fn⟩,⟨"_law_worth","_law_worth","_law_worth",top 221,["_law_state","_law_w","_law_n","_law_way","_law_top","_law_k","_law_edges","_law_any_one","_law_low","_law_wide","_law_worth_here","_law_some","_law_words_here"],["_law_state","_law_w","_law_n"],yU,.fn⟩,⟨"_law_two_to","_law_two_to","_law_two_to",top 222,["_law_many","_law_found","_law_k"],["_law_many"],zbT,.fn⟩,⟨"_law_words","_law_words","_law_words",top 223,["_law_worth_here","_law_w","_law_n","_law_wide","_law_words_here","_law_k"],["_law_worth_here","_law_w","_law_n"],zcE,.fn⟩,⟨"_law_signed","_law_signed","_law_signed",top 224,["_law_worth_here","_law_many","_law_top"],["_law_worth_here","_law_many"],zb3,.fn⟩,⟨"_law_whole","_law_whole","_law_whole",top 225,["_law_thing"],["_law_thing"],zcx,.fn⟩,⟨"_law_wholes","_law_wholes","_law_wholes",top 226,["_law_thing","_law_many","_law_most"],["_law_thing","_law_many","_law_most"],zbJ,.fn⟩,⟨"_law_number","_law_number","_law_number",top 227,["_law_thing","_law_w","_law_n"],["_law_thing","_law_w","_law_n"],zbN,.fn⟩,⟨"_law_ends","_law_ends","_law_ends",top 228,["_law_worth_here","_law_many"],["_law_worth_here","_law_many"],zd9,.fn⟩,⟨"_law_gone_by","_law_gone_by","_law_gone_by",top 229,["_law_word","_law_s","_law_size","_law_x","_law_out","_law_by"],["_law_word","_law_s","_law_size","_law_x"],yr,.fn⟩,⟨"_law_places","_law_places","_law_places",top 230,["_law_state","_law_w","_law_n","_law_size","_law_way"],["_law_state","_law_w","_law_n"],za7,.fn⟩,⟨"_law_answer","_law_answer","_law_answer",top 231,["_law_found","_law_w","_law_number_here"],["_law_found","_law_w"],yac,.fn⟩,⟨"law","law","law",top 232,["_law_script","_law_state","_law_turn","_law_word","_law_w","_law_n","_law_s","_law_x","_law_worth_here","_law_out","_law_due","_law_found"],["_law_script"],ybc,.fn⟩]
 al:=[eD "word" 0,eF "last_word" 1,eF "rows" 2,eF "rounds" 3,eD "lowest" 4,eD "term" 5,eD "moved_parts" 6,eF "doubled_parts" 7,eF "kept_mark" 8,eF "kept_contrary" 9,eF "asked_words" 10,eF "answer_marks" 11,eF "is_whole" 12,eF "is_letter" 13,eF "are_told" 14,eF "left_telling" 15,eF "right_telling" 16,eF "down_telling" 17,eF "roll_telling" 18,eF "shifted" 19,eF "halved_shifts" 20,eF "highest_two" 21,eF "left_behind" 22,eF "is_row" 23,eF "is_told_row" 24,eF "has_form" 25,eF "is_named" 26,eF "is_operand" 27,eF "is_cell" 28,eF "is_told_cell" 29,eF "is_lettered" 30,eF "is_sentence" 31,eF "place_of" 32,eF "is_term" 33,eF "are_things" 34,eF "is_thing" 35,eF "is_telling" 43,eF "unrolled" 44,eF "steps_of" 45,eF "are_parts" 46,eF "is_part" 47,eF "both_gone" 48,eF "placed" 49,eF "telling" 50,eF "deed_rows" 51,eF "is_deed" 52,eF "answer_words" 53,eF "rest_words" 54,eF "shift_telling" 55,eF "words_of" 56,eF "sign_of" 57,eF "lowest_words" 58,eF "comes" 59,eF "refuse_deed" 60,eF "reckoned" 61,eF "signed_worth" 62,eF "unfit" 63,eF "summed_worths" 64,eF "taken_away_worths" 65,eF "turned" 66,eF "in_both_worths" 67,eF "in_any_worths" 68,eF "in_one_worths" 69,eF "bared_worths" 70,eF "moved_left" 71,eF "moved_right" 72,eF "moved_down" 73,eF "rolled" 74,eF "multiplied" 75,eF "signed_multiplied" 76,eF "divided" 77,eF "signed_divided" 78,eF "made" 79,eF "highest" 80,eF "moved" 81,eF "bared" 82,eF "summed" 83,eF "taken_away" 84,eF "in_both" 85,eF "in_any" 86,eF "in_one" 87,eF "doubled" 88,eF "halved" 89,eF "known_cell" 97,eF "refuse_row" 98,eF "ran" 99,eF "machine_with" 100,eF "number_in" 101,eF "_law_fresh" 102,eF "_law_mixed" 103,eF "_law_fill" 104,eF "_law_take" 105,eF "_law_sizes" 106,eF "_law_worth" 107,eF "_law_two_to" 108,eF "_law_words" 109,eF "_law_signed" 110,eF "_law_whole" 111,eF "_law_wholes" 112,eF "_law_number" 113,eF "_law_ends" 114,eF "_law_gone_by" 115,eF "_law_places" 116,eF "_law_answer" 117,eF "law" 118,eF "bared_made" 82,eF "divided_worths" 77,eF "doubled_made" 88,eF "halved_made" 89,eF "in_any_made" 86,eF "in_both_made" 85,eF "in_one_made" 87,eF "moved_made" 81,eF "multiplied_worths" 75,eF "summed_made" 83,eF "taken_away_made" 84,eC "EACH_WORD" zaJ,eC "FACTOR_LIMIT" (.int (10000000000000000000000000000000000000000)),eC "MARKS_parts" zai,eC "MARKS_runs" (.int (4)),eC "MOST_NESTS" (.int (2)),eC "MOST_ROUNDS" (.int (4000)),eC "MOST_ROWS" (.int (4000)),eC "MOST_TERMS" (.int (20)),eC "MOST_THINGS" (.int (2)),eC "MOST_TOLD" (.int (200)),eC "NIL" zjk,eC "PRODUCTS" zcn,eC "QUOTIENTS" zas,eC "SEEN" zfd,eC "SHIFTS" zbM,eC "SPARE" zfH,eG "ROWS" (.dct zae),eG "Machine" (.cls 21 90),eG "Unrolling" (.cls 20 36)]
 bs:=["abs","all","any","bool","enumerate","int","isinstance","len","max","min","range","str","tuple","zip"]
 ts:=[.bool,.int,.str,.tuple]
 fl:=[eN 20 "n",eN 20 "rounds",eN 20 "rows",eN 20 "steps",eN 20 "w",eN 21 "marked",eN 21 "w",eN 21 "words"]
 me:=[eM 20 "go_parts" 37,eM 20 "go_rounds" 38,eM 20 "count_of" 39,eM 20 "add_row" 40,eM 20 "add_round" 41,eM 20 "add_asked" 42,eM 21 "put" 91,eM 21 "word" 92,eM 21 "run" 93,eM 21 "held_in" 94,eM 21 "go_row" 95,eM 21 "go_made" 96]
 kb:=[eK 0 1 ["i"] [AA 0,AD,AA 0,AA 0],eK 0 1 ["i","m"] [AA 0,AD,AA 0,AD],eK 0 1 ["j"] [AA 0,AA 0,AD,AA 0],eK 0 2 ["j","m"] [AA 0,AD,AD],eK 0 2 ["m"] [AA 0,AA 0,AD],eK 4 1 ["i"] [AA 0,AD,AA 0,AA 0],eK 5 2 [] [AA 0,AA 0,AA 0,AA 0],eK 6 2 [] [AA 0]]
 cn:=[eN 21 "Machine",eN 20 "Unrolling"]
 dd:=[eB "ROWS" zae]
 ml:=[eL "MAKERS" zM,eL "RECKONED" zbl]
theorem ok_all:tbQ.tbl.all (okT tbQ)=true:=by decide +kernel
theorem T_ok:∀i d,tbQ.tbl[i]?=AA d->T i=AA d.fn:=λi d h=>by
 have e:Tl=tbQ.tbl.map (·.fn):=rfl;rw[T,e,Bq,h];rfl
theorem kb_all:ybW (KbP tbQ) tbQ.kb:=by
 repeat' (first|exact trivial|(refine⟨kbP rfl rfl rfl rfl rfl (by decide) ?_,?_⟩;((repeat intro _);exact⟨_,rfl,rfl⟩)))
theorem cn_20:cnm tbQ 20="Unrolling":=rfl
theorem cn_21:cnm tbQ 21="Machine":=rfl
end WK
namespace IC
open PySem
def yaU(call:Cl)(t:Tg)(b:Css)(xs:List PV)(ρ:Env)(st:SO):Fl:=forL t (λρ2 st2=>exs call ρ2 st2 b) xs ρ st
def yaT(call:Cl)(c:Ce)(b:Css)(n:Nat)(ρ:Env)(st:SO):Fl:=yat (λρ2 st2=>ev call ρ2 st2 c) (λρ2 st2=>exs call ρ2 st2 b) n ρ st
def ybh(call:Cl)(ρ0:Env)(t:Tg)(c e:Ce)(x:PV)(st2:SO):R (Option PV):=match yJ t x ρ0 with
 |none=>.bad
 |some ρ1=>(ev call ρ1 st2 c).bind λb st3=>onO (yaM st3 b) λk=>cond k ((ev call ρ1 st3 e).bind λy st4=>.ok (AA y) st4) (.ok AD st3)
def yal(call:Cl)(ρ0:Env)(t:Tg)(c e:Ce)(xs:List PV)(st:SO):R (List PV):=yaR (ybh call ρ0 t c e) xs st
noncomputable def yax(f:Fl)(k:Env->SO->Fl):Fl:=
 match f with
 |.nx ρ st=>k ρ st
 |f=>f
noncomputable def nxO(o:Option Env)(st:SO):Fl:=
 match o with
 |some ρ=>.nx ρ st
 |none=>.bad
noncomputable def stO(ρ:Env)(o:Option SO):Fl:=
 match o with
 |some st=>.nx ρ st
 |none=>.bad
section
variable {call:Cl}{ρ:Env}{st:SO}
theorem x_for{t:Tg}{it:Cit}{b:Css}:ex call ρ st (.for t it b)=(evi call ρ st it).fl ρ λxs st1=>yaU call t b xs ρ st1:=rfl
theorem zk1{c:Ce}{b:Css}:ex call ρ st (.while c b)=yaT call c b 100000 ρ st:=rfl
theorem v_comp{sl:List (Option Nat)}{t:Tg}{it:Cit}{c e:Ce}:ev call ρ st (.comp sl t it c e)=(evi call ρ st it).bind λxs st1=>yci (yal call (sl.map λo=>o.bind λj=>(ρ[j]?).join) t c e xs st1):=rfl
theorem zw{t:Tg}{b:Css}:yaU call t b [] ρ st=.nx ρ st:=rfl
theorem zk{t:Tg}{b:Css}{x:PV}{xs:List PV}{ρ1:Env}(h:yJ t x ρ=AA ρ1):yaU call t b (x::xs) ρ st=yaq (exs call ρ1 st b) λρ2 st2=>yaU call t b xs ρ2 st2:=by
 rw[yaU,forL,h];rfl
theorem zd8{t:Tg}{b:Css}(P:Nat->Env->SO->Prop):∀(xs:List PV) (i:Nat) (ρ:Env) (st:SO),P i ρ st ->
  (∀(j:Nat) (x:PV) (ρ:Env) (st:SO),xs[j]?=AA x->P (i+j) ρ st->∃ρ1 ρ2 st2,yJ t x ρ=AA ρ1/\exs call ρ1 st b=.nx ρ2 st2/\P (i+j+1) ρ2 st2) ->
  ∃ρ' st',yaU call t b xs ρ st=.nx ρ' st'/\P (i+xs.length) ρ' st'
 |[],i,ρ,st,h,_=>⟨ρ,st,zw,h⟩
 |x::xs,i,ρ,st,h,k=>by
  let⟨ρ1,ρ2,st2,e1,e2,h2⟩:=k 0 x ρ st rfl h;let⟨ρ',st',e3,h3⟩:=zd8 P xs (i+1) ρ2 st2 h2 λj y ρ st hy hp=>by
   have:=k (j+1) y ρ st (by simpa using hy) (by rw[show i+(j+1)=i+1+j by lia];exact hp);rw[show i+(j+1)+1=i+1+j+1 by lia]at this;exact this
  refine⟨ρ',st',?_,by rw[AS,show i+(xs.length+1)=i+1+xs.length by lia];exact h3⟩;rw[zk e1,e2];exact e3
theorem zhc{c:Ce}{b:Css}{n:Nat}{x:PV}{st1 st2:SO}{ρ2:Env}(h:ev call ρ st c=.ok x st1)(ht:yaM st1 x=AA AB)(hb:exs call ρ st1 b=.nx ρ2 st2):yaT call c b (n+1) ρ st=yaT call c b n ρ2 st2:=by
 rw[yaT,yat,h];erw[R.fl,ht,onF,cond_true,hb,yaq];rfl
theorem zfs{c:Ce}{b:Css}{n:Nat}{x:PV}{st1:SO}(h:ev call ρ st c=.ok x st1)(ht:yaM st1 x=AA AC):yaT call c b (n+1) ρ st=.nx ρ st1:=by
 rw[yaT,yat,h];erw[R.fl,ht,onF,cond_false]
theorem za1{ρ0:Env}{t:Tg}{c e:Ce}:yal call ρ0 t c e [] st=.ok [] st:=rfl
theorem zZ{ρ0:Env}{t:Tg}{c e:Ce}{x:PV}{xs:List PV}:yal call ρ0 t c e (x::xs) st=(ybh call ρ0 t c e x st).bind λo st1=>(yal call ρ0 t c e xs st1).bind λys st2=>.ok (yb6 o ys) st2:=rfl
theorem zeT{ρ0:Env}{t:Tg}{c e:Ce}{f:PV->PV}:∀(xs:List PV),(∀x∈xs,ybh call ρ0 t c e x st=.ok (AA (f x)) st)->yal call ρ0 t c e xs st=.ok (xs.map f) st
 |[],_=>za1
 |x::xs,h=>by
  rw[zZ,h x BG];erw[R.bind];rw[zeT xs λy hy=>h y (AX _ hy)];rfl
theorem xs_nil:exs call ρ st .nil=.nx ρ st:=rfl
theorem xs_cons{s:Cs}{ss:Css}:exs call ρ st (.cons s ss)=yax (ex call ρ st s) λρ1 st1=>exs call ρ1 st1 ss:=rfl
theorem x_asg{t:Tg}{e:Ce}:ex call ρ st (.asg t e)=(ev call ρ st e).fl ρ λv st1=>nxO (yJ t v ρ) st1:=rfl
theorem x_expr{e:Ce}:ex call ρ st (.expr e)=(ev call ρ st e).fl ρ λ_ st1=>.nx ρ st1:=rfl
theorem x_ret{e:Ce}:ex call ρ st (.ret e)=(ev call ρ st e).fl ρ λv st1=>.rt v st1:=rfl
theorem x_ite{c:Ce}{a b:Css}:ex call ρ st (.ite c a b)=(ev call ρ st c).fl ρ λx st1=>onF (yaM st1 x) λk=>cond k (exs call ρ st1 a) (exs call ρ st1 b):=rfl
theorem x_six{o i e:Ce}:ex call ρ st (.six o i e)=(ev call ρ st e).fl ρ λv st1=>(ev call ρ st1 o).fl ρ λx st2=>(ev call ρ st2 i).fl ρ λy st3=>stO ρ (ybB st3 x y v):=rfl
noncomputable def yek(o:Option Nat)(k:Nat->Fl):Fl:=match o with
 |some j=>k j
 |none=>.bad
theorem znT{i:Nat}{D:List (AQ×Nat)}{n:Ce}{es:Ces}:ex call ρ st (.mkr i D n es)=(ev call ρ st n).fl ρ λx st1=>yek (mkV D (decide (i<ρ.length)) x) λj=>((evs call (ρ.set i AD) st1 es).bind λvs st2=>call j vs st2).fl (ρ.set i AD) λv st3=>.rt v st3:=rfl
theorem zft{c:Nat}{o e:Ce}{f:AQ}:ex call ρ st (.sfl c o f e)=(ev call ρ st e).fl ρ λv st1=>(ev call ρ st1 o).fl ρ λx st2=>stO ρ (ya2 c st2 x f v):=rfl
theorem zig{o i e:Ce}:ex call ρ st (.dput o i e)=(ev call ρ st e).fl ρ λv st1=>(ev call ρ st1 o).fl ρ λx st2=>(ev call ρ st2 i).fl ρ λy st3=>stO ρ (ybd st3 x y v):=rfl
theorem zpi{i:Nat}{o:BOp}{e:Ce}{x:PV}(h:ρ[i]?=AA (AA x)):ex call ρ st (.aug i o e)=(ev call ρ st e).fl ρ λy st1=>nxO ((ybP o x y).map λz=>ρ.set i (AA z)) st1:=by
 rw[ex,h];show (ev call ρ st e).fl ρ _=_;refine congrArg _ (funext λy=>funext λst1=>?_)
 cases ybP o x y<;>rfl
end
theorem ve1(call:Nat->List PV->SO->R PV)(ρ:Env)(st:SO)(v:PV):
  ev call ρ st (Ce.cst v)=R.ok v st:=rfl
theorem ve2(call:Nat->List PV->SO->R PV)(ρ:Env)(st:SO)(i:Nat):
  ev call ρ st (Ce.var i) =
  match ρ[i]? with
  |some (AA v)=>R.ok v st
  |x=>R.bad:=rfl
theorem ve3(call:Nat->List PV->SO->R PV)(ρ:Env)(st:SO)(o:BOp)(a b:Ce):
  ev call ρ st (Ce.bin o a b)=R.bind (ev call ρ st a) λx st1=>R.bind (ev call ρ st1 b) λy st2=>toR (yq o x y) st2:=rfl
theorem ve4(call:Nat->List PV->SO->R PV)(ρ:Env)(st:SO)(a:Ce):
  ev call ρ st (Ce.neg a) =
  R.bind (ev call ρ st a) λx st1=>
   match x with
   |PV.int i=>R.ok (PV.int (-i)) st1
   |x=>R.bad:=rfl
theorem ve5(call:Nat->List PV->SO->R PV)(ρ:Env)(st:SO)(a:Ce):
  ev call ρ st (Ce.not a)=R.bind (ev call ρ st a) λx st1=>onBl x λk=>R.ok (PV.bl !k) st1:=rfl
theorem ve6(call:Nat->List PV->SO->R PV)(ρ:Env)(st:SO)(a b:Ce):
  ev call ρ st (Ce.and a b)=R.bind (ev call ρ st a) λx st1=>onBl x λk=>bif k then ev call ρ st1 b else R.ok (PV.bl AC) st1:=rfl
theorem ve7(call:Nat->List PV->SO->R PV)(ρ:Env)(st:SO)(a b:Ce):
  ev call ρ st (Ce.or a b)=R.bind (ev call ρ st a) λx st1=>onBl x λk=>bif k then R.ok (PV.bl AB) st1 else ev call ρ st1 b:=rfl
theorem ve8(call:Nat->List PV->SO->R PV)(ρ:Env)(st:SO)(o:COp)(a b:Ce):
  ev call ρ st (Ce.cmp o a b)=R.bind (ev call ρ st a) λx st1=>R.bind (ev call ρ st1 b) λy st2=>toR (yD o x y) st2:=rfl
theorem ve9(call:Nat->List PV->SO->R PV)(ρ:Env)(st:SO)(o p:COp)(a b c:Ce):
  ev call ρ st (Ce.chain o p a b c)=R.bind (ev call ρ st a) λx st1=>R.bind (ev call ρ st1 b) λy st2=>onO (blO (yD o x y)) λk=>bif k then R.bind (ev call ρ st2 c) λz st3=>toR (yD p y z) st3 else R.ok (PV.bl AC) st2:=rfl
theorem ve10(call:Nat->List PV->SO->R PV)(ρ:Env)(st:SO)(c a b:Ce):
  ev call ρ st (Ce.ite c a b)=R.bind (ev call ρ st c) λx st1=>onO (yaM st1 x) λk=>bif k then ev call ρ st1 a else ev call ρ st1 b:=rfl
theorem ve11(call:Nat->List PV->SO->R PV)(ρ:Env)(st:SO)(es:Ces):
  ev call ρ st (Ce.tup es)=R.bind (evs call ρ st es) λvs st1=>if CY vs<=sizeMax then R.ok (PV.tup vs) st1 else R.bad:=rfl
theorem ve12(call:Nat->List PV->SO->R PV)(ρ:Env)(st:SO)(es:Ces):
  ev call ρ st (Ce.lst es)=R.bind (evs call ρ st es) λvs st1=>if CY vs<=sizeMax then R.ok (PV.lst vs) st1 else R.bad:=rfl
theorem ve13(call:Nat->List PV->SO->R PV)(ρ:Env)(st:SO)(es:Ces):
  ev call ρ st (Ce.newl es)=R.bind (evs call ρ st es) λvs st1=>if CY vs<=sizeMax then R.ok (PV.loc (CY st1)) (st1++[Ob.lst vs])else R.bad:=rfl
theorem ve15(call:Nat->List PV->SO->R PV)(ρ:Env)(st:SO)(t:Bool):
  ev call ρ st (Ce.dict0 t)=R.ok (PV.loc (CY st)) (st++[Ob.dct t []]):=rfl
theorem ve16(call:Nat->List PV->SO->R PV)(ρ:Env)(st:SO)(a i:Ce):
  ev call ρ st (Ce.idx a i)=R.bind (ev call ρ st a) λx st1=>R.bind (ev call ρ st1 i) λy st2=>toR (idxV st2 x y) st2:=rfl
theorem ve17(call:Nat->List PV->SO->R PV)(ρ:Env)(st:SO)(a l h:Ce):
  ev call ρ st (Ce.slc a l h)=R.bind (ev call ρ st a) λx st1=>R.bind (ev call ρ st1 l) λy st2=>onP (yb2 y) λo=>R.bind (ev call ρ st2 h) λz st3=>toR (ycs x o z) st3:=rfl
theorem ve18(call:Nat->List PV->SO->R PV)(ρ:Env)(st:SO)(f:Nat)(es:Ces):
  ev call ρ st (Ce.call f es)=R.bind (evs call ρ st es) λvs st1=>call f vs st1:=rfl
theorem ve19(call:Nat->List PV->SO->R PV)(ρ:Env)(st:SO)(b:Blt)(es:Ces):
  ev call ρ st (Ce.blt b es)=R.bind (evs call ρ st es) λvs st1=>toR (yar b st1 vs) st1:=rfl
theorem ve20(call:Nat->List PV->SO->R PV)(ρ:Env)(st:SO)(m:Mth)(o:Ce)(es:Ces):
  ev call ρ st (Ce.mth m o es)=R.bind (ev call ρ st o) λx st1=>onO (yaL m st1 x) λx_1=>R.bind (evs call ρ st1 es) λvs st2=>ycg m st2 x vs:=rfl
theorem ve21(call:Nat->List PV->SO->R PV)(ρ:Env)(st:SO)(a:Ce)(ts:List Ty):
  ev call ρ st (Ce.isi a ts)=R.bind (ev call ρ st a) λx st1=>toR (yaK x ts) st1:=rfl
theorem ve24(call:Nat->List PV->SO->R PV)(ρ:Env)(st:SO):
  ev call ρ st Ce.nope=R.bad:=rfl
theorem ve25(call:Nat->List PV->SO->R PV)(ρ:Env)(st:SO)(a:Ce):
  ev call ρ st (Ce.frz a)=R.bind (ev call ρ st a) λx st1=>ydt x st1:=rfl
theorem ve28(call:Nat->List PV->SO->R PV)(ρ:Env)(st:SO)(D:List (AQ×PV))(a:Ce):
  ev call ρ st (Ce.dix D a)=R.bind (ev call ρ st a) λx st1=>toR (ycK D x) st1:=rfl
theorem ve29(call:Nat->List PV->SO->R PV)(ρ:Env)(st:SO)(a:Ce)(D:List (AQ×PV)):
  ev call ρ st (Ce.din a D)=R.bind (ev call ρ st a) λx st1=>toR (yct D x) st1:=rfl
theorem ve32(call:Nat->List PV->SO->R PV)(ρ:Env)(st:SO)(c:Nat)(a:Ce)(f:AQ):
  ev call ρ st (Ce.fld c a f)=R.bind (ev call ρ st a) λx st1=>toR (ya4 c st1 x f) st1:=rfl
theorem ve33(call:Nat->List PV->SO->R PV)(ρ:Env)(st:SO)(c i:Nat)(es:Ces):
  ev call ρ st (Ce.new c i es)=R.bind (evs call ρ st es) λvs st1=>R.bind (ybx (call i (PV.loc (CY st1)::vs) (st1++[Ob.ins c []]))) λv st2=>newV (CY st1) v st2:=rfl
theorem ve37(call:Nat->List PV->SO->R PV)(ρ:Env)(st:SO)(c i:Nat)(m:AQ)(o:Ce)
 (es:Ces):
  ev call ρ st (Ce.mcl c i m o es)=R.bind (ev call ρ st o) λx st1=>onO (ybY c m st1 x) λx_1=>R.bind (evs call ρ st1 es) λvs st2=>call i (x::vs) st2:=rfl
end IC
namespace WK
open IC PySem
mutual
noncomputable def pvq:PV->PV->Bool
 |.non,.non=>AB
 |.bl a,.bl b=>a==b
 |.int i,.int j=>decide (i=j)
 |.str x,.str y=>decide (x=y)
 |.tp k xs,.tp l ys=>(k==l)&&ycN xs ys
 |.lst xs,.lst ys=>ycN xs ys
 |_,_=>AC
noncomputable def ycN:List PV->List PV->Bool
 |[],[]=>AB
 |x::xs,y::ys=>pvq x y&&ycN xs ys
 |_,_=>AC
end
mutual
theorem zks:∀(a b:PV),pvq a b=AB->a=b
 |.non,b,h=>by cases b<;>simp[pvq]at h ⊢
 |.bl a,b,h=>by cases b<;>simp[pvq]at h ⊢;exact h
 |.int a,b,h=>by cases b<;>simp[pvq]at h ⊢;exact h
 |.str a,b,h=>by cases b<;>simp[pvq]at h ⊢;exact h
 |.tp k xs,b,h=>by
  cases b<;>simp[pvq]at h ⊢
  exact⟨h.1,zfw _ _ h.2⟩
 |.lst xs,b,h=>by
  cases b<;>simp[pvq]at h ⊢
  exact zfw _ _ h
 |.loc _,b,h=>by cases b<;>simp[pvq]at h
 |.exn _,b,h=>by cases b<;>simp[pvq]at h
 |.scr _,b,h=>by cases b<;>simp[pvq]at h
theorem zfw:∀(a b:List PV),ycN a b=AB->a=b
 |[],b,h=>by cases b<;>simp[ycN]at h ⊢
 |x::xs,b,h=>by
  cases b with
  |nil=>simp[ycN]at h
  |cons y ys=>
   simp[ycN]at h;rw[zks x y h.1,zfw xs ys h.2]
end
def isOk(r:R PV)(v:PV):Bool:=match r with
 |.ok w []=>pvq w v
 |_=>AC
theorem zep{r:R PV}{v:PV}(h:isOk r v=AB):r=.ok v []:=by
 match r with
 |.ok w []=>rw[zks w v h]
 |.ok w (_::_)=>simp[isOk]at h
 |.exc _ _=>simp[isOk]at h
 |.bad=>simp[isOk]at h
noncomputable def chS(c:Nat):Str:=⟨#[c]⟩
def yQ(c:Nat)(i:Int):PV:=.tup [.str (chS c),.int i]
theorem zld{c d:Nat}(h:chS c=chS d):c=d:=by
 have:=congrArg (λx=>x.cps) h;simpa [chS] using this
theorem zbc(c d:Nat)(i j:Int):peq (yQ c i) (yQ d j)=decide (c=d/\i=j):=by
 have h:(chS c==chS d)=decide (c=d):=by
  rw[D7];simp;exact⟨zld,λe=>by rw[e]⟩
 simp[yQ,peq,ybg,h,Bool.decide_and]
 try rfl
noncomputable abbrev Mem:=Nat->Int->Int
noncomputable def upd(M:Mem)(c:Nat)(i v:Int):Mem:=λd j=>if d=c/\j=i then v else M d j
def ycL(kvs:List (PV×PV)):Prop:=∀p∈kvs,∃c i,p.1=yQ c i
def Rel(kvs:List (PV×PV))(M:Mem):Prop:=∀c i,(look (yQ c i) kvs).getD (.int 0)=.int (M c i)
theorem zf3(c:Nat)(i:Int)(v:PV)(d:Nat)(j:Int):∀kvs,ycL kvs->look (yQ d j) (kvs.map λp=>if peq p.1 (yQ c i)=AB then(p.1,v)else p)=if d=c/\j=i then(if (kvs.any λp=>peq p.1 (yQ c i))=AB then AA v else AD)else look (yQ d j) kvs
 |[],_=>by simp[look]
 |p::kvs,h=>by
  let⟨e,g,hp⟩:=h p BG;let⟨p1,p2⟩:=p;simp only at hp;subst hp;have ih:=zf3 c i v d j kvs λq hq=>h q (AX _ hq);rw[AL,BN];erw[zbc]
  by_cases h1:e=c/\g=i
  .let⟨rfl,rfl⟩:=h1;erw[and_self,decide_true,if_true,look,zbc,Eo]
   by_cases h2:e=d/\g=j
   .let⟨rfl,rfl⟩:=h2;simp
   .have h3:¬(d=e/\j=g):=λz=>h2 ⟨z.1.symm,z.2.symm⟩;erw[h2,h3,decide_false,if_false,BA];rw[ih,if_neg h3]
  .simp only[h1,decide_false,F3,BA,if_false];rw[look,look];erw[zbc]
   by_cases h2:e=d/\g=j
   .let⟨rfl,rfl⟩:=h2;simp[h1]
   .simp only[h2,decide_false,BA,if_false];exact ih
theorem zf0(c:Nat)(i:Int)(v:PV)(d:Nat)(j:Int):∀kvs,ycL kvs->(kvs.any λp=>peq p.1 (yQ c i))=AC->look (yQ d j) (kvs++[(yQ c i,v)])=if d=c/\j=i then AA v else look (yQ d j) kvs
 |[],_,_=>by
  erw[As,look,zbc]
  by_cases h2:c=d/\i=j
  .let⟨rfl,rfl⟩:=h2;simp
  .have h3:¬(d=c/\j=i):=λz=>h2 ⟨z.1.symm,z.2.symm⟩;simp[h2,h3]
 |p::kvs,h,hn=>by
  let⟨e,g,hp⟩:=h p BG;let⟨p1,p2⟩:=p;simp only at hp;subst hp;rw[BN,Bool.or_eq_false_iff]at hn;have ih:=zf0 c i v d j kvs (λq hq=>h q (AX _ hq)) hn.2;have h1:¬(e=c/\g=i):=by simpa [zbc] using hn.1
  rw[Ab,look,look];erw[zbc]
  by_cases h2:e=d/\g=j
  .let⟨rfl,rfl⟩:=h2;simp[h1]
  .simp only[h2,decide_false,BA,if_false];exact ih
theorem zjY(c:Nat)(i:Int)(v:PV)(d:Nat)(j:Int)(kvs:List (PV×PV))(h:ycL kvs):look (yQ d j) (put (yQ c i) v kvs)=if d=c/\j=i then AA v else look (yQ d j) kvs:=by
 unfold put;split
 .rename_i z;rw[zf3 _ _ _ _ _ _ h,z,if_pos rfl]
 .rename_i z;exact zf0 _ _ _ _ _ _ h (by simpa using z)
theorem zj7{c:Nat}{i:Int}{v:PV}{kvs:List (PV×PV)}(h:ycL kvs):ycL (put (yQ c i) v kvs):=by
 unfold put;split
 .intro p hp;let⟨q,hq,rfl⟩:=Fz.1 hp;let⟨e,g,he⟩:=h q hq;refine⟨e,g,?_⟩;split
  .exact he
  .exact he
 .intro p hp;rcases Bb.1 hp with hp|hp
  .exact h p hp
  .simp at hp;exact⟨c,i,by rw[hp]⟩
theorem zlS{c:Nat}{i v:Int}{kvs:List (PV×PV)}{M:Mem}(h:ycL kvs)(r:Rel kvs M):Rel (put (yQ c i) (.int v) kvs) (upd M c i v):=by
 intro d j;rw[zjY _ _ _ _ _ _ h];unfold upd;split
 .rfl
 .exact r d j
theorem zkP{k v:PV}{kvs:List (PV×PV)}:(put k v kvs).length<=kvs.length+1:=by
 unfold put;split
 .simp
 .simp
theorem zgj(c:Nat)(i:Int):isKey AB (yQ c i)=true:=rfl
structure Dc(st:SO)(n:Nat)(M:Mem)(L:Nat):Prop where
 ex:∃kvs,st[n]?=AA (.dct AB kvs)/\ycL kvs/\Rel kvs M/\kvs.length<=L
theorem ziX{st:SO}{n L:Nat}{M:Mem}(h:Dc st n M L)(c:Nat)(i:Int):ydN st (.loc n) (yQ c i) (.int 0)=.ok (.int (M c i)) st:=by
 let⟨kvs,h1,h2,h3,h4⟩:=h;erw[ydN,ybe,h1,zgj,if_true,h3 c i]
theorem zi7{st:SO}{n L:Nat}{M:Mem}(h:Dc st n M L)(hL:L<999999)(c:Nat)(i v:Int):∃kvs,ybd st (.loc n) (yQ c i) (.int v)=AA (st.set n (.dct AB kvs))/\Dc (st.set n (.dct AB kvs)) n (upd M c i v) (L+1):=by
 let⟨kvs,h1,h2,h3,h4⟩:=h;have hn:n<st.length:=by
  rcases C3 n st.length with z|z
  .exact z
  .rw[BU z]at h1;cases h1
 refine⟨put (yQ c i) (.int v) kvs,?_,⟨_,A9 hn,zj7 h2,zlS h2 h3,BO zkP (by lia)⟩⟩;have h5:kvs.length<1000000:=by lia
 erw[ybd,h1,zgj,h5,and_self,if_true]
noncomputable abbrev Cel:=Nat×Int
def yM(x:Cel):PV:=yQ x.1 x.2
inductive Rw where
 |mark (d:Int)|ask (x:Cel)|set (t:Cel) (d:Int)|move (t x:Cel)|bare (t x:Cel)|twice (t x:Cel)|half (t x:Cel)
 |sum (t x y:Cel)|less (t x y:Cel)|both (t x y:Cel)|any (t x y:Cel)|odd (t x y:Cel)
def yW:Rw->PV
 |.mark d=>.tup [.str "mark",.int d]
 |.ask x=>.tup [.str "ask",yM x]
 |.set t d=>.tup [.str "set",yM t,.int d]
 |.move t x=>.tup [.str "move",yM t,yM x]
 |.bare t x=>.tup [.str "bare",yM t,yM x]
 |.twice t x=>.tup [.str "twice",yM t,yM x]
 |.half t x=>.tup [.str "half",yM t,yM x]
 |.sum t x y=>.tup [.str "sum",yM t,yM x,yM y]
 |.less t x y=>.tup [.str "less",yM t,yM x,yM y]
 |.both t x y=>.tup [.str "both",yM t,yM x,yM y]
 |.any t x y=>.tup [.str "any",yM t,yM x,yM y]
 |.odd t x y=>.tup [.str "odd",yM t,yM x,yM y]
noncomputable def rd(M:Mem)(x:Cel):Int:=M x.1 x.2
def wr(M:Mem)(x:Cel)(v:Int):Mem:=upd M x.1 x.2 v
def stepM(W:Int)(M:Mem)(k:Int):Rw->Mem×Int
 |.mark d=>(M,d)
 |.ask x=>(M,bi (!(rd M x==0)))
 |.set t d=>(wr M t d,k)
 |.move t x=>(wr M t (rd M x),k)
 |.bare t x=>(wr M t (W-1-rd M x),k)
 |.twice t x=>(wr M t ((2*rd M x+k)%W),(2*rd M x+k)/W)
 |.half t x=>(wr M t (rd M x/2+k*(W/2)),rd M x%2)
 |.sum t x y=>(wr M t ((rd M x+rd M y+k)%W),(rd M x+rd M y+k)/W)
 |.less t x y=>(wr M t ((rd M x-rd M y-k)%W),bi (decide (rd M x-rd M y-k<0)))
 |.both t x y=>(wr M t (Al (rd M x) (rd M y)),k)
 |.any t x y=>(wr M t (B0 (rd M x) (rd M y)),k)
 |.odd t x y=>(wr M t (Bl (rd M x) (rd M y)),k)
def yE(W:Int):List Rw->Mem->Int->Mem×Int
 |[],M,k=>(M,k)
 |r::rs,M,k=>yE W rs (stepM W M k r).1 (stepM W M k r).2
theorem zx(W:Int):∀(a b:List Rw) (M:Mem) (k:Int),yE W (a++b) M k=yE W b (yE W a M k).1 (yE W a M k).2
 |[],b,M,k=>rfl
 |r::a,b,M,k=>by rw[Ab,yE,zx W a b,yE]
theorem zj6{st:SO}{n:Nat}{o:Ob}(h:st[n]?=AA o):st=st.set n o:=by
 refine ER λi=>?_;rw[C9];split
 .rename_i e;subst e;split
  .exact h
  .rename_i z;rw[BU (by lia)]at h
   cases h
 .rfl
theorem zdi(i:Int):shp (.int i)=true:=rfl
section
variable {st:SO}{k:Bool}{a b c d e:PV}{r:List PV}{i j:Int}
theorem ix0:idxV st (.tp k (a::r)) (.int 0)=AA a:=by simp[idxV,ya5,at?,ixI]
theorem ix1:idxV st (.tp k (a::b::r)) (.int 1)=AA b:=by
 have:(1:Int)<(r.length:Int)+1+1:=by lia
 simp[idxV,ya5,at?,ixI,this]
theorem ix2:idxV st (.tp k (a::b::c::r)) (.int 2)=AA c:=by
 have:(2:Int)<(r.length:Int)+1+1+1:=by lia
 simp[idxV,ya5,at?,ixI,this]
theorem ix3:idxV st (.tp k (a::b::c::d::r)) (.int 3)=AA d:=by
 have:(3:Int)<(r.length:Int)+1+1+1+1:=by lia
 simp[idxV,ya5,at?,ixI,this]
theorem b_add:yq .add (.int i) (.int j)=AA (.int (i+j)):=rfl
theorem b_sub:yq .sub (.int i) (.int j)=AA (.int (i-j)):=rfl
theorem zjO(h:i.natAbs<18446744073709551616 \/ j.natAbs<18446744073709551616):yq .mul (.int i) (.int j)=AA (.int (i*j)):=by
 have:yaB i j=true:=by simpa [yaB] using h
 simp[yq,binI,this]
theorem zaA(h:i.natAbs<18446744073709551616):yq .mul (.int i) (.int j)=AA (.int (i*j)):=zjO (.inl h)
theorem zcT(h:j.natAbs<18446744073709551616):yq .mul (.int i) (.int j)=AA (.int (i*j)):=zjO (.inr h)
theorem b_mul2:yq .mul (.int 2) (.int j)=AA (.int (2*j)):=zjO (.inl (by decide))
theorem zg0(h:0<j)(h2:j<18446744073709551616*18446744073709551616):yq .fdiv (.int i) (.int j)=AA (.int (i/j)):=by
 have h3:j<10000000000000000000000000000000000000000000000000000000000000000000000:=by lia
 simp[yq,binI,h,h3]
theorem b_div2:yq .fdiv (.int i) (.int 2)=AA (.int (i/2)):=rfl
theorem zfE(h:0<j):yq .mod (.int i) (.int j)=AA (.int (i%j)):=by simp[yq,binI,h]
theorem zkM:yq .mod (.int i) (.int 2)=AA (.int (i%2)):=rfl
theorem zlG:yq .band (.int i) (.int j)=AA (.int (Al i j)):=rfl
theorem yd9:yq .bor (.int i) (.int j)=AA (.int (B0 i j)):=rfl
theorem zps:yq .bxor (.int i) (.int j)=AA (.int (Bl i j)):=rfl
theorem toR_some{v:PV}:toR (AA v) st=.ok v st:=rfl
theorem c_ne:yD .ne (.int i) (.int j)=AA (.bl (!(i==j))):=by simp[yD,zdi,peq]
theorem c_eq:yD .eq (.int i) (.int j)=AA (.bl (i==j)):=by simp[yD,zdi,peq]
theorem c_lt:yD .lt (.int i) (.int j)=AA (.bl (decide (i<j))):=rfl
theorem c_le:yD .le (.int i) (.int j)=AA (.bl (decide (i<=j))):=rfl
theorem c_gt:yD .gt (.int i) (.int j)=AA (.bl (decide (j<i))):=rfl
theorem c_ge:yD .ge (.int i) (.int j)=AA (.bl (decide (j<=i))):=rfl
theorem t_bl{b:Bool}:yaM st (.bl b)=AA b:=rfl
theorem on_t{f:Bool->Fl}{b:Bool}:onF (AA b) f=f b:=rfl
theorem ono{α:Type}{f:Bool->R α}{b:Bool}:onO (AA b) f=f b:=rfl
theorem zaj{ρ:IC.Env}:stO ρ (AA st)=.nx ρ st:=rfl
theorem nxO_some{ρ:IC.Env}:nxO (AA ρ) st=.nx ρ st:=rfl
theorem fl_ok{α:Type}{a:α}{ρ:IC.Env}{k:α->SO->Fl}:(R.ok a st).fl ρ k=k a st:=rfl
theorem bd_ok{α β:Type}{a:α}{k:α->SO->R β}:(R.ok a st).bind k=k a st:=rfl
theorem th_nx{ρ:IC.Env}{k:IC.Env->SO->Fl}:yax (.nx ρ st) k=k ρ st:=rfl
theorem th_rt{v:PV}{k:IC.Env->SO->Fl}:yax (.rt v st) k=.rt v st:=rfl
theorem fl_exc{α:Type}{c:Nat}{ρ:IC.Env}{k:α->SO->Fl}:(R.exc c st:R α).fl ρ k=.exc c ρ st:=rfl
theorem bd_exc{α β:Type}{c:Nat}{k:α->SO->R β}:(R.exc c st:R α).bind k=.exc c st:=rfl
theorem th_exc{c:Nat}{ρ:IC.Env}{k:IC.Env->SO->Fl}:yax (.exc c ρ st) k=.exc c ρ st:=rfl
theorem noLocs_ints:∀(l:List Int),nLs (l.map PV.int)=AB
 |[]=>rfl
 |_::l=>by simp[nLs,nL,noLocs_ints l]
theorem zlu{x:PV}:yar .int st [x]=yec x:=rfl
theorem zop{b:Bool}:yec (.bl b)=AA (.int (bi b)):=rfl
theorem bT_n{i:Nat}{v:PV}{ρ:IC.Env}:yJ (.n i) v ρ=AA (ρ.set i (AA v)):=rfl
end
theorem zm5:∀(n x y:Nat),x<=n->(x ^^^ y)+(x &&& y)=x ||| y
 |n,x,y,h=>by
  by_cases hx:x=0
  .subst hx;simp
  .have ih:=zm5 (n-1) (x/2) (y/2) (by lia);rw[<-Nat.xor_div_two,<-Nat.and_div_two,<-Nat.or_div_two]at ih;have m1:(x ^^^ y)%2=((x%2) ^^^ (y%2)):=by
    have:=Nat.xor_mod_two_pow (a:=x) (b:=y) (n:=1);simpa using this
   have m2:(x &&& y)%2=((x%2) &&& (y%2)):=by
    have:=Nat.and_mod_two_pow (a:=x) (b:=y) (n:=1);simpa using this
   have m3:(x ||| y)%2=((x%2) ||| (y%2)):=by
    have:=Nat.or_mod_two_pow (a:=x) (b:=y) (n:=1);simpa using this
   rcases EB x with a|a<;>rcases EB y with b|b<;>rw[a,b]at m1 m2 m3<;>erw[Nat.reduceXor,Nat.reduceAnd,Nat.reduceOr]at m1 m2 m3<;>lia
theorem zkm(x y:Nat):Al (x:Int) (y:Int)=((x &&& y:Nat):Int):=by
 simp[Al]
theorem zdD(x y:Nat):B0 (x:Int) (y:Int)=((x ||| y:Nat):Int):=by
 have h1:¬(0:Int)<=-(x:Int)-1:=by lia
 have h2:¬(0:Int)<=-(y:Int)-1:=by lia
 have h3:(-(-(x:Int)-1)-1).toNat=x:=by lia
 have h4:(-(-(y:Int)-1)-1).toNat=y:=by lia
 erw[B0,Al,EC,h1,h2,decide_false,h3,h4];lia
theorem zn0(x y:Nat):Bl (x:Int) (y:Int)=((x ^^^ y:Nat):Int):=by
 have:=zm5 x x y (AU x);rw[Bl,zdD,zkm];lia
theorem pw(w:Nat):((2^w:Nat):Int)=2^w:=by simp
theorem zn4{w:Nat}{a b:Int}(a0:0<=a)(b0:0<=b)(b1:b<2^w):0<=Al a b/\Al a b<2^w:=by
 obtain⟨x,rfl⟩:∃n:Nat,a=n:=⟨a.toNat,by lia⟩;obtain⟨y,rfl⟩:∃n:Nat,b=n:=⟨b.toNat,by lia⟩;rw[zkm];rw[<-pw]at b1 ⊢;exact⟨by lia,by exact_mod_cast Nat.and_lt_two_pow x (by lia:y<2^w)⟩
theorem zoF{w:Nat}{a b:Int}(a0:0<=a)(a1:a<2^w)(b0:0<=b)(b1:b<2^w):0<=Bl a b/\Bl a b<2^w:=by
 obtain⟨x,rfl⟩:∃n:Nat,a=n:=⟨a.toNat,by lia⟩;obtain⟨y,rfl⟩:∃n:Nat,b=n:=⟨b.toNat,by lia⟩;rw[zn0];rw[<-pw]at a1 b1 ⊢;exact⟨by lia,by exact_mod_cast Nat.xor_lt_two_pow (by lia:x<2^w) (by lia:y<2^w)⟩
theorem zof{w:Nat}{a b:Int}(a0:0<=a)(a1:a<2^w)(b0:0<=b)(b1:b<2^w):0<=B0 a b/\B0 a b<2^w:=by
 obtain⟨x,rfl⟩:∃n:Nat,a=n:=⟨a.toNat,by lia⟩;obtain⟨y,rfl⟩:∃n:Nat,b=n:=⟨b.toNat,by lia⟩;rw[zdD];rw[<-pw]at a1 b1 ⊢;exact⟨by lia,by exact_mod_cast Nat.or_lt_two_pow (by lia:x<2^w) (by lia:y<2^w)⟩
theorem zlq{a b:Int}(a0:0<=a)(b0:0<=b):B0 a b=0 ↔ a=0/\b=0:=by
 obtain⟨x,rfl⟩:∃n:Nat,a=n:=⟨a.toNat,by lia⟩;obtain⟨y,rfl⟩:∃n:Nat,b=n:=⟨b.toNat,by lia⟩;rw[zdD];have:=Nat.or_eq_zero_iff (n:=x) (m:=y);lia
noncomputable def tb(w:Nat)(a:Int):Int:=(2*a)/2^w
theorem zmE{w:Nat}(hw:0<w){a:Int}(a0:0<=a)(a1:a<2^w):tb w a=if 2^w<=2*a then 1 else 0:=by
 have h1:(0:Int)<2^w:=A7 (by lia);unfold tb;split
 .rename_i h;exact Int.le_antisymm (Int.le_of_lt_add_one (B6 h1 (by lia))) (DQ h1 (by lia))
 .exact BS (by lia) (by lia)
theorem zcl(ys:List PV)(h:ys.length<=1000000)(st:SO):yci (.ok ys st)=.ok (.lst ys) st:=by simp[yci,h]
theorem zbp(n:Nat)(h:n<1000):ybL (.int (n:Int))=AA (yp n 0 1):=by
 simp[ybL];lia
theorem zbz{z:Int}(h:0<=z):∃n:Nat,z=n:=⟨z.toNat,by lia⟩
def ybq(st:SO)(f:Fl):R PV:=
 match f with
 |.rt v _=>if nL v then .ok v st else .bad
 |.nx _ _=>.ok .non st
 |.exc c _ _=>.exc c st
 |_=>.bad
theorem zc{T:Nat->Option IC.Fn}{k f:Nat}{fn:IC.Fn}{args:List PV}{st:SO}(hT:T f=AA fn)(hp:fn.pure=AB)(hl:args.length=fn.np)(hn:nLs args=AB):
  yc T (k+1) f args st=ybq st (exs (yc T k) (args.map AA++Ae (fn.ns-fn.np) AD) [] fn.body):=by
 rw[yc,hT];dsimp only;rw[if_pos hl,if_pos hp,if_pos hn];rfl
def outI(f:Fl):R PV:=
 match f with
 |.rt v st1=>.ok v st1
 |.nx _ st1=>.ok .non st1
 |.exc c _ st1=>.exc c st1
 |_=>.bad
theorem zn{T:Nat->Option IC.Fn}{k f:Nat}{fn:IC.Fn}{args:List PV}{st:SO}(hT:T f=AA fn)(hp:fn.pure=AC)(hl:args.length=fn.np):
  yc T (k+1) f args st=outI (exs (yc T k) (args.map AA++Ae (fn.ns-fn.np) AD) st fn.body):=by
 rw[yc,hT];dsimp only;rw[if_pos hl,hp,if_neg (by simp)];rfl
theorem zbq{st:SO}{v:PV}:outI (.rt v st)=.ok v st:=rfl
theorem znQ{st s:SO}{b:Bool}:ybq st (.rt (.bl b) s)=.ok (.bl b) st:=rfl
theorem zlL{st s:SO}{b:Int}:ybq st (.rt (.int b) s)=.ok (.int b) st:=rfl
noncomputable def yay:PV:=.tup [.int 2147483647,.int 2147483629,.int 2147483587,.int 2147483579,.int 2147483563]
noncomputable def ydf:Css:=match yaA.body with
 |.cons _ (.cons _ (.cons (.for _ _ b) _))=>b
 |_=>.nil
theorem zdn{c:Cl}{s num g p:Int}{i:Nat}{u5 u6 u7:Option PV}(hg:∀st,idxV st (.tup [.int 11,.int 101,.int 1009,.int 10007,.int 100003]) (.int i)=AA (.int g))(hi:i<5)(hp:0<p)(hp2:p<18446744073709551616):
  ∃num' v5 v6 v7,exs c [AA (.int s),AA yay,AA (.int num),AA (.int i),AA (.int p),u5,u6,u7] [] ydf=.nx [AA (.int s),AA yay,AA (.int num'),AA (.int i),AA (.int p),v5,v6,v7] []:=by
 have h1:∀z:Int,yq .mul (.int z) (.int (48271+2*(i:Int)))=AA (.int (z*(48271+2*(i:Int)))):=λz=>zcT (by lia);have h2:∀z y:Int,yq .mul (.int z) (.int (y%p))=AA (.int (z*(y%p))):=λz y=>zcT (by
  have a:=BF y (show p≠0 by lia);have b:=An y hp;lia)
 have h3:∀z:Int,yq .mul (.int z) (.int p)=AA (.int (z*p)):=λz=>zcT (by lia);erw[ydf,yaA,AS,Ar,BW,Bj,if_true,xs_cons,xs_nil,x_asg,IC.ve1,IC.ve2,IC.ve3,IC.ve11,IC.ve16,evs,AN,AM,bd_ok,fl_ok,toR_some,bT_n,nxO_some,th_nx,A5,A6,sizeMax,CV,b_add,b_mul2,hg,h1,h2,h3,zfE hp];exact⟨_,_,_,_,rfl⟩
theorem zjt{c:Cl}{s num:Int}{u5 u6 u7:Option PV}(i:Nat)(p:Int)(h:(i,p)∈[(0,(2147483647:Int)),(1,2147483629),(2,2147483587),(3,2147483579),(4,2147483563)]):
  ∃num' v5 v6 v7,exs c [AA (.int s),AA yay,AA (.int num),AA (.int i),AA (.int p),u5,u6,u7] [] ydf=.nx [AA (.int s),AA yay,AA (.int num'),AA (.int i),AA (.int p),v5,v6,v7] []:=by
 erw[A3,Prod.mk.injEq,BQ,or_false]at h;rcases h with⟨rfl,rfl⟩|⟨rfl,rfl⟩|⟨rfl,rfl⟩|⟨rfl,rfl⟩|⟨rfl,rfl⟩
 .exact zdn (λ_=>rfl) (by decide) (by decide) (by decide)
 .exact zdn (λ_=>rfl) (by decide) (by decide) (by decide)
 .exact zdn (λ_=>rfl) (by decide) (by decide) (by decide)
 .exact zdn (λ_=>rfl) (by decide) (by decide) (by decide)
 .exact zdn (λ_=>rfl) (by decide) (by decide) (by decide)
noncomputable def ydL:List PV:=[.tup [.int 0,.int 2147483647],.tup [.int 1,.int 2147483629],.tup [.int 2,.int 2147483587],.tup [.int 3,.int 2147483579],.tup [.int 4,.int 2147483563]]
theorem mixed(k:Nat)(s:Int)(st:SO):∃num,yc T (k+1) zeb [.int s] st=.ok (.int num) st:=by
 let⟨ρ',st',h,num,a,b,c,d,e,e1,e2⟩:=zd8 (call:=yc T k) (t:=.t [3,4]) (b:=ydf) (λ_ ρ st=>∃num a b c d e,ρ=[AA (.int s),AA yay,AA (.int num),a,b,c,d,e]/\st=[]) ydL 0 [AA (.int s),AA yay,AA (.int 0),AD,AD,AD,AD,AD] [] ⟨_,_,_,_,_,_,rfl,rfl⟩ (by
  rintro j x ρ st hx ⟨num,a,b,c,d,e,rfl,rfl⟩
  have hx:=A2 hx;have hx:∃i p,x=.tup [.int ((i:Nat):Int),.int p]/\(i,p)∈[(0,(2147483647:Int)),(1,2147483629),(2,2147483587),(3,2147483579),(4,2147483563)]:=by
   erw[ydL,A3,BQ,or_false]at hx;rcases hx with rfl|rfl|rfl|rfl|rfl
   .exact⟨0,_,rfl,by simp⟩
   .exact⟨1,_,rfl,by simp⟩
   .exact⟨2,_,rfl,by simp⟩
   .exact⟨3,_,rfl,by simp⟩
   .exact⟨4,_,rfl,by simp⟩
  let⟨i,p,rfl,hm⟩:=hx;let⟨num',v5,v6,v7,hh⟩:=zjt (c:=yc T k) (s:=s) (num:=num) (u5:=c) (u6:=d) (u7:=e) i p hm;exact⟨_,_,_,rfl,hh,_,_,_,_,_,_,rfl,rfl⟩)
 subst e1 e2;refine⟨num,?_⟩;rw[yc];have hb:yaA.body=.cons (.asg (.n 1) (.tup (.cons (.cst (.int 2147483647)) (.cons (.cst (.int 2147483629)) (.cons (.cst (.int 2147483587)) (.cons (.cst (.int 2147483579)) (.cons (.cst (.int 2147483563)) .nil))))))) (.cons (.asg (.n 2) (.cst (.int 0))) (.cons (.for (.t [3,4]) (.enum (.var 1)) ydf) (.cons (.ret (.var 2)) .nil))):=rfl;have hT:T zeb=AA ⟨1,8,AB,yaA.body⟩:=rfl;have hp:PV.tup [.int 2147483647,.int 2147483629,.int 2147483587,.int 2147483579,.int 2147483563]=yay:=rfl;rw[hT,hb];have h5:ev (yc T k) [AA (.int s),AD,AD,AD,AD,AD,AD,AD] [] (.tup (.cons (.cst (.int 2147483647)) (.cons (.cst (.int 2147483629)) (.cons (.cst (.int 2147483587)) (.cons (.cst (.int 2147483579)) (.cons (.cst (.int 2147483563)) .nil))))))=.ok yay []:=by
  simp[IC.ve1,IC.ve11,evs,R.bind,sizeMax,yay]
 have he:evi (yc T k) [AA (.int s),AA yay,AA (.int 0),AD,AD,AD,AD,AD] [] (.enum (.var 1))=.ok ydL []:=by
  simp[evi,IC.ve2,R.bind,yay,yaa,ydL]
 erw[AS,Ar,if_true,nLs,nL,Cv,AL,Aa,Ba,Ae,Ab,As,xs_cons,xs_nil,x_asg,x_for,x_ret,h5,R.fl,yJ,nxO,yax,A5,A6,IC.ve1,he,h,IC.ve2,AN,AM]
set_option backward.eqns.nonrecursive true
local macro_rules | `(tactic| simp! [$xs,*])=>do
 let l<-("IC.xs_cons IC.xs_nil IC.x_asg IC.x_ite IC.x_ret IC.x_expr IC.x_for IC.x_six IC.evs IC.evi IC.ve1 IC.ve2 IC.ve3 IC.ve4 IC.ve5 IC.ve6 IC.ve7 IC.ve8 IC.ve9 IC.ve10 IC.ve11 IC.ve12 IC.ve13 IC.ve15 IC.ve16 IC.ve17 IC.ve18 IC.ve19 IC.ve20 IC.ve21 IC.ve24 IC.ve25 IC.ve28 IC.v_comp List.getElem?_cons_zero List.getElem?_cons_succ WK.bd_ok WK.fl_ok WK.bd_exc WK.fl_exc WK.toR_some IC.toL WK.bT_n WK.nxO_some WK.th_nx WK.th_rt WK.th_exc List.set_cons_zero List.set_cons_succ WK.on_t WK.t_bl WK.ono IC.onBl cond_true cond_false List.length_cons List.length_nil Nat.zero_add Nat.reduceAdd Nat.reduceSub Nat.reduceLeDiff if_true IC.nL IC.nLs WK.noLocs_ints Bool.and_self Bool.not_true Bool.not_false List.map_cons List.map_nil List.replicate List.cons_append List.nil_append List.append_nil Option.bind_none Option.bind_some Option.join_some WK.b_add WK.b_sub WK.b_mul2 WK.b_div2 WK.c_lt WK.c_le WK.c_gt WK.c_ge WK.c_eq WK.c_ne IC.PV.tup IC.sizeMax".splitOn " ").toArray.mapM λs=>`(Lean.Parser.Tactic.simpLemma| $(Lean.mkIdent s.toName):term)
 `(tactic| simp only[$l,*,$xs,*])
theorem rdS{st:SO}{n:Nat}{o x:Ob}(h:st[n]?=AA o):(st.set n x)[n]?=AA x:=by
 have:n<st.length:=by
  rcases C3 n st.length with h1|h1
  .exact h1
  .rw[BU h1]at h;cases h
 rw[A9 this]
theorem zoT(ns:List Int)(a:Int)(h:ns≠[]):∃v,ya5 (ns.map PV.int) (.int (a%(ns.length:Int)))=AA (.int v):=by
 have h0:0<ns.length:=FY.2 h;have h1:=BF a (show (ns.length:Int)≠0 by lia);have h2:=An a (show (0:Int)<ns.length by lia);have h3:(a%(ns.length:Int)).toNat<ns.length:=by lia
 refine⟨ns[(a%(ns.length:Int)).toNat],?_⟩;simp[ya5,at?,ixI,h1,h2,h3]
noncomputable def flT:Css:=match yam.body with
 |.cons _ (.cons _ (.cons _ t))=>t
 |x=>x
noncomputable abbrev flS(l:PV)(a p:Int)(f:Bool):Ob:=.lst [l,.int a,.int p,.bl f]
theorem zpE{st:SO}{n:Nat}{l:PV}{a p v:Int}{f:Bool}(h:st[n]?=AA (flS l a p f)):ybB st (.loc n) (.int 1) (.int v)=AA (st.set n (flS l v p f)):=by erw[ybB,h];rfl
theorem zoZ{st:SO}{n:Nat}{l:PV}{a p v:Int}{f:Bool}(h:st[n]?=AA (flS l a p f)):ybB st (.loc n) (.int 2) (.int v)=AA (st.set n (flS l a v f)):=by erw[ybB,h];rfl
theorem zpD{st:SO}{n:Nat}{l:PV}{a p:Int}{f g:Bool}(h:st[n]?=AA (flS l a p f)):ybB st (.loc n) (.int 3) (.bl g)=AA (st.set n (flS l a p g)):=by erw[ybB,h];rfl
theorem yfW{st:SO}{n:Nat}{l:PV}{a p:Int}{f:Bool}(h:st[n]?=AA (flS l a p f)):idxV st (.loc n) (.int 0)=AA l:=by erw[idxV,h];rfl
theorem yfp{st:SO}{n:Nat}{l:PV}{a p:Int}{f:Bool}(h:st[n]?=AA (flS l a p f)):idxV st (.loc n) (.int 1)=AA (.int a):=by erw[idxV,h];rfl
theorem yg0{st:SO}{n:Nat}{l:PV}{a p:Int}{f:Bool}(h:st[n]?=AA (flS l a p f)):idxV st (.loc n) (.int 3)=AA (.bl f):=by erw[idxV,h];rfl
theorem p18:yq .pow (.int 10) (.int 18)=AA (.int 1000000000000000000):=by ac_rfl
theorem zgd(k n:Nat){l:PV}{m a v p q:Int}{f g:Bool}{st:SO}(h:st[n]?=AA (flS l a p f))(hl:∀st,yar .len st [l]=AA (.int m))(hg:(decide (a ≥ m) || decide (v<1000000000000000000))=g)
  (h1:g=AB->yc T (k+1) zeb [.int v] (st.set n (flS l (a+1) p AB))=.ok (.int q) (st.set n (flS l (a+1) p AB))) (h2:g=AC->q=v-1000000000000000000):
  exs (yc T (k+1)) [AA (.loc n),AA l,AA (.int a),AA (.int v)] st flT=.nx [AA (.loc n),AA l,AA (.int a),AA (.int v)] (st.set n (flS l (a+1) q g)):=by
 have s1:=zpE h (v:=a+1);have r1:=rdS h (x:=flS l (a+1) p f);have s2:=zpD r1 (g:=g);have r2:=rdS r1 (x:=flS l (a+1) p g);have s3:=zoZ r2 (v:=q);have i3:=yg0 r2;rw[DL]at s2 s3 i3 r2;rw[DL]at s3
 have hb:flT=(match flT with
  |.cons a (.cons (.six x y _) r)=>.cons a (.cons (.six x y (.or (.cmp .ge (.var 2) (.blt .len (.cons (.var 1) .nil))) (.cmp .lt (.var 3) (.bin .pow (.cst (.int 10)) (.cst (.int 18)))))) r)
  |x=>x):=rfl
 have hor:∀st,ev (yc T (k+1)) [AA (.loc n),AA l,AA (.int a),AA (.int v)] st (.or (.cmp .ge (.var 2) (.blt .len (.cons (.var 1) .nil))) (.cmp .lt (.var 3) (.bin .pow (.cst (.int 10)) (.cst (.int 18)))))=.ok (.bl g) st:=λst=>by
  cases c:decide (a ≥ m)
  .rw[c,F3]at hg;simp! [hl,c,p18,hg]
  .rw[c,Eo]at hg;subst hg;simp! [hl,c]
 generalize hE:(Ce.or (.cmp .ge (.var 2) (.blt .len (.cons (.var 1) .nil))) (.cmp .lt (.var 3) (.bin .pow (.cst (.int 10)) (.cst (.int 18)))))=E at *
 cases g with
 |true=>
  have h1:=h1 rfl;rw[hb];simp! [flT,yam,stO,s1,hor,s2,i3,h1,s3]
 |false=>
  have h2:=h2 rfl;subst h2;rw[hb];simp! [flT,yam,stO,s1,hor,s2,i3,p18,s3]
theorem fill(k n:Nat)(ns:List Int)(hns:ns.length<=1000)(a p:Int)(ha:0<=a)(f:Bool)(st:SO)(h:st[n]?=AA (.lst [.lst (ns.map .int),.int a,.int p,.bl f])):
  ∃p' f',yc T (k+2) zhe [.loc n] st=.ok .non (st.set n (.lst [.lst (ns.map .int),.int (a+1),.int p',.bl f'])):=by
 have hT:T zhe=AA ⟨1,4,AC,yam.body⟩:=rfl;have hl:∀st,yar .len st [.lst (ns.map .int)]=AA (.int (ns.length:Int)):=λst=>by
  show AA (PV.int (((ns.map PV.int).length:Nat):Int))=_;simp
 have i0:=yfW h;have i1:=yfp h;have bt:∀(a b:PV) (ρ:IC.Env),yJ (.t [1,2]) (.tp AC [a,b]) ρ=AA ((ρ.set 1 (AA a)).set 2 (AA b)):=λ_ _ _=>rfl
 have hb:yam.body=(match yam.body with
  |.cons a (.cons b (.cons c _))=>.cons a (.cons b (.cons c flT))
  |x=>x):=rfl
 have m31:yq .mul (.int 31) (.int a)=AA (.int (31*a)):=zaA (by decide);obtain⟨v,hv⟩:∃v,exs (yc T (k+1)) [AA (.loc n),AD,AD,AD] st yam.body=exs (yc T (k+1)) [AA (.loc n),AA (.lst (ns.map .int)),AA (.int a),AA (.int v)] st flT:=by
  by_cases hn:ns=[]
  .have c0:decide ((ns.length:Int) > 0)=false:=by subst hn;rfl
   refine⟨31*a+7,?_⟩;rw[hb];generalize flT=F at *;generalize ns.map PV.int=L at *;simp! [yam,i0,i1,bt,m31,hl,c0]
  .have h0:0<ns.length:=FY.2 hn;let⟨v,hv⟩:=zoT ns a hn;have c0:decide ((ns.length:Int) > 0)=true:=decide_eq_true (by lia);have d1:=zg0 (i:=a) (j:=(ns.length:Int)) (by lia) (by lia);have d2:=zfE (i:=a) (j:=(ns.length:Int)) (by lia);have m1:yq .mul (.int 104729) (.int (a/(ns.length:Int)))=AA (.int (104729*(a/(ns.length:Int)))):=zaA (by decide);have ix:∀st,idxV st (.lst (ns.map .int)) (.int (a%(ns.length:Int)))=AA (.int v):=λ_=>hv;refine⟨104729*(a/(ns.length:Int))+v,?_⟩;rw[hb];generalize flT=F at *;generalize ns.map PV.int=L at *;simp! [yam,i0,i1,bt,m31,hl,c0,d1,d2,m1,ix]
 cases c:(decide (a ≥ (ns.length:Int)) || decide (v<1000000000000000000))with
 |true=>
  let⟨q,hq⟩:=mixed k v (st.set n (flS (.lst (ns.map .int)) (a+1) p AB));refine⟨q,AB,?_⟩;rw[zn hT rfl rfl];have e:=zgd k n h hl c (λ_=>hq) (λh=>nomatch h);rw[<-hv]at e;exact(congrArg _ e).trans rfl
 |false=>
  refine⟨v-1000000000000000000,AC,?_⟩;rw[zn hT rfl rfl];have e:=zgd k n h hl c (λh=>nomatch h) (λ_=>rfl);rw[<-hv]at e;exact(congrArg _ e).trans rfl
noncomputable abbrev cM:Nat:=21
noncomputable abbrev sw:Str:=AF "w"
noncomputable abbrev sws:Str:=AF "words"
noncomputable abbrev smk:Str:=AF "marked"
def mob(w:Int)(L:Nat)(mk:Int):Ob:=.ins cM [(sw,.int w),(sws,.loc L),(smk,.int mk)]
structure MM(st:SO)(m l:Nat)(w:Int)(M:Mem)(mk:Int)(L:Nat):Prop where
 o:st[m]?=AA (mob w l mk)
 d:Dc st l M L
 ne:m≠l
theorem yfQ{w mk:Int}{L:Nat}:([(sw,PV.int w),(sws,.loc L),(smk,.int mk)]:List (AQ×PV)).lookup sw=AA (.int w):=by ac_rfl
theorem yfL{w mk:Int}{L:Nat}:([(sw,PV.int w),(sws,.loc L),(smk,.int mk)]:List (AQ×PV)).lookup sws=AA (.loc L):=by ac_rfl
theorem yg2{w mk:Int}{L:Nat}:([(sw,PV.int w),(sws,.loc L),(smk,.int mk)]:List (AQ×PV)).lookup smk=AA (.int mk):=by ac_rfl
section
variable {st:SO}{m l L:Nat}{w mk:Int}{M:Mem}
theorem MM.fw(h:MM st m l w M mk L):ya4 cM st (.loc m) sw=AA (.int w):=by erw[ya4,h.o,mob,if_true];exact yfQ
theorem MM.fd(h:MM st m l w M mk L):ya4 cM st (.loc m) sws=AA (.loc l):=by erw[ya4,h.o,mob,if_true];exact yfL
theorem MM.fm(h:MM st m l w M mk L):ya4 cM st (.loc m) smk=AA (.int mk):=by erw[ya4,h.o,mob,if_true];exact yg2
theorem MM.ins(h:MM st m l w M mk L)(n:AQ)(hm:(([(sw,PV.non),(sws,.non),(smk,.non)]:List (AQ×PV)).lookup n).isNone=true:=by decide +kernel):ybY cM n st (.loc m)=AA true:=by
 have e:([(sw,PV.int w),(sws,.loc l),(smk,.int mk)]:List (AQ×PV)).lookup n=none:=by
  erw[Bn]at hm ⊢
  cases h1:n==sw with
  |true=>rw[h1]at hm;cases hm
  |false=>
   rw[h1]at hm
   cases h2:n==sws with
   |true=>rw[h2]at hm;cases hm
   |false=>
    rw[h2]at hm
    cases h3:n==smk with
    |true=>rw[h3]at hm;cases hm
    |false=>rfl
 erw[ybY,h.o,mob];rw[if_pos ⟨trivial,e⟩]
theorem zom{v:Int}:ybS smk (.int v) [(sw,PV.int w),(sws,.loc L),(smk,.int mk)]=[(sw,.int w),(sws,.loc L),(smk,.int v)]:=by ac_rfl
theorem Dc.set_ne{n:Nat}(h:Dc st l M L)(hn:n≠l)(o:Ob):Dc (st.set n o) l M L:=by
 let⟨kvs,h1,h2⟩:=h.ex;exact⟨kvs,by rw[AO hn];exact h1,h2⟩
theorem Dc.le{L':Nat}(h:Dc st l M L)(hL:L<=L'):Dc st l M L':=by
 let⟨kvs,h1,h2,h3,h4⟩:=h.ex;exact⟨kvs,h1,h2,h3,BO h4 hL⟩
theorem MM.sm(h:MM st m l w M mk L)(v:Int):ya2 cM st (.loc m) smk (.int v)=AA (st.set m (mob w l v))/\MM (st.set m (mob w l v)) m l w M v L:=by
 refine⟨?_,⟨rdS h.o,h.d.set_ne h.ne _,h.ne⟩⟩;erw[ya2,h.o,mob];rw[if_pos ⟨trivial,by simp⟩,zom]
theorem MM.sd(h:MM st m l w M mk L)(hL:L<999999)(c:Cel)(v:Int):∃st',ybd st (.loc l) (yM c) (.int v)=AA st'/\(∃o,st'=st.set l o)/\MM st' m l w (wr M c v) mk (L+1):=by
 let⟨kvs,e,d⟩:=zi7 h.d hL c.1 c.2 v;exact⟨_,e,⟨_,rfl⟩,by rw[AO (BL h.ne)];exact h.o,d,h.ne⟩
theorem zd2(k:Nat)(h:MM st m l w M mk L)(c:Cel):yc T (k+1) zt [.loc m,yM c] st=.ok (.int (rd M c)) st:=by
 have hT:T zt=AA zJ:=rfl;have g:ycg .get st (.loc l) [yM c,.int 0]=.ok (.int (rd M c)) st:=ziX h.d c.1 c.2;have o:yaL .get st (.loc l)=AA true:=by
  let⟨kvs,h1,_⟩:=h.d.ex;simp[yaL,ybe,h1]
 rw[zn hT rfl rfl];generalize yM c=q at *;simp! [zJ,h.fd,o,g,zbq,IC.ve32]
end
theorem highest(k n:Nat)(hn:n<=100)(s:SO):yc T (k+1) zc3 [.int n] s=.ok (.int (2^n-1)) s:=by
 have hT:T zc3=AA zb2:=rfl;have hs:yq .shl (.int 1) (.int (n:Int))=AA (.int (2^n)):=by
  erw[yq,binI];rw[if_pos ⟨by lia,by lia,by decide⟩];simp
 rw[zc hT rfl rfl rfl];simp! [zb2,zlL,hs]
theorem zaq{st s:SO}{a b:Int}:ybq st (.rt (.tp AC [.int a,.int b]) s)=.ok (.tp AC [.int a,.int b]) st:=rfl
section
variable {x y m:Int}{n:Nat}(hn:n<=100)(hn1:1<=n)(k:Nat)(st:SO)
theorem znZ:yq .shr (.int x) (.int (n:Int))=AA (.int (x/2^n)):=by
 erw[yq,binI];rw[if_pos (by lia)];simp
theorem band(a b:Int):yq .band (.int a) (.int b)=AA (.int (Al a b)):=rfl
theorem znL{x y:Int}(hx:0<=x)(hy:0<=y):Al x y=((x.toNat &&& y.toNat:Nat):Int):=by simp[Al,hx,hy]
theorem zno{x y:Int}(hx:¬0<=x)(hy:0<=y):Al x y=y-((y.toNat &&& (EC x).toNat:Nat):Int):=by simp[Al,hx,hy]
theorem zeB(a:Int):Al a (2^n-1)=a%2^n:=by
 have hp:(0:Int)<2^n:=A7 (by decide);have hc:((2^n:Nat):Int)=2^n:=by simp
 have ht:((2:Int)^n-1).toNat=2^n-1:=by lia
 by_cases h:0<=a
 .rw[znL h (by lia),ht,DU,Cm,hc,Dd h]
 .have hb:EC a=-a-1:=rfl;rw[zno h (by lia),ht,Nat.and_comm,DU,Cm,hc,hb,Dd (by lia)];have e:=B7 (-a-1) (2^n);have r0:=BF (-a-1) (show (2:Int)^n≠0 by lia);have r1:=An (-a-1) hp;generalize (-a-1)%2^n=r at *;generalize (-a-1)/2^n=q at *;generalize (2:Int)^n=P at *;have m:P*(-q-1)=-(P*q)-P:=by rw[HQ,Int.mul_neg,CW]
  rw[show a=(P-1-r)+P*(-q-1)by lia,Cg,Aw (by lia) (by lia)]
include hn
theorem zlY:yc T (k+1) zfF [.int n,.int x,.int y,.int m] st=.ok (.tp AC [.int x,.int m]) st:=by
 have hT:T zfF=AA zer:=rfl;rw[zc hT rfl rfl rfl];simp! [zer,zaq]
theorem zlM:yc T (k+2) zfB [.int n,.int x,.int y,.int m] st=.ok (.tp AC [.int (2^n-1-x),.int m]) st:=by
 have hT:T zfB=AA zd7:=rfl;have e:=highest k n hn;rw[zc hT rfl rfl rfl];simp! [zd7,zaq,e]
theorem zfT:yc T (k+2) zec [.int n,.int x,.int y,.int m] st=.ok (.tp AC [.int ((x+y+m)%2^n),.int ((x+y+m)/2^n)]) st:=by
 have hT:T zec=AA zcI:=rfl;have e:=highest k n hn;rw[zc hT rfl rfl rfl];simp! [zcI,zaq,e,band,znZ,zeB]
theorem zlC:yc T (k+2) zaZ [.int n,.int x,.int y,.int m] st=.ok (.tp AC [.int ((x-y-m)%2^n),.int (if x-y-m<0 then 1 else 0)]) st:=by
 have hT:T zaZ=AA z8:=rfl;have e:=highest k n hn;rw[zc hT rfl rfl rfl]
 by_cases c:x-y-m<0
 .have hc:yD .lt (.int (x-y-m)) (.int 0)=AA (.bl AB):=by simp[yD,ybC,c]
  rw[if_pos c];have hd:decide (x-y-m<0)=true:=decide_eq_true c;simp! [z8,zaq,e,band,zeB,hd]
 .rw[if_neg c];have hd:decide (x-y-m<0)=false:=decide_eq_false c;simp! [z8,zaq,e,band,zeB,hd]
theorem zmG:yc T (k+1) zc6 [.int n,.int x,.int y,.int m] st=.ok (.tp AC [.int (Al x y),.int m]) st:=by
 have hT:T zc6=AA zbK:=rfl;rw[zc hT rfl rfl rfl];simp! [zbK,zaq,zlG]
theorem zo4:yc T (k+1) zdT [.int n,.int x,.int y,.int m] st=.ok (.tp AC [.int (B0 x y),.int m]) st:=by
 have hT:T zdT=AA zcw:=rfl;rw[zc hT rfl rfl rfl];simp! [zcw,zaq,yd9]
theorem zo9:yc T (k+1) zdU [.int n,.int x,.int y,.int m] st=.ok (.tp AC [.int (Bl x y),.int m]) st:=by
 have hT:T zdU=AA zcy:=rfl;rw[zc hT rfl rfl rfl];simp! [zcy,zaq,zps]
theorem zhJ:yc T (k+3) zcV [.int n,.int x,.int y,.int m] st=.ok (.tp AC [.int ((x+x+m)%2^n),.int ((x+x+m)/2^n)]) st:=by
 have hT:T zcV=AA zbZ:=rfl;have e:=zfT (x:=x) (y:=x) (m:=m) hn k;rw[zc hT rfl rfl rfl];simp! [zbZ,zaq,e]
include hn1
theorem zli(x0:0<=x)(x1:x<2^n)(m0:0<=m)(m1:m<2):B0 (x/2) (m*2^(n-1))=x/2+m*(2^n/2):=by
 obtain⟨n',rfl⟩:∃n',n=n'+1:=⟨n-1,by lia⟩;let⟨a,rfl⟩:=zbz x0;let⟨b,rfl⟩:=zbz m0;have e1:((a:Int)/2)=((a/2:Nat):Int):=by lia
 have e2:((b:Int)*2^(n'+1-1))=((2^n' * b:Nat):Int):=by
  rw[show n'+1-1=n' from rfl,Ac];simp
 have hp:(2:Int)^(n'+1)=2*2^n':=by rw[Ad,Ac]
 have ha:a/2<2^n':=by
  have:(a:Int)<2*2^n':=by rw[<-hp];exact x1
  have h3:((2^n':Nat):Int)=2^n':=by simp
  lia
 rw[e1,e2,zdD,Nat.or_comm,<-Dm ha,hp,Int.mul_ediv_cancel_left _ (by decide)];have h3:((2^n' * b:Nat):Int)=b*2^n':=by rw[Ac];simp
 rw[Int.natCast_add,h3,Dl]
theorem zi8(x0:0<=x)(x1:x<2^n)(m0:0<=m)(m1:m<2):yc T (k+1) zeh [.int n,.int x,.int y,.int m] st=.ok (.tp AC [.int (x/2+m*(2^n/2)),.int (x%2)]) st:=by
 have hT:T zeh=AA zcB:=rfl;have h1:yq .shr (.int x) (.int 1)=AA (.int (x/2)):=by
  have:=znZ (x:=x) (n:=1);simpa using this
 have h2:yq .shl (.int m) (.int ((n:Int)-1))=AA (.int (m*2^(n-1))):=by
  erw[yq,binI];rw[if_pos ⟨by lia,by lia,by lia⟩]
  congr 3
  congr 1
  lia
 have h3:Al x 1=x%2:=zeB (n:=1) x;rw[zc hT rfl rfl rfl];simp! [zcB,zaq,h1,h2,yd9,zli hn hn1 x0 x1 m0 m1,band,h3]
end
theorem zjC{j:Nat}{k:Nat->Fl}:yek (AA j) k=k j:=rfl
theorem made{s:AQ}{j:Nat}(hj:mkV zM AB (.str s)=AA j)(k:Nat)(st:SO){n x y m a b:Int}(e:yc T k j [.int n,.int x,.int y,.int m] []=.ok (.tp AC [.int a,.int b]) []):
  yc T (k+1) zhR [.str s,.int n,.int x,.int y,.int m] st=.ok (.tp AC [.int a,.int b]) st:=by
 have hT:T zhR=AA zf4:=rfl;have hd:decide (5<6)=true:=rfl;rw[zc hT rfl rfl rfl];erw[zf4,AL,Aa,Ba,Ae,Ab,As,xs_cons,znT,IC.ve2,AN,fl_ok];simp! [hd,hj,zjC,e,zaq]
theorem zjA:mkV zM AB (.str "move")=AA zfF/\mkV zM AB (.str "bare")=AA zfB/\mkV zM AB (.str "sum")=AA zec/\mkV zM AB (.str "less")=AA zaZ/\mkV zM AB (.str "both")=AA zc6 /\
  mkV zM AB (.str "any")=AA zdT/\mkV zM AB (.str "odd")=AA zdU/\mkV zM AB (.str "twice")=AA zcV/\mkV zM AB (.str "half")=AA zeh:=by
 refine⟨?_,?_,?_,?_,?_,?_,?_,?_,?_⟩<;>decide +kernel
theorem ygf{i j:Nat}{k:Bool}{a b:PV}{ρ:IC.Env}:yJ (.t [i,j]) (.tp k [a,b]) ρ=AA ((ρ.set i (AA a)).set j (AA b)):=rfl
theorem yew{call:Cl}{ρ:IC.Env}{st:SO}:ev call ρ st (.neg (.cst (.int 1)))=.ok (.int (-1)) st:=by erw[ev,R.bind]
def okM(r:R PV)(st:SO)(m l:Nat)(w:Int)(M':Mem)(mk':Int)(L':Nat):Prop:=∃st',MM st' m l w M' mk' L'/\(∀n,n≠m->n≠l->st'[n]?=st[n]?)/\st'.length=st.length/\r=.ok .non st'
section
variable {st:SO}{m l L n:Nat}{mk:Int}{M:Mem}
theorem zaN(k:Nat)(h:MM st m l n M mk L)(hL:L<999999){s:AQ}{j:Nat}(hj:mkV zM AB (.str s)=AA j){t x z:Cel}{r:List PV}
  (hlast:∀st,idxV st (.tp AC (.str s::yM t::yM x::r)) (.int (-1))=AA (yM z)) {v m':Int} (e:yc T (k+3) j [.int n,.int (rd M x),.int (rd M z),.int mk] []=.ok (.tp AC [.int v,.int m']) []):
  okM (yc T (k+5) z4 [.loc m,.tp AC (.str s::yM t::yM x::r)] st) st m l n (wr M t v) m' (L+1):=by
 have hT:T z4=AA zK:=rfl;have e1:yc T (k+4) zt [.loc m,yM x] st=.ok (.int (rd M x)) st:=zd2 (k+3) h x;have e2:yc T (k+4) zt [.loc m,yM z] st=.ok (.int (rd M z)) st:=zd2 (k+3) h z;have e3:yc T (k+4) zhR [.str s,.int n,.int (rd M x),.int (rd M z),.int mk] st=_:=made hj (k+3) st e;have ih:=h.ins (AF "held_in");let⟨s1,d1,⟨o,ho⟩,h1⟩:=h.sd hL t v;let⟨d2,h2⟩:=h1.sm m';refine⟨_,h2,λq a b=>?_,by simp[ho],?_⟩
 .rw[AO (BL a),ho,AO (BL b)]
 rw[zn hT rfl rfl];generalize yM t=ct at *;generalize yM x=cx at *;generalize yM z=cz at *;simp! [zK,ih,ix0,ix1,ix2,e1,yew,hlast,e2,ygf,h.fw,h.fm,e3,h.fd,zig,d1,zaj,zft,d2,DA,IC.ve32,IC.ve37];rfl
end
section
variable {st:SO}{m l L n:Nat}{mk:Int}{M:Mem}
theorem zbO(k:Nat){s:AQ}{r:List PV}{M':Mem}{mk':Int}{L':Nat}(h:MM st m l n M mk L)(q1:yD .eq (.str s) (.str "mark")=AA (.bl AC))(q2:yD .eq (.str s) (.str "ask")=AA (.bl AC))(q3:yD .eq (.str s) (.str "set")=AA (.bl AC))(q4:yD .eq (.str s) (.str "times")=AA (.bl AC))
  (g:okM (yc T (k+5) z4 [.loc m,.tp AC (.str s::r)] st) st m l n M' mk' L'):okM (yc T (k+6) zl [.loc m,.tp AC (.str s::r)] st) st m l n M' mk' L':=by
 have hT:T zl=AA zj:=rfl;let⟨st',g1,g2,g3,e⟩:=g;refine⟨st',g1,g2,g3,?_⟩;have ih:=h.ins (AF "go_made");rw[zn hT rfl rfl];simp! [zj,ix0,q1,q2,q3,q4,ih,e,IC.ve37];rfl
theorem MM.le{L':Nat}{w:Int}(h:MM st m l w M mk L)(hL:L<=L'):MM st m l w M mk L':=⟨h.o,h.d.le hL,h.ne⟩
theorem zl2(k:Nat)(h:MM st m l n M mk L)(d:Int):okM (yc T (k+6) zl [.loc m,yW (.mark d)] st) st m l n M d (L+1):=by
 have hT:T zl=AA zj:=rfl;let⟨d2,h2⟩:=h.sm d;refine⟨_,h2.le (by lia),λq a b=>by rw[AO (BL a)],by simp,?_⟩;have q:yD .eq (.str "mark") (.str "mark")=AA (.bl AB):=by ac_rfl
 rw[zn hT rfl rfl];simp! [zj,yW,ix0,ix1,q,zft,d2,zaj];rfl
theorem zm9(k:Nat)(h:MM st m l n M mk L)(x:Cel):okM (yc T (k+6) zl [.loc m,yW (.ask x)] st) st m l n M (bi (!(rd M x==0))) (L+1):=by
 have hT:T zl=AA zj:=rfl;let⟨d2,h2⟩:=h.sm (bi (!(rd M x==0)));refine⟨_,h2.le (by lia),λq a b=>by rw[AO (BL a)],by simp,?_⟩;have q:yD .eq (.str "ask") (.str "mark")=AA (.bl AC):=by ac_rfl
 have q2:yD .eq (.str "ask") (.str "ask")=AA (.bl AB):=by ac_rfl
 have e1:yc T (k+5) zt [.loc m,yM x] st=.ok (.int (rd M x)) st:=zd2 (k+4) h x;have ih:=h.ins (AF "held_in");rw[zn hT rfl rfl];erw[yW];generalize yM x=cx at *
 cases e:(rd M x==0)with
 |true=>
  rw[e]at d2;have d2:ya2 cM st (.loc m) smk (.int 0)=_:=d2;simp! [zj,ix0,ix1,q,q2,ih,e1,e,zft,d2,zaj,IC.ve37];rfl
 |false=>
  rw[e]at d2;have d2:ya2 cM st (.loc m) smk (.int 1)=_:=d2;simp! [zj,ix0,ix1,q,q2,ih,e1,e,zft,d2,zaj,IC.ve37];rfl
theorem zni(k:Nat)(h:MM st m l n M mk L)(hL:L<999999)(t:Cel)(d:Int):okM (yc T (k+6) zl [.loc m,yW (.set t d)] st) st m l n (wr M t d) mk (L+1):=by
 have hT:T zl=AA zj:=rfl;let⟨s1,d1,⟨o,ho⟩,h1⟩:=h.sd hL t d;refine⟨_,h1,λq a b=>by rw[ho,AO (BL b)],by simp[ho],?_⟩;have q:yD .eq (.str "set") (.str "mark")=AA (.bl AC):=by ac_rfl
 have q2:yD .eq (.str "set") (.str "ask")=AA (.bl AC):=by ac_rfl
 have q3:yD .eq (.str "set") (.str "set")=AA (.bl AB):=by ac_rfl
 rw[zn hT rfl rfl];erw[yW];generalize yM t=ct at *;simp! [zj,ix0,ix1,ix2,q,q2,q3,h.fd,zig,d1,zaj,IC.ve32];rfl
theorem yco{s a b:PV}:∀st,idxV st (.tp AC [s,a,b]) (.int (-1))=AA b:=λst=>rfl
theorem yb5{s a b c:PV}:∀st,idxV st (.tp AC [s,a,b,c]) (.int (-1))=AA c:=λst=>rfl
theorem zls(a:Int):(if a<0 then(1:Int)else 0)=bi (decide (a<0)):=by
 by_cases h:a<0<;>simp[h,bi]
theorem zor(k:Nat)(h:MM st m l n M mk L)(hL:L<999999)(hn:n<=100)(hn1:1<=n)(r:Rw)(hh:∀t x,r=.half t x->0<=rd M x/\rd M x<2^n/\0<=mk/\mk<2):
  okM (yc T (k+6) zl [.loc m,yW r] st) st m l n (stepM (2^n) M mk r).1 (stepM (2^n) M mk r).2 (L+1):=by
 let⟨j1,j2,j3,j4,j5,j6,j7,j8,j9⟩:=zjA
 cases r with
 |mark d=>exact zl2 k h d
 |ask x=>exact zm9 k h x
 |set t d=>exact zni k h hL t d
 |move t x=>exact zbO k h (by ac_rfl) (by ac_rfl) (by ac_rfl) (by ac_rfl) (zaN k h hL j1 yco (zlY hn (k+2) []))
 |bare t x=>exact zbO k h (by ac_rfl) (by ac_rfl) (by ac_rfl) (by ac_rfl) (zaN k h hL j2 yco (zlM hn (k+1) []))
 |twice t x=>
  have e:=zhJ (x:=rd M x) (y:=rd M x) (m:=mk) hn k [];rw[show rd M x+rd M x+mk=2*rd M x+mk by lia]at e;exact zbO k h (by ac_rfl) (by ac_rfl) (by ac_rfl) (by ac_rfl) (zaN k h hL j8 yco e)
 |half t x=>
  let⟨a,b,c,d⟩:=hh t x rfl;exact zbO k h (by ac_rfl) (by ac_rfl) (by ac_rfl) (by ac_rfl) (zaN k h hL j9 yco (zi8 hn hn1 (k+2) [] a b c d))
 |sum t x y=>exact zbO k h (by ac_rfl) (by ac_rfl) (by ac_rfl) (by ac_rfl) (zaN k h hL j3 yb5 (zfT hn (k+1) []))
 |less t x y=>
  have e:=zlC (x:=rd M x) (y:=rd M y) (m:=mk) hn (k+1) [];rw[zls]at e;exact zbO k h (by ac_rfl) (by ac_rfl) (by ac_rfl) (by ac_rfl) (zaN k h hL j4 yb5 e)
 |both t x y=>exact zbO k h (by ac_rfl) (by ac_rfl) (by ac_rfl) (by ac_rfl) (zaN k h hL j5 yb5 (zmG hn (k+2) []))
 |any t x y=>exact zbO k h (by ac_rfl) (by ac_rfl) (by ac_rfl) (by ac_rfl) (zaN k h hL j6 yb5 (zo4 hn (k+2) []))
 |odd t x y=>exact zbO k h (by ac_rfl) (by ac_rfl) (by ac_rfl) (by ac_rfl) (zaN k h hL j7 yb5 (zo9 hn (k+2) []))
end
noncomputable abbrev cZ:Cel:=(122,0)
noncomputable abbrev cS:Cel:=(115,0)
noncomputable abbrev cT:Cel:=(116,0)
noncomputable def yF(f:Int->Rw):Nat->List Rw
 |0=>[]
 |n+1=>yF f n++[f n]
def yw(n:Nat):List Rw:=[.set cS 0]++yF (λi=>Rw.any cS cS (99,i)) n++[.ask cS,.set (109,2) 1,.less (109,2) (109,2) cZ,.twice cT (99,(n:Int)-1),.sum (109,3) cZ cZ]
noncomputable def yj(W:Int):Nat->Int->List Int
 |0,_=>[]
 |n+1,x=>x%W::yj W n (x/W)
theorem zY(W:Int):∀n x,(yj W n x).length=n
 |0,_=>rfl
 |n+1,x=>by rw[yj,AS,zY]
def yaG(c:Nat):Nat->List Int->Mem->Mem
 |_,[],M=>M
 |i,v::vs,M=>yaG c (i+1) vs (upd M c i v)
noncomputable def M0:Mem:=λ_ _=>0
def yak(W:Int)(n:Nat)(x y:Int):Mem:=yaG 98 0 (yj W n y) (yaG 97 0 (yj W n x) M0)
noncomputable def yX(W:Int)(M:Mem)(c:Nat):Nat->Int
 |0=>0
 |n+1=>yX W M c n+M c n*W^n
structure Cx where
 l:Nat
 c:Int
 i:Int
 j:Int
 m:Int
deriving DecidableEq
inductive Op where
 |fig (d:Int)|cel (x:Cx)
deriving DecidableEq
structure Rs where
 nm:AQ
 ops:List Op
deriving DecidableEq
inductive T2 where
 |row (r:Rs)|rounds (c m t:Int) (rs:List Rs)
deriving DecidableEq
inductive T1 where
 |row (r:Rs)|rounds (c m t:Int) (ps:List T2)
deriving DecidableEq
noncomputable def Cx.at(x:Cx)(I J n:Int):Int:=x.c+x.i*I+x.j*J+x.m*n
def Op.pv(I J n:Int):Op->PV
 |.fig d=>.int d
 |.cel x=>yQ x.l (x.at I J n)
def Rs.pv(r:Rs)(I J n:Int):PV:=.tup (.str r.nm::r.ops.map (Op.pv I J n))
noncomputable def cnt(c m t w n:Int):Nat:=(c+m*n+t*w*n).toNat
noncomputable def upTo{α:Type}(f:Nat->List α):Nat->List α
 |0=>[]
 |n+1=>upTo f n++f n
def T2.rows(w n:Int)(I:Nat):T2->List PV
 |.row r=>[r.pv I 0 n]
 |.rounds c m t rs=>upTo (λJ=>rs.map λr=>r.pv I J n) (cnt c m t w n)
def T2.rnd(w n:Int):T2->Nat
 |.row _=>0
 |.rounds c m t _=>cnt c m t w n
def yaw(w n:Int)(I:Nat)(ps:List T2):List PV:=ps.flatMap (T2.rows w n I)
def ybA(w n:Int)(ps:List T2):Nat:=(ps.map (T2.rnd w n)).sum
def T1.rows(w n:Int):T1->List PV
 |.row r=>[r.pv 0 0 n]
 |.rounds c m t ps=>upTo (λI=>yaw w n I ps) (cnt c m t w n)
def T1.rnd(w n:Int):T1->Nat
 |.row _=>0
 |.rounds c m t ps=>cnt c m t w n*(1+ybA w n ps)
def yK(w n:Int)(ps:List T1):List PV:=ps.flatMap (T1.rows w n)
def yaY(w n:Int)(ps:List T1):Nat:=(ps.map (T1.rnd w n)).sum
noncomputable def sm(i:Int):Bool:=decide (i.natAbs<=200)
def ydK:PV->Option Op
 |.int d=>AA (.fig d)
 |.tp _ [.str s,.tp _ [.int c,.int i,.int j,.int m]]=>if s=chS (s.cps.getD 0 0)/\(sm c&&sm i&&sm j&&sm m)=AB then AA (.cel ⟨s.cps.getD 0 0,c,i,j,m⟩)else AD
 |_=>AD
def ybw:List PV->Option (List Op)
 |[]=>AA []
 |v::vs=>match ydK v,ybw vs with
  |some a,AA b=>AA (a::b)
  |_,_=>AD
def rowOf:PV->Option Rs
 |.tp _ (.str nm::vs)=>match ybw vs with
  |some ops=>if vs.length<100 then AA ⟨nm,ops⟩else AD
  |none=>AD
 |_=>AD
noncomputable def ydF(s:AQ):Bool:=decide (s=AF "row")
def yb8:PV->Option Rs
 |.tp _ [.str s,v]=>if ydF s then rowOf v else AD
 |_=>AD
def deepOf:List PV->Option (List Rs)
 |[]=>AA []
 |v::vs=>match yb8 v,deepOf vs with
  |some a,AA b=>AA (a::b)
  |_,_=>AD
noncomputable def yca(s:AQ):Bool:=decide (s=AF "rounds")
def part2(v:PV):Option T2:=
 match v with
 |.tp _ [.str s,.tp _ [.int c,.int m,.int t],_,.tp _ vs]=>if yca s&&(sm c&&sm m&&sm t)then(deepOf vs).map (.rounds c m t)else AD
 |v=>(yb8 v).map .row
def yaN:List PV->Option (List T2)
 |[]=>AA []
 |v::vs=>match part2 v,yaN vs with
  |some a,AA b=>AA (a::b)
  |_,_=>AD
def part1(v:PV):Option T1:=
 match v with
 |.tp _ [.str s,.tp _ [.int c,.int m,.int t],_,.tp _ vs]=>if yca s&&(sm c&&sm m&&sm t)then(yaN vs).map (.rounds c m t)else AD
 |v=>(yb8 v).map .row
def yaP:List PV->Option (List T1)
 |[]=>AA []
 |v::vs=>match part1 v,yaP vs with
  |some a,AA b=>AA (a::b)
  |_,_=>AD
theorem zmi{v:PV}{o:Op}(h:ydK v=AA o):(∃d,o=.fig d/\v=.int d) \/ ∃a b x,o=.cel x/\v=.tp a [.str (chS x.l),.tp b [.int x.c,.int x.i,.int x.j,.int x.m]]/\x.i.natAbs<=200/\x.j.natAbs<=200/\x.m.natAbs<=200:=by
 unfold ydK at h;split at h
 .left;cases h;exact⟨_,rfl,rfl⟩
 .right;rename_i a s b c i j m;split at h
  .rename_i q
   cases h
   have q2:=q.2;erw[sm,AK,decide_eq_true_eq]at q2;refine⟨a,b,_,rfl,?_,q2.1.1.2,q2.1.2,q2.2⟩;simp only;rw[<-q.1]
  .cases h
 .cases h
theorem zjj{v:PV}{r:Rs}(h:rowOf v=AA r):∃a vs,v=.tp a (.str r.nm::vs)/\ybw vs=AA r.ops/\vs.length<100:=by
 unfold rowOf at h;split at h
 .rename_i a nm vs;split at h
  .rename_i ops q;split at h
   .rename_i z
    cases h;exact⟨a,vs,rfl,q,z⟩
   .cases h
  .cases h
 .cases h
theorem zk2{v:PV}{r:Rs}(h:yb8 v=AA r):∃a v1,v=.tp a [.str "row",v1]/\rowOf v1=AA r:=by
 unfold yb8 at h;split at h
 .rename_i a s v1;split at h
  .rename_i q;have q:s=AF "row":=by simpa [ydF] using q
   exact⟨a,v1,by rw[q],h⟩
  .cases h
 .cases h
theorem zi0{v:PV}{p:T2}(h:part2 v=AA p):(∃r,p=.row r/\yb8 v=AA r) \/ ∃a b sn d vs c m t rs,p=.rounds c m t rs/\v=.tp a [.str "rounds",.tp b [.int c,.int m,.int t],sn,.tp d vs]/\deepOf vs=AA rs/\c.natAbs<=200/\m.natAbs<=200/\t.natAbs<=200:=by
 unfold part2 at h;split at h
 .right;rename_i a s b c m t sn d vs;split at h
  .rename_i q;erw[yca,sm,AK,decide_eq_true_eq]at q
   cases e:deepOf vs with
   |none=>rw[e]at h;cases h
   |some rs=>
    rw[e]at h
    cases h
    exact⟨a,b,sn,d,vs,c,m,t,rs,rfl,by rw[q.1],e,q.2.1.1,q.2.1.2,q.2.2⟩
  .cases h
 .left
  cases e:yb8 v with
  |none=>rw[e]at h;cases h
  |some r=>rw[e]at h;cases h;exact⟨r,rfl,rfl⟩
theorem zjw{v:PV}{p:T1}(h:part1 v=AA p):(∃r,p=.row r/\yb8 v=AA r) \/ ∃a b sn d vs c m t ps,p=.rounds c m t ps/\v=.tp a [.str "rounds",.tp b [.int c,.int m,.int t],sn,.tp d vs]/\yaN vs=AA ps/\c.natAbs<=200/\m.natAbs<=200/\t.natAbs<=200:=by
 unfold part1 at h;split at h
 .right;rename_i a s b c m t sn d vs;split at h
  .rename_i q;erw[yca,sm,AK,decide_eq_true_eq]at q
   cases e:yaN vs with
   |none=>rw[e]at h;cases h
   |some rs=>
    rw[e]at h
    cases h
    exact⟨a,b,sn,d,vs,c,m,t,rs,rfl,by rw[q.1],e,q.2.1.1,q.2.1.2,q.2.2⟩
  .cases h
 .left
  cases e:yb8 v with
  |none=>rw[e]at h;cases h
  |some r=>rw[e]at h;cases h;exact⟨r,rfl,rfl⟩
noncomputable abbrev cU:Nat:=20
noncomputable abbrev sn:Str:=AF "n"
noncomputable abbrev sst:Str:=AF "steps"
noncomputable abbrev srw:Str:=AF "rows"
noncomputable abbrev srd:Str:=AF "rounds"
abbrev ufs(w n:Int)(l:Nat)(r q:Int):List (AQ×PV):=[(sw,.int w),(sn,.int n),(sst,.loc l),(srw,.int r),(srd,.int q)]
def uob(w n:Int)(l:Nat)(r q:Int):Ob:=.ins cU (ufs w n l r q)
structure UM(st:SO)(u l:Nat)(w n r q:Int)(xs:List PV):Prop where
 o:st[u]?=AA (uob w n l r q)
 d:st[l]?=AA (.lst xs)
 ne:u≠l
section
variable {st:SO}{u l:Nat}{w n r q:Int}{xs:List PV}
theorem UM.fw(h:UM st u l w n r q xs):ya4 cU st (.loc u) sw=AA (.int w):=by erw[ya4,h.o,uob,if_true];ac_rfl
theorem UM.fn(h:UM st u l w n r q xs):ya4 cU st (.loc u) sn=AA (.int n):=by erw[ya4,h.o,uob,if_true];ac_rfl
theorem UM.fs(h:UM st u l w n r q xs):ya4 cU st (.loc u) sst=AA (.loc l):=by erw[ya4,h.o,uob,if_true];ac_rfl
theorem UM.fr(h:UM st u l w n r q xs):ya4 cU st (.loc u) srw=AA (.int r):=by erw[ya4,h.o,uob,if_true];ac_rfl
theorem UM.fq(h:UM st u l w n r q xs):ya4 cU st (.loc u) srd=AA (.int q):=by erw[ya4,h.o,uob,if_true];ac_rfl
theorem UM.sr(h:UM st u l w n r q xs)(v:Int):ya2 cU st (.loc u) srw (.int v)=AA (st.set u (uob w n l v q))/\UM (st.set u (uob w n l v q)) u l w n v q xs:=by
 refine⟨?_,rdS h.o,by rw[AO h.ne];exact h.d,h.ne⟩;erw[ya2,h.o,uob];rw[if_pos ⟨trivial,by simp⟩,show ybS srw (.int v) (ufs w n l r q)=ufs w n l v q by ac_rfl]
theorem UM.sq(h:UM st u l w n r q xs)(v:Int):ya2 cU st (.loc u) srd (.int v)=AA (st.set u (uob w n l r v))/\UM (st.set u (uob w n l r v)) u l w n r v xs:=by
 refine⟨?_,rdS h.o,by rw[AO h.ne];exact h.d,h.ne⟩;erw[ya2,h.o,uob];rw[if_pos ⟨trivial,by simp⟩,show ybS srd (.int v) (ufs w n l r q)=ufs w n l r v by ac_rfl]
theorem UM.ap(h:UM st u l w n r q xs)(hx:xs.length<1000000)(v:PV):ycg .append st (.loc l) [v]=.ok .non (st.set l (.lst (xs++[v])))/\UM (st.set l (.lst (xs++[v]))) u l w n r q (xs++[v]):=by
 refine⟨?_,by rw[AO (BL h.ne)];exact h.o,rdS h.d,h.ne⟩;unfold ycg;erw[ydM,h.d];rw[if_pos hx]
theorem UM.ok(h:UM st u l w n r q xs):yaL .append st (.loc l)=AA true:=by simp[yaL,yad,h.d]
theorem UM.ins(h:UM st u l w n r q xs)(x:AQ)(hx:((ufs 0 0 0 0 0).lookup x).isNone=true:=by decide +kernel):ybY cU x st (.loc u)=AA true:=by
 have e:(ufs w n l r q).lookup x=none:=by
  erw[ufs,Bn]at hx ⊢
  cases h1:x==sw<;>rw[h1]at hx<;>simp only at hx ⊢<;>try cases hx
  cases h2:x==sn<;>rw[h2]at hx<;>simp only at hx ⊢<;>try cases hx
  cases h3:x==sst<;>rw[h3]at hx<;>simp only at hx ⊢<;>try cases hx
  cases h4:x==srw<;>rw[h4]at hx<;>simp only at hx ⊢<;>try cases hx
  cases h5:x==srd<;>rw[h5]at hx<;>simp only at hx ⊢<;>try cases hx
 erw[ybY,h.o,uob];rw[if_pos ⟨trivial,e⟩]
theorem zha(k:Nat)(h:UM st u l w n r q xs)(hq:q+1<=4000):∃s,yc T (k+1) zH [.loc u] st=.ok .non s/\UM s u l w n r (q+1) xs:=by
 have hT:T zH=AA zu:=rfl;let⟨d,h2⟩:=h.sq (q+1);have c:decide (q+1 > 4000)=false:=decide_eq_false (by lia);have vM:zbH=.int 4000:=rfl;refine⟨_,?_,h2⟩;rw[zn hT rfl rfl];have f1:=h.fq;have f2:=h2.fq;simp! [zu,f1,zft,d,zaj,f2,vM,c,IC.ve32,zbq];rfl
theorem ze1(k:Nat):∀(G:List Int),G.length<=2->∀s:SO,yc T (k+1) zaL [.tp AC (G.map .int)] s=.ok (.tp AC [.int (G.headD 0),.int (G.tail.headD 0)]) s
 |[],_,s=>by
  have hT:T zaL=AA zau:=rfl;rw[zc hT rfl rfl rfl];rfl
 |[a],_,s=>by
  have hT:T zaL=AA zau:=rfl;rw[zc hT rfl rfl rfl];rfl
 |[a,b],_,s=>by
  have hT:T zaL=AA zau:=rfl;rw[zc hT rfl rfl rfl];rfl
theorem zh6(k:Nat)(h:UM st u l w n r q xs)(hx:xs.length<1000000)(sen:PV)(G:List Int)(hG:G.length<=2):∃s,yc T (k+2) zG [.loc u,sen,.tp AC (G.map .int)] st=.ok .non s/\UM s u l w n r q (xs++[.tp AC [.str "asked",sen,.int (G.headD 0),.int (G.tail.headD 0)]]):=by
 have hT:T zG=AA zy:=rfl;have e1:=ze1 k G hG st;let⟨a,h2⟩:=h.ap hx (.tp AC [.str "asked",sen,.int (G.headD 0),.int (G.tail.headD 0)]);have bt:∀(i j:Nat) (a b:PV) (ρ:IC.Env),yJ (.t [i,j]) (.tp AC [a,b]) ρ=AA ((ρ.set i (AA a)).set j (AA b)):=λ_ _ _ _ _=>rfl;refine⟨_,?_,h2⟩;rw[zn hT rfl rfl];have f1:=h.fs;have o:=h.ok;generalize PV.tp AC (G.map .int)=gv at *;simp! [zy,e1,bt,f1,o,a,IC.ve32,zbq];rfl
theorem ziZ(k:Nat)(h:UM st u l w n r q xs)(bb:Bool)(c m t:Int)(b1:yq .mul (.int m) (.int n)=AA (.int (m*n)))(b2:yq .mul (.int t) (.int w)=AA (.int (t*w)))(b3:yq .mul (.int (t*w)) (.int n)=AA (.int (t*w*n))):
  yc T (k+1) zN [.loc u,.tp bb [.int c,.int m,.int t]] st=.ok (.int (c+m*n+t*w*n)) st:=by
 have hT:T zN=AA zz:=rfl;have bt:∀(i j k:Nat) (a b c:PV) (ρ:IC.Env),yJ (.t [i,j,k]) (.tp bb [a,b,c]) ρ=AA (((ρ.set i (AA a)).set j (AA b)).set k (AA c)):=λ_ _ _ _ _ _ _=>rfl;rw[zn hT rfl rfl];have f1:=h.fw;have f2:=h.fn;simp! [zz,bt,f1,f2,b1,b2,b3,IC.ve32,zbq]
theorem zjV(k:Nat){b:Bool}{c i j m I J n:Int}(hi:i.natAbs<=200)(hj:j.natAbs<=200)(hm:m.natAbs<=200)(s:SO):yc T (k+1) zdr [.tp b [.int c,.int i,.int j,.int m],.int n,.int I,.int J] s=.ok (.int (c+i*I+j*J+m*n)) s:=by
 have hT:T zdr=AA zbk:=rfl;have h1:i.natAbs<18446744073709551616:=by lia
 have h2:j.natAbs<18446744073709551616:=by lia
 have h3:m.natAbs<18446744073709551616:=by lia
 have j2:∀st,idxV st (.tp b [.int c,.int i,.int j,.int m]) (.int 2)=AA (.int j):=λ_=>rfl;have j3:∀st,idxV st (.tp b [.int c,.int i,.int j,.int m]) (.int 3)=AA (.int m):=λ_=>rfl;rw[zc hT rfl rfl rfl];simp! [zbk,ix0,ix1,j2,j3,zaA h1,zaA h2,zaA h3];rfl
theorem placed(k:Nat){v:PV}{o:Op}(h:ydK v=AA o)(I J n:Int)(s:SO):yc T (k+2) zbf [v,.int n,.int I,.int J] s=.ok (o.pv I J n) s:=by
 have hT:T zbf=AA zaG:=rfl;rcases zmi h with⟨d,rfl,rfl⟩|⟨f1,f2,x,rfl,rfl,q1,q2,q3⟩
 .rw[zc hT rfl rfl rfl];have hi:yaK (.int d) [.tuple]=AA (.bl AC):=rfl;simp! [zaG,hi];rfl
 .have hi:yaK (.tp f1 [.str (chS x.l),.tp f2 [.int x.c,.int x.i,.int x.j,.int x.m]]) [.tuple]=AA (.bl AB):=rfl;have e:=λs=>zjV k (b:=f2) (c:=x.c) (I:=I) (J:=J) (n:=n) q1 q2 q3 s;rw[zc hT rfl rfl rfl];simp! [zaG,hi,ix0,ix1,e];rfl
theorem zgt(k:Nat)(x:AQ)(I J n:Int)(s:SO):yc T (k+2) zbf [.str x,.int n,.int I,.int J] s=.ok (.str x) s:=by
 have hT:T zbf=AA zaG:=rfl;rw[zc hT rfl rfl rfl];have hi:yaK (.str x) [.tuple]=AA (.bl AC):=rfl;simp! [zaG,hi];rfl
def arC:Ce:=.call zbf (.cons (.var 0) (.cons (.fld cU (.var 3) sn) (.cons (.var 1) (.cons (.var 2) .nil))))
theorem zf2(k:Nat)(h:UM st u l w n r q xs)(I J:Int):∀(vs:List PV) (ops:List Op),ybw vs=AA ops->yal (yc T (k+2)) [AD,AA (.int I),AA (.int J),AA (.loc u)] (.n 0) (.cst (.bl AB)) arC vs st=.ok (ops.map (Op.pv I J n)) st
 |[],ops,e=>by cases e;exact za1
 |v::vs,ops,e=>by
  unfold ybw at e;split at e
  .rename_i a b ha hb
   cases e
   have hp:=placed k ha I J n st;have f1:=h.fn;have ih:=zf2 k h I J vs b hb;have one:ybh (yc T (k+2)) [AD,AA (.int I),AA (.int J),AA (.loc u)] (.n 0) (.cst (.bl AB)) arC v st=.ok (AA (a.pv I J n)) st:=by
    simp! [ybh,arC,f1,hp,IC.ve32]
   rw[zZ,one,bd_ok,ih,bd_ok];rfl
  .cases e
theorem zhS:∀{vs:List PV} {ops:List Op},ybw vs=AA ops->ops.length=vs.length
 |[],ops,e=>by cases e;rfl
 |v::vs,ops,e=>by
  unfold ybw at e;split at e
  .rename_i a b ha hb
   cases e
   rw[AS,AS,zhS hb]
  .cases e
theorem zmv(k:Nat)(h:UM st u l w n r q xs)(hx:xs.length<1000000)(hr:r+1<=4000){v:PV}{rs:Rs}(hv:rowOf v=AA rs)(G:List Int)(hG:G.length<=2)
  (hrow:∀s,yc T (k+2) zbd [rs.pv (G.headD 0) (G.tail.headD 0) n] s=.ok (.bl AB) s):
  ∃s,yc T (k+3) zat [.loc u,v,.tp AC (G.map .int)] st=.ok .non s/\UM s u l w n (r+1) q (xs++[.tp AC [.str "row",rs.pv (G.headD 0) (G.tail.headD 0) n]]):=by
 have hT:T zat=AA zC:=rfl;let⟨a,vs,rfl,ho,hl⟩:=zjj hv;have e1:=ze1 (k+1) G hG st;generalize G.headD 0=I at *;generalize G.tail.headD 0=J at *;have hl2:=zhS ho;have e2:yal (yc T (k+2)) [AD,AA (.int I),AA (.int J),AA (.loc u)] (.n 0) (.cst (.bl AB)) arC (.str rs.nm::vs) st=.ok (.str rs.nm::rs.ops.map (Op.pv I J n)) st:=by
  have hp:=zgt k rs.nm I J n st;have f1:=h.fn;have one:ybh (yc T (k+2)) [AD,AA (.int I),AA (.int J),AA (.loc u)] (.n 0) (.cst (.bl AB)) arC (.str rs.nm) st=.ok (AA (.str rs.nm)) st:=by
   simp! [ybh,arC,f1,hp,IC.ve32]
  rw[zZ,one,bd_ok,zf2 k h I J vs rs.ops ho,bd_ok];rfl
 have e2:yal (yc T (k+2)) [AD,AA (.int I),AA (.int J),AA (.loc u)] (.n 0) (.cst (.bl AB)) (.call zbf (.cons (.var 0) (.cons (.fld cU (.var 3) sn) (.cons (.var 1) (.cons (.var 2) .nil))))) (.str rs.nm::vs) st=_:=e2;let⟨d,h2⟩:=h.sr (r+1);have ht:∀st,yar .tuple st [.lst (.str rs.nm::rs.ops.map (Op.pv I J n))]=AA (rs.pv I J n):=λ_=>rfl;let⟨b,h3⟩:=h2.ap hx (.tp AC [.str "row",rs.pv I J n]);have bt:∀(i j:Nat) (a b:PV) (ρ:IC.Env),yJ (.t [i,j]) (.tp AC [a,b]) ρ=AA ((ρ.set i (AA a)).set j (AA b)):=λ_ _ _ _ _=>rfl;have c:decide (r+1 > 4000)=false:=decide_eq_false (by lia);have vM:zdh=.int 4000:=rfl;have f1:=h.fr;have f2:=h2.fr;have f3:=h2.fs;have o:=h2.ok;have lr:=λst=>zcl (.str rs.nm::rs.ops.map (Op.pv I J n)) (by simp[hl2];lia) st;refine⟨_,?_,h3⟩;rw[zn hT rfl rfl];generalize PV.tp AC (G.map .int)=gv at *;generalize PV.str rs.nm::rs.ops.map (Op.pv I J n)=row at *;generalize rs.pv I J n=rowv at *;simp! [zC,e1,bt,e2,lr,ht,f1,zft,d,zaj,hrow,f2,vM,c,f3,o,b,IC.ve32,zbq];rfl
end
inductive StR:List PV->List PV->Prop
 |nil:StR [] []
 |row {xs rs v}:nL v=AB->StR xs rs->StR (xs++[.tp AC [.str "row",v]]) (rs++[v])
 |ask {xs rs a b c}:nLs [a,b,c]=AB->StR xs rs->StR (xs++[.tp AC [.str "asked",a,b,c]]) rs
def US(st:SO)(u l:Nat)(w n:Int)(R:List PV)(q:Int)(a:Nat):Prop:=∃xs,UM st u l w n R.length q xs/\StR xs R/\xs.length<=R.length+a
section
variable {st:SO}{u l:Nat}{w n q:Int}{R:List PV}{a:Nat}
noncomputable def gpB:Css:=match yh.body with
 |.cons (.for _ _ b) _=>b
 |x=>x
theorem zdO:yD .eq (.str "row") (.str "row")=AA (.bl AB):=by ac_rfl
theorem zgS:yD .eq (.str "rounds") (.str "row")=AA (.bl AC):=by ac_rfl
theorem zjh(I J n:Int)(o:Op):nL (o.pv I J n)=true:=by cases o<;>rfl
theorem zeR(I J n:Int):∀ops:List Op,nLs (ops.map (Op.pv I J n))=AB
 |[]=>rfl
 |o::os=>by rw[AL,nLs,zjh,zeR I J n os];rfl
theorem zb5(r:Rs)(I J n:Int):nL (r.pv I J n)=true:=by
 show nLs (PV.str r.nm::r.ops.map (Op.pv I J n))=AB;rw[nLs,zeR];rfl
theorem zhF(k:Nat)(H:US st u l w n R q a)(hR:R.length+1<=4000)(ha:a<=500000){v:PV}{r:Rs}(hv:yb8 v=AA r)(G:List Int)(hG:G.length<=2)
  (hrow:∀s,yc T (k+2) zbd [r.pv (G.headD 0) (G.tail.headD 0) n] s=.ok (.bl AB) s) (p1:Option PV):
  ∃s,exs (yc T (k+3)) [AA (.loc u),p1,AA (.tp AC (G.map .int)),AA v] st gpB=.nx [AA (.loc u),p1,AA (.tp AC (G.map .int)),AA v] s/\US s u l w n (R++[r.pv (G.headD 0) (G.tail.headD 0) n]) q a:=by
 let⟨xs,h,hs,hx⟩:=H;let⟨b,v1,rfl,h1⟩:=zk2 hv;let⟨s,e,h2⟩:=zmv k h (by lia) (by lia) h1 G hG hrow;have ih:=h.ins (AF "add_row");refine⟨s,?_,_,?_,.row (zb5 _ _ _ _) hs,by simp;lia⟩
 .generalize PV.tp AC (G.map .int)=gv at *;simp! [gpB,yh,ix0,ix1,zdO,ih,e,IC.ve37]
 .rw[Af,DN];exact h2
theorem zh0(k:Nat)(I J:Int)(p1:Option PV)(ha:a<=500000):∀(vs:List PV) (rs:List Rs) (st:SO) (R:List PV) (p3:Option PV),deepOf vs=AA rs->US st u l w n R q a->R.length+rs.length<=4000 ->
  (∀r∈rs,∀s,yc T (k+2) zbd [r.pv I J n] s=.ok (.bl AB) s) ->
  ∃s p3',yaU (yc T (k+3)) (.n 3) gpB vs [AA (.loc u),p1,AA (.tp AC [.int I,.int J]),p3] st=.nx [AA (.loc u),p1,AA (.tp AC [.int I,.int J]),p3'] s/\US s u l w n (R++rs.map λr=>r.pv I J n) q a
 |[],rs,st,R,p3,hd,H,_,_=>by
  cases hd
  exact⟨st,p3,zw,by simpa using H⟩
 |v::vs,rs,st,R,p3,hd,H,hl,hrow=>by
  unfold deepOf at hd;split at hd
  .rename_i x y hx hy
   cases hd
   erw[AS]at hl;let⟨s1,e1,H1⟩:=zhF k H (by lia) ha hx [I,J] (by simp) (hrow x (by simp)) p1;have e1:exs (yc T (k+3)) [AA (.loc u),p1,AA (.tp AC [.int I,.int J]),AA v] st gpB=.nx [AA (.loc u),p1,AA (.tp AC [.int I,.int J]),AA v] s1:=e1;let⟨s2,p3',e2,H2⟩:=zh0 k I J p1 ha vs y s1 _ (AA v) hy H1 (by simp;lia) (λr hr=>hrow r (by simp[hr]));refine⟨s2,p3',?_,by simpa using H2⟩;rw[zk (ρ1:=[AA (.loc u),p1,AA (.tp AC [.int I,.int J]),AA v]) rfl,e1];exact e2
  .cases hd
theorem zim{α:Type}(f:Nat->List α){i:Nat}:∀n,i<=n->(upTo f i).length<=(upTo f n).length
 |0,h=>by
  rw[show i=0 by lia];exact AU _
 |n+1,h=>by
  rcases C3 i (n+1)with h1|h1
  .have:=zim f (i:=i) n (by lia);rw[upTo,Af];lia
  .have:i=n+1:=by lia
   rw[this];exact AU _
theorem US.ask(H:US st u l w n R q a)(k:Nat)(ha:a+1<=500000)(hR:R.length<=4000)(sen:PV)(hsn:nL sen=AB)(G:List Int)(hG:G.length<=2):∃s,yc T (k+2) zG [.loc u,sen,.tp AC (G.map .int)] st=.ok .non s/\US s u l w n R q (a+1):=by
 let⟨xs,h,hs,hx⟩:=H;let⟨s,e,h2⟩:=zh6 k h (by lia) sen G hG;exact⟨s,e,_,h2,.ask (by simp[nLs,nL,hsn]) hs,by simp;lia⟩
theorem US.rnd(H:US st u l w n R q a)(k:Nat)(hq:q+1<=4000):∃s,yc T (k+1) zH [.loc u] st=.ok .non s/\US s u l w n R (q+1) a:=by
 let⟨xs,h,hs,hx⟩:=H;let⟨s,e,h2⟩:=zha k h hq;exact⟨s,e,_,h2,hs,hx⟩
theorem US.ins(H:US st u l w n R q a)(x:AQ)(hx:((ufs 0 0 0 0 0).lookup x).isNone=true:=by decide +kernel):ybY cU x st (.loc u)=AA true:=by
 let⟨xs,h,_⟩:=H;exact h.ins x hx
noncomputable def grB:Css:=match yo.body with
 |.cons _ (.cons (.for _ _ b) _)=>b
 |x=>x
theorem ye4:∀(G:List Int),G.length<=1->∀J:Int,yq .add (.tp AC (G.map .int)) (.tp AC [.int J])=AA (.tp AC ((G++[J]).map .int))
 |[],_,J=>rfl
 |[a],_,J=>rfl
def BodyOk(k u l:Nat)(w n:Int)(d:Bool)(vs:List PV)(G:List Int)(f:Nat->List PV)(qn an J:Nat):Prop:=
 ∀(st:SO) (R:List PV) (q:Int) (a:Nat),US st u l w n R q a->R.length+(f J).length<=4000->q+qn<=4000->a+an<=500000 ->
  ∃s,yc T k zP [.loc u,.tp d vs,.tp AC ((G++[(J:Int)]).map .int)] st=.ok .non s/\US s u l w n (R++f J) (q+qn) (a+an)
theorem zid(k:Nat){a1 d:Bool}{s0 cn sn:PV}(hsn:nL sn=AB){vs:List PV}{G:List Int}(hG:G.length<=1){f:Nat->List PV}{qn an N:Nat}(hb:∀J<N,BodyOk (k+2) u l w n d vs G f qn an J)
  (hR:R.length+(upTo f N).length<=4000) (hq:q+(N*(1+qn):Nat)<=4000) (ha:a+N*(1+an)<=500000):∀(M j:Nat) (st:SO) (p4:Option PV),j+M=N->US st u l w n (R++upTo f j) (q+(j*(1+qn):Nat)) (a+j*(1+an)) ->
  ∃s p4',yaU (yc T (k+2)) (.n 4) grB (yp M (j:Int) 1) [AA (.loc u),AA (.tp a1 [s0,cn,sn,.tp d vs]),AA (.tp AC (G.map .int)),AA (.int N),p4] st=.nx [AA (.loc u),AA (.tp a1 [s0,cn,sn,.tp d vs]),AA (.tp AC (G.map .int)),AA (.int N),p4'] s/\US s u l w n (R++upTo f N) (q+(N*(1+qn):Nat)) (a+N*(1+an))
 |0,j,st,p4,hj,H=>by
  have:j=N:=by lia
  subst this;exact⟨st,p4,by rw[yp];exact zw,H⟩
 |M+1,j,st,p4,hj,H=>by
  have l1:(upTo f (j+1)).length<=(upTo f N).length:=zim f N (by lia);rw[upTo,Af]at l1;have m1:(j+1)*(1+qn)<=N*(1+qn):=FJ _ (by lia);have m2:(j+1)*(1+an)<=N*(1+an):=FJ _ (by lia);have n1:(j+1)*(1+qn)=j*(1+qn)+(1+qn):=GA _ _;have n2:(j+1)*(1+an)=j*(1+an)+(1+an):=GA _ _;let⟨s1,e1,H1⟩:=H.ask k (by lia) (by rw[Af];lia) sn hsn (G++[(j:Int)]) (by simp;lia);let⟨s2,e2,H2⟩:=H1.rnd (k+1) (by lia);let⟨s3,e3,H3⟩:=hb j (by lia) s2 _ _ _ H2 (by rw[Af];lia) (by lia) (by lia);have H3:US s3 u l w n (R++upTo f (j+1)) (q+((j+1)*(1+qn):Nat)) (a+(j+1)*(1+an)):=by
   rw[upTo,<-Aq,n1,n2];have x1:q+((j*(1+qn)+(1+qn):Nat):Int)=q+((j*(1+qn):Nat):Int)+1+(qn:Int):=by lia
   have x2:a+(j*(1+an)+(1+an))=a+j*(1+an)+1+an:=by lia
   rw[x1,x2];exact H3
  let⟨s4,p4',e4,H4⟩:=zid k (a1:=a1) (s0:=s0) (cn:=cn) (sn:=sn) hsn hG hb hR hq ha M (j+1) s3 (AA (.int j)) (by lia) H3;refine⟨s4,p4',?_,H4⟩;have i1:=H.ins (AF "add_asked");have i2:=H1.ins (AF "add_round");have i3:=H2.ins (AF "go_parts");have c1:=ye4 G hG (j:Int);have one:exs (yc T (k+2)) [AA (.loc u),AA (.tp a1 [s0,cn,sn,.tp d vs]),AA (.tp AC (G.map .int)),AA (.int N),AA (.int (j:Int))] st grB=.nx [AA (.loc u),AA (.tp a1 [s0,cn,sn,.tp d vs]),AA (.tp AC (G.map .int)),AA (.int N),AA (.int (j:Int))] s3:=by
   generalize PV.tp AC (G.map .int)=gv at *;generalize PV.tp AC ((G++[(j:Int)]).map .int)=gw at *;generalize PV.tp d vs=pv at *;simp! [grB,yo,ix0,ix1,ix2,ix3,c1,i1,i2,i3,e1,e2,e3,IC.ve37]
  rw[yp,zk (ρ1:=[AA (.loc u),AA (.tp a1 [s0,cn,sn,.tp d vs]),AA (.tp AC (G.map .int)),AA (.int N),AA (.int (j:Int))]) rfl,one];exact e4
theorem US.cnt(H:US st u l w n R q a)(k:Nat)(bb:Bool){c m t:Int}(hm:m.natAbs<=200)(ht:t.natAbs<=200)(n0:0<=n)(n1:n<=8):yc T (k+1) zN [.loc u,.tp bb [.int c,.int m,.int t]] st=.ok (.int (c+m*n+t*w*n)) st:=by
 let⟨xs,h,_⟩:=H;have zcT:∀{i j:Int},j.natAbs<18446744073709551616->yq .mul (.int i) (.int j)=AA (.int (i*j)):=λh=>zjO (.inr h);exact ziZ k h bb c m t (zaA (by lia)) (zaA (by lia)) (zcT (by lia))
theorem zms(z:Int)(s:SO):yar .max s [.int 0,.int z]=AA (.int ((z.toNat:Nat):Int)):=by
 show AA (PV.int (if 0<z then z else 0))=_;split
 .rw[Dd (by lia)]
 .rw[show z.toNat=0 by lia];rfl
theorem zey(k:Nat){a1 b d:Bool}{s0 sn:PV}(hsn:nL sn=AB){vs:List PV}{c m t:Int}{G:List Int}(hG:G.length<=1){f:Nat->List PV}{qn an N:Nat}(hN:N=cnt c m t w n)(hm:m.natAbs<=200)(ht:t.natAbs<=200)(n0:0<=n)(n1:n<=8)(hN2:N<1000000)
  (hb:∀J<N,BodyOk (k+2) u l w n d vs G f qn an J) (hR:R.length+(upTo f N).length<=4000) (hq:q+(N*(1+qn):Nat)<=4000) (ha:a+N*(1+an)+1<=500000) (H:US st u l w n R q a):
  ∃s,yc T (k+3) zq [.loc u,.tp a1 [s0,.tp b [.int c,.int m,.int t],sn,.tp d vs],.tp AC (G.map .int)] st=.ok .non s/\US s u l w n (R++upTo f N) (q+(N*(1+qn):Nat)) (a+N*(1+an)+1):=by
 have hT:T zq=AA ⟨3,5,AC,yo.body⟩:=rfl;have e1:=H.cnt (k+1) b (c:=c) hm ht n0 n1;have i1:=H.ins (AF "count_of");let⟨s1,p4,e2,H2⟩:=zid k (a1:=a1) (s0:=s0) (cn:=.tp b [.int c,.int m,.int t]) (sn:=sn) (a:=a) (q:=q) (R:=R) hsn hG hb hR hq (by lia) N 0 st AD (by lia) (by simpa [upTo] using H);let⟨s2,e3,H3⟩:=H2.ask k (by lia) (by rw[Af];lia) sn hsn (G++[(N:Int)]) (by simp;lia);have i2:=H2.ins (AF "add_asked");have c1:=ye4 G hG (N:Int);have hx:=zms (c+m*n+t*w*n) st;have hz:((c+m*n+t*w*n).toNat:Int)=(N:Int):=by rw[hN];rfl
 rw[hz]at hx;have hr:ybL (.int (N:Int))=AA (yp N 0 1):=by
  erw[ybL];rw[if_pos (by lia)];rfl
 have hbd:yo.body=(match yo.body with
  |.cons x (.cons (.for t i _) r)=>.cons x (.cons (.for t i grB) r)
  |x=>x):=rfl
 refine⟨s2,?_,H3⟩;rw[zn hT rfl rfl];dsimp only;rw[hbd];have e2:yaU (yc T (k+2)) (.n 4) grB (yp N 0 1) _ st=_:=e2;generalize PV.tp AC (G.map .int)=gv at *;generalize PV.tp AC ((G++[(N:Int)]).map .int)=gw at *;generalize PV.tp d vs=pv at *;generalize PV.tp b [.int c,.int m,.int t]=cv at *;generalize c+m*n+t*w*n=z at *;simp! [yo,ix0,ix1,ix2,ix3,i1,e1,hx,hr,e2,c1,i2,e3,IC.ve37,zbq];rfl
theorem zfq(k:Nat){b:Bool}{vs:List PV}{gv:PV}{s:SO}{p3:Option PV}(e:yaU (yc T k) (.n 3) gpB vs [AA (.loc u),AA (.tp b vs),AA gv,AD] st=.nx [AA (.loc u),AA (.tp b vs),AA gv,p3] s):
  yc T (k+1) zP [.loc u,.tp b vs,gv] st=.ok .non s:=by
 have hT:T zP=AA ⟨3,4,AC,yh.body⟩:=rfl
 have hbd:yh.body=(match yh.body with
  |.cons (.for t i _) r=>.cons (.for t i gpB) r
  |x=>x):=rfl
 rw[zn hT rfl rfl];dsimp only;rw[hbd];simp! [yh,e,zbq];rfl
theorem zhb(k:Nat){d:Bool}{vs:List PV}{rs:List Rs}(hd:deepOf vs=AA rs)(I:Int)(J:Nat)(hrow:∀r∈rs,∀s,yc T (k+2) zbd [r.pv I J n] s=.ok (.bl AB) s):BodyOk (k+4) u l w n d vs [I] (λJ=>rs.map λr=>r.pv I J n) 0 0 J:=by
 intro st R q a H h1 h2 h3;let⟨s,p3,e,H2⟩:=zh0 k (a:=a) (q:=q) I J (AA (.tp d vs)) (by lia) vs rs st R AD hd H (by simpa using h1) hrow;exact⟨s,zfq (k+3) e,by simpa using H2⟩
theorem zkl(k:Nat)(H:US st u l w n R q a){a1:Bool}{r:List PV}{gv:PV}{p1:Option PV}{s:SO}(e:yc T k zq [.loc u,.tp a1 (.str "rounds" :: r),gv] st=.ok .non s):
  exs (yc T k) [AA (.loc u),p1,AA gv,AA (.tp a1 (.str "rounds" :: r))] st gpB=.nx [AA (.loc u),p1,AA gv,AA (.tp a1 (.str "rounds" :: r))] s:=by
 have ih:=H.ins (AF "go_rounds");simp! [gpB,yh,ix0,zgS,ih,e,IC.ve37]
def ybu(v:PV):Prop:=∀(k:Nat) (s:SO),yc T (10+k) zbd [v] s=.ok (.bl AB) s
def T2.ak(w n:Int):T2->Nat
 |.row _=>0
 |.rounds c m t _=>cnt c m t w n+1
def ak2(w n:Int)(ps:List T2):Nat:=(ps.map (T2.ak w n)).sum
theorem ze7{c m t w n:Int}(hc:c.natAbs<=200)(hm:m.natAbs<=200)(ht:t.natAbs<=200)(w0:0<=w)(w1:w<=16)(n0:0<=n)(n1:n<=8):(c+m*n+t*w*n).natAbs<1000000:=by
 have h1:(m*n).natAbs<=200*8:=by rw[FK];exact BH hm (by lia)
 have h2:(t*w*n).natAbs<=200*16*8:=by rw[FK,FK];exact BH (BH ht (by lia)) (by lia)
 generalize m*n=A at *;generalize t*w*n=B at *;lia
theorem zir{α:Type}{f:Nat->List α}{x:α}:∀{N J:Nat},J<N->x∈f J->x∈upTo f N
 |0,_,h,_=>absurd h (by lia)
 |N+1,J,h,hx=>by
  rw[upTo,Bb];rcases C3 J N with h1|h1
  .exact .inl (zir h1 hx)
  .have:J=N:=by lia
   exact .inr (this ▸ hx)
theorem zoE{a b d:Bool}{x c m t sn:PV}{vs:List PV}(h:nL (.tp a [x,.tp b [c,m,t],sn,.tp d vs])=AB):nL sn=true:=by
 erw[nL,nLs,AK]at h;exact h.2.2.1
theorem zo3{a b d:Bool}{x c m t sn:PV}{vs:List PV}(h:nL (.tp a [x,.tp b [c,m,t],sn,.tp d vs])=AB):nLs vs=true:=by
 erw[nL,nLs,AK]at h;exact h.2.2.2.1
theorem zbE{v:PV}{vs:List PV}(h:nLs (v::vs)=AB):nL v=AB/\nLs vs=true:=by
 simpa only[nLs,AK] using h
theorem zlh(k:Nat)(w0:0<=w)(w1:w<=16)(n0:0<=n)(n1:n<=8)(I:Nat)(p1:Option PV){v:PV}{p:T2}(hv:nL v=AB)(hp:part2 v=AA p)(H:US st u l w n R q a)(hR:R.length+(p.rows w n I).length<=4000)(hq:q+(p.rnd w n:Nat)<=4000)(ha:a+p.ak w n<=500000)(hrow:∀x∈p.rows w n I,ybu x):
  ∃s,exs (yc T (k+13)) [AA (.loc u),p1,AA (.tp AC [.int I]),AA v] st gpB=.nx [AA (.loc u),p1,AA (.tp AC [.int I]),AA v] s/\US s u l w n (R++p.rows w n I) (q+(p.rnd w n:Nat)) (a+p.ak w n):=by
 rcases zi0 hp with⟨r,rfl,h1⟩|⟨a1,b,sn,d,vs,c,m,t,rs,rfl,rfl,hd,hc,hm,ht⟩
 .let⟨s,e,H2⟩:=zhF (k+10) H (by simpa [T2.rows] using hR) (by lia) h1 [(I:Int)] (by simp) (λs=>by
   have:=hrow (r.pv I 0 n) (by simp[T2.rows]) (k+2) s;rw[show 10+(k+2)=k+10+2 by lia]at this;exact this) p1
  exact⟨s,e,by simpa [T2.rows,T2.rnd,T2.ak] using H2⟩
 .have hN:cnt c m t w n<1000000:=by
   have:=ze7 hc hm ht w0 w1 n0 n1;erw[cnt];lia
  erw[T2.rows,T2.rnd,T2.ak]at hR hq ha hrow ⊢;let⟨s,e,H2⟩:=zey (k+10) (a1:=a1) (b:=b) (d:=d) (s0:=.str "rounds") (sn:=sn) (zoE hv) (vs:=vs) (G:=[(I:Int)]) (by simp) (f:=λJ=>rs.map λr=>r.pv I J n) (qn:=0) (an:=0) rfl hm ht n0 n1 hN
   (λJ hJ=>zhb (k+8) hd I J (λr hr s=>by
    have:=hrow (r.pv I J n) (zir hJ (Fz.2 ⟨r,hr,rfl⟩)) k s;rw[show 10+k=k+8+2 by lia]at this;exact this)) hR (by simpa using hq) (by lia) H
  have e:yc T (k+13) zq [.loc u,.tp a1 [.str "rounds",.tp b [.int c,.int m,.int t],sn,.tp d vs],.tp AC [.int I]] st=.ok .non s:=e;exact⟨s,zkl (k+13) H e,by simpa [DZ] using H2⟩
theorem zkB(k:Nat)(w0:0<=w)(w1:w<=16)(n0:0<=n)(n1:n<=8)(I:Nat)(p1:Option PV):∀(vs:List PV) (ps:List T2) (st:SO) (R:List PV) (q:Int) (a:Nat) (p3:Option PV),nLs vs=AB->yaN vs=AA ps->US st u l w n R q a->R.length+(yaw w n I ps).length<=4000->q+(ybA w n ps:Nat)<=4000->a+ak2 w n ps<=500000->(∀x∈yaw w n I ps,ybu x) ->
  ∃s p3',yaU (yc T (k+13)) (.n 3) gpB vs [AA (.loc u),p1,AA (.tp AC [.int I]),p3] st=.nx [AA (.loc u),p1,AA (.tp AC [.int I]),p3'] s/\US s u l w n (R++yaw w n I ps) (q+(ybA w n ps:Nat)) (a+ak2 w n ps)
 |[],ps,st,R,q,a,p3,_,hp,H,_,_,_,_=>by
  cases hp
  exact⟨st,p3,zw,by simpa [yaw,ybA,ak2] using H⟩
 |v::vs,ps,st,R,q,a,p3,hv,hp,H,hR,hq,ha,hrow=>by
  unfold yaN at hp;split at hp
  .rename_i x y hx hy
   cases hp
   have r1:yaw w n I (x::y)=x.rows w n I++yaw w n I y:=by simp[yaw]
   have r2:ybA w n (x::y)=x.rnd w n+ybA w n y:=by simp[ybA]
   have r3:ak2 w n (x::y)=x.ak w n+ak2 w n y:=by simp[ak2]
   rw[r1,Af]at hR;rw[r2]at hq;rw[r3]at ha;rw[r1]at hrow;rw[r1,r2,r3];let⟨s1,e1,H1⟩:=zlh k w0 w1 n0 n1 I p1 (zbE hv).1 hx H (by lia) (by lia) (by lia) (λz hz=>hrow z (by simp[hz]));let⟨s2,p3',e2,H2⟩:=zkB k w0 w1 n0 n1 I p1 vs y s1 _ _ _ (AA v) (zbE hv).2 hy H1 (by rw[Af];lia) (by lia) (by lia) (λz hz=>hrow z (by simp[hz]));refine⟨s2,p3',?_,?_⟩
   .rw[zk (ρ1:=[AA (.loc u),p1,AA (.tp AC [.int I]),AA v]) rfl,e1];exact e2
   .rw[<-Aq,<-DZ,show q+((x.rnd w n+ybA w n y:Nat):Int)=q+(x.rnd w n:Nat)+(ybA w n y:Nat)by lia];exact H2
  .cases hp
theorem zj9(k:Nat)(w0:0<=w)(w1:w<=16)(n0:0<=n)(n1:n<=8){d:Bool}{vs:List PV}{ps:List T2}(hv:nLs vs=AB)(hp:yaN vs=AA ps)(I:Nat)(hrow:∀x∈yaw w n I ps,ybu x):BodyOk (k+14) u l w n d vs [] (λI=>yaw w n I ps) (ybA w n ps) (ak2 w n ps) I:=by
 intro st R q a H h1 h2 h3;let⟨s,p3,e,H2⟩:=zkB k w0 w1 n0 n1 I (AA (.tp d vs)) vs ps st R q a AD hv hp H h1 h2 h3 hrow;exact⟨s,zfq (k+13) e,H2⟩
def T1.ak(w n:Int):T1->Nat
 |.row _=>0
 |.rounds c m t ps=>cnt c m t w n*(1+ak2 w n ps)+1
def ak1(w n:Int)(ps:List T1):Nat:=(ps.map (T1.ak w n)).sum
theorem zmq(k:Nat)(w0:0<=w)(w1:w<=16)(n0:0<=n)(n1:n<=8)(p1:Option PV){v:PV}{p:T1}(hv:nL v=AB)(hp:part1 v=AA p)(H:US st u l w n R q a)(hR:R.length+(p.rows w n).length<=4000)(hq:q+(p.rnd w n:Nat)<=4000)(ha:a+p.ak w n<=500000)(hrow:∀x∈p.rows w n,ybu x):
  ∃s,exs (yc T (k+15)) [AA (.loc u),p1,AA (.tp AC []),AA v] st gpB=.nx [AA (.loc u),p1,AA (.tp AC []),AA v] s/\US s u l w n (R++p.rows w n) (q+(p.rnd w n:Nat)) (a+p.ak w n):=by
 rcases zjw hp with⟨r,rfl,h1⟩|⟨a1,b,sn,d,vs,c,m,t,ps,rfl,rfl,hd,hc,hm,ht⟩
 .let⟨s,e,H2⟩:=zhF (k+12) H (by simpa [T1.rows] using hR) (by lia) h1 [] (by simp) (λs=>by
   have:=hrow (r.pv 0 0 n) (by simp[T1.rows]) (k+4) s;rw[show 10+(k+4)=k+12+2 by lia]at this;exact this) p1
  exact⟨s,e,by simpa [T1.rows,T1.rnd,T1.ak] using H2⟩
 .have hN:cnt c m t w n<1000000:=by
   have:=ze7 hc hm ht w0 w1 n0 n1;erw[cnt];lia
  erw[T1.rows,T1.rnd,T1.ak]at hR hq ha hrow ⊢;let⟨s,e,H2⟩:=zey (k+12) (a1:=a1) (b:=b) (d:=d) (s0:=.str "rounds") (sn:=sn) (zoE hv) (vs:=vs) (G:=[]) (by simp) (f:=λI=>yaw w n I ps) (qn:=ybA w n ps) (an:=ak2 w n ps) rfl hm ht n0 n1 hN
   (λJ hJ=>zj9 k w0 w1 n0 n1 (zo3 hv) hd J (λz hz=>hrow z (zir hJ hz))) hR hq (by lia) H
  have e:yc T (k+15) zq [.loc u,.tp a1 [.str "rounds",.tp b [.int c,.int m,.int t],sn,.tp d vs],.tp AC []] st=.ok .non s:=e;exact⟨s,zkl (k+15) H e,by rw[<-DZ];exact H2⟩
theorem zkn(k:Nat)(w0:0<=w)(w1:w<=16)(n0:0<=n)(n1:n<=8)(p1:Option PV):∀(vs:List PV) (ps:List T1) (st:SO) (R:List PV) (q:Int) (a:Nat) (p3:Option PV),nLs vs=AB->yaP vs=AA ps->US st u l w n R q a->R.length+(yK w n ps).length<=4000->q+(yaY w n ps:Nat)<=4000->a+ak1 w n ps<=500000->(∀x∈yK w n ps,ybu x) ->
  ∃s p3',yaU (yc T (k+15)) (.n 3) gpB vs [AA (.loc u),p1,AA (.tp AC []),p3] st=.nx [AA (.loc u),p1,AA (.tp AC []),p3'] s/\US s u l w n (R++yK w n ps) (q+(yaY w n ps:Nat)) (a+ak1 w n ps)
 |[],ps,st,R,q,a,p3,_,hp,H,_,_,_,_=>by
  cases hp
  exact⟨st,p3,zw,by simpa [yK,yaY,ak1] using H⟩
 |v::vs,ps,st,R,q,a,p3,hv,hp,H,hR,hq,ha,hrow=>by
  unfold yaP at hp;split at hp
  .rename_i x y hx hy
   cases hp
   have r1:yK w n (x::y)=x.rows w n++yK w n y:=by simp[yK]
   have r2:yaY w n (x::y)=x.rnd w n+yaY w n y:=by simp[yaY]
   have r3:ak1 w n (x::y)=x.ak w n+ak1 w n y:=by simp[ak1]
   rw[r1,Af]at hR;rw[r2]at hq;rw[r3]at ha;rw[r1]at hrow;rw[r1,r2,r3];let⟨s1,e1,H1⟩:=zmq k w0 w1 n0 n1 p1 (zbE hv).1 hx H (by lia) (by lia) (by lia) (λz hz=>hrow z (by simp[hz]));let⟨s2,p3',e2,H2⟩:=zkn k w0 w1 n0 n1 p1 vs y s1 _ _ _ (AA v) (zbE hv).2 hy H1 (by rw[Af];lia) (by lia) (by lia) (λz hz=>hrow z (by simp[hz]));refine⟨s2,p3',?_,?_⟩
   .rw[zk (ρ1:=[AA (.loc u),p1,AA (.tp AC []),AA v]) rfl,e1];exact e2
   .rw[<-Aq,<-DZ,show q+((x.rnd w n+yaY w n y:Nat):Int)=q+(x.rnd w n:Nat)+(yaY w n y:Nat)by lia];exact H2
  .cases hp
end
theorem yev(k:Nat)(w n:Int):yc T (k+1) zad [.loc 0,.int w,.int n] [.ins cU []]=.ok .non [uob w n 1 0 0,.lst []]:=by
 have hT:T zad=AA zO:=rfl;rw[zn hT rfl rfl];ac_rfl
theorem zkt(w n:Int):US [uob w n 1 0 0,.lst []] 0 1 w n [] 0 0:=⟨[],⟨rfl,rfl,by decide⟩,.nil,by simp⟩
theorem StR.nl{xs rs:List PV}(h:StR xs rs):nLs xs=true:=by
 have ap:∀(a b:List PV),nLs a=AB->nLs b=AB->nLs (a++b)=true:=by
  intro a
  induction a with
  |nil=>intro b _ h;exact h
  |cons x a ih=>
   intro b h1 h2;let⟨p,q⟩:=zbE h1;rw[Ab,nLs,p,ih b q h2];rfl
 induction h with
 |nil=>rfl
 |row hv _ ih=>exact ap _ _ ih (by simp[nLs,nL,hv])
 |ask hv _ ih=>exact ap _ _ ih (by erw[nLs,nL,Bool.and_true,DX]at hv ⊢;simpa using hv)
theorem zgP:yD .eq (.str "asked") (.str "row")=AA (.bl AC):=by ac_rfl
theorem zjL(k:Nat){b:Bool}{vs:List PV}{ps:List T1}{w n:Int}(hv:nLs vs=AB)(hp:yaP vs=AA ps)(w0:0<=w)(w1:w<=16)(n0:0<=n)(n1:n<=8)(hR:(yK w n ps).length<=4000)(hq:yaY w n ps<=4000)(ha:ak1 w n ps<=500000)(hrow:∀x∈yK w n ps,ybu x)
  (hit:∀s,yc T (k+16) zS [.tp b vs] s=.ok (.bl AB) s) (st:SO):∃xs,yc T (k+17) zdw [.tp b vs,.int w,.int n] st=.ok (.lst xs) st/\StR xs (yK w n ps):=by
 have hT:T zdw=AA zbb:=rfl;have hnl:nLs [.tp b vs,.int w,.int n]=true:=by simp[nLs,nL,hv]
 let⟨s,p3,e,xs,h,hs,_⟩:=zkn k w0 w1 n0 n1 (AA (.tp b vs)) vs ps [uob w n 1 0 0,.lst []] [] 0 0 AD hv hp (zkt w n) (by simpa using hR) (by lia) (by lia) hrow;have e:=zfq (k+15) e;have i0:=yev (k+15) w n;have ih:=(zkt w n).ins (AF "go_parts");have f1:=h.fs;have fz:ydt (.loc 1) s=.ok (.lst xs) (s.set 1 .dead):=by simp[ydt,h.d]
 refine⟨xs,?_,by simpa using hs⟩;have nl:=hs.nl;rw[zc hT rfl rfl hnl];generalize PV.tp b vs=tv at *;simp! [zbb,hit,i0,ih,e,f1,fz,IC.ve32,IC.ve33,IC.ve37,ybx,newV];simp[ybq,nL,nl]
noncomputable def unT:Ce:=.cmp .eq (.idx (.var 0) (.cst (.int 0))) (.cst (.str "row"))
noncomputable def unE:Ce:=.idx (.var 0) (.cst (.int 1))
theorem zje(k:Nat){st:SO}{xs rs:List PV}(h:StR xs rs):∀(ys b:List PV),yal (yc T k) [AD] (.n 0) unT unE ys st=.ok b st->yal (yc T k) [AD] (.n 0) unT unE (xs++ys) st=.ok (rs++b) st:=by
 induction h with
 |nil=>intro ys b e;exact e
 |@row xs rs v hv _ ih=>
  intro ys b e;have one:ybh (yc T k) [AD] (.n 0) unT unE (.tp AC [.str "row",v]) st=.ok (AA v) st:=by
   simp! [ybh,unT,unE,ix0,ix1,zdO]
  have:=ih (.tp AC [.str "row",v]::ys) (v::b) (by rw[zZ,one,bd_ok,e,bd_ok];rfl);rw[Aq,Aq];exact this
 |@ask xs rs x y z hv _ ih=>
  intro ys b e;have one:ybh (yc T k) [AD] (.n 0) unT unE (.tp AC [.str "asked",x,y,z]) st=.ok AD st:=by
   simp! [ybh,unT,unE,ix0,ix1,zgP]
  have:=ih (.tp AC [.str "asked",x,y,z]::ys) b (by rw[zZ,one,bd_ok,e,bd_ok];rfl);rw[Aq];exact this
theorem StR.nl2{xs rs:List PV}(h:StR xs rs):nLs rs=true:=by
 have ap:∀(a b:List PV),nLs a=AB->nLs b=AB->nLs (a++b)=true:=by
  intro a
  induction a with
  |nil=>intro b _ h;exact h
  |cons x a ih=>
   intro b h1 h2;let⟨p,q⟩:=zbE h1;rw[Ab,nLs,p,ih b q h2];rfl
 induction h with
 |nil=>rfl
 |row hv _ ih=>exact ap _ _ ih (by simp[nLs,hv])
 |ask _ _ ih=>exact ih
theorem unrolled(k:Nat){b:Bool}{vs:List PV}{ps:List T1}{w n:Int}(hv:nLs vs=AB)(hp:yaP vs=AA ps)(w0:0<=w)(w1:w<=16)(n0:0<=n)(n1:n<=8)(hR:(yK w n ps).length<=4000)(hq:yaY w n ps<=4000)(ha:ak1 w n ps<=500000)(hrow:∀x∈yK w n ps,ybu x)
  (hit:∀s,yc T (k+16) zS [.tp b vs] s=.ok (.bl AB) s) (st:SO):yc T (k+18) zdH [.tp b vs,.int w,.int n] st=.ok (.tp AC (yK w n ps)) st:=by
 have hT:T zdH=AA zbh:=rfl;have hnl:nLs [.tp b vs,.int w,.int n]=true:=by simp[nLs,nL,hv]
 let⟨xs,e,hs⟩:=zjL k hv hp w0 w1 n0 n1 hR hq ha hrow hit [];have ec:=zje (k+17) (st:=[]) hs [] [] za1;rw[BE,BE]at ec;have ec:yal (yc T (k+17)) [AD] (.n 0) (.cmp .eq (.idx (.var 0) (.cst (.int 0))) (.cst (.str "row"))) (.idx (.var 0) (.cst (.int 1))) xs []=_:=ec;have nl:=hs.nl2;have lr:=λst=>zcl (yK w n ps) (by lia) st;have ht:∀st,yar .tuple st [.lst (yK w n ps)]=AA (.tp AC (yK w n ps)):=λ_=>rfl;rw[zc hT rfl rfl hnl];generalize PV.tp b vs=tv at *;generalize yK w n ps=rows at *;simp! [zbh,e,ec,lr,ht];simp[ybq,nL,nl]
theorem zgI(w n:Int):∀ps:List T1,nLs (yK w n ps)=true:=by
 have ap:∀(a b:List PV),nLs a=AB->nLs b=AB->nLs (a++b)=true:=by
  intro a
  induction a with
  |nil=>intro b _ h;exact h
  |cons x a ih=>
   intro b h1 h2;let⟨p,q⟩:=zbE h1;rw[Ab,nLs,p,ih b q h2];rfl
 have up:∀(f:Nat->List PV) (N:Nat),(∀i,nLs (f i)=AB)->nLs (upTo f N)=true:=by
  intro f N h
  induction N with
  |zero=>rfl
  |succ N ih=>exact ap _ _ ih (h N)
 have mp:∀(rs:List Rs) (I J:Int),nLs (rs.map λr=>r.pv I J n)=true:=by
  intro rs I J
  induction rs with
  |nil=>rfl
  |cons r rs ih=>rw[AL,nLs,zb5,ih];rfl
 have two:∀(I:Nat) (ps:List T2),nLs (yaw w n I ps)=true:=by
  intro I ps
  induction ps with
  |nil=>rfl
  |cons p ps ih=>
   rw[yaw,Br];refine ap _ _ ?_ ih
   cases p with
   |row r=>simp[T2.rows,nLs,zb5]
   |rounds c m t rs=>exact up _ _ λJ=>mp rs _ _
 intro ps
 induction ps with
 |nil=>rfl
 |cons p ps ih=>
  rw[yK,Br];refine ap _ _ ?_ ih
  cases p with
  |row r=>simp[T1.rows,nLs,zb5]
  |rounds c m t ps=>exact up _ _ λI=>two I ps
theorem zhr(k:Nat){deed:PV}(hd:nL deed=AB){b:Bool}{vs:List PV}{ps:List T1}{w n:Int}(ht:∀s,yc T (k+18) zb4 [deed] s=.ok (.tp b vs) s)(hv:nLs vs=AB)(hp:yaP vs=AA ps)(w0:0<=w)(w1:w<=16)(n0:0<=n)(n1:n<=8)(hR:(yK w n ps).length<=4000)(hq:yaY w n ps<=4000)(ha:ak1 w n ps<=500000)(hrow:∀x∈yK w n ps,ybu x)
  (hit:∀s,yc T (k+16) zS [.tp b vs] s=.ok (.bl AB) s) (st:SO):yc T (k+19) zaK [deed,.int w,.int n] st=.ok (.tp AC (yK w n ps)) st:=by
 have hT:T zaK=AA zav:=rfl;have hnl:nLs [deed,.int w,.int n]=true:=by simp[nLs,nL,hd]
 have e:=unrolled k hv hp w0 w1 n0 n1 hR hq ha hrow hit [];have nl:=zgI w n ps;rw[zc hT rfl rfl hnl];generalize PV.tp b vs=tv at *;generalize yK w n ps=rows at *;simp! [zav,ht,e];simp[ybq,nL,nl]
def Dg(W:Int)(M:Mem)(c n:Nat):Prop:=∀i:Nat,i<n->0<=M c i/\M c i<W
theorem Dg.mono{W:Int}{M:Mem}{c n:Nat}(h:Dg W M c (n+1)):Dg W M c n:=λi hi=>h i (by lia)
theorem zL{W:Int}{M M':Mem}{c c':Nat}:∀n,(∀i:Nat,i<n->M c i=M' c' i)->yX W M c n=yX W M' c' n
 |0,_=>rfl
 |n+1,h=>by rw[yX,yX,zL n λi hi=>h i (by lia),h n (by lia)]
theorem zbP{W:Int}(hW:0<W){M:Mem}{c:Nat}:∀n,Dg W M c n->0<=yX W M c n/\yX W M c n<W^n
 |0,_=>by simp[yX]
 |n+1,h=>by
  let⟨a,b⟩:=zbP hW n h.mono;let⟨c0,c1⟩:=h n (by lia);have hp:0<W^n:=A7 hW;have h1:0<=M c n*W^n:=Ch c0 (by lia);have h2:M c n*W^n<=(W-1)*W^n:=B3 (by lia) (by lia);rw[ES,CZ]at h2;rw[yX,Ad,Ac (W^n) W];lia
theorem zeP{W:Int}(hW:0<W){M:Mem}{c:Nat}:∀n,Dg W M c n->(yX W M c n=0 ↔ ∀i:Nat,i<n->M c i=0)
 |0,_=>by simp[yX]
 |n+1,h=>by
  have ih:=zeP hW n h.mono;let⟨a,b⟩:=zbP hW n h.mono;let⟨c0,c1⟩:=h n (by lia);have hp:0<W^n:=A7 hW;have h1:0<=M c n*W^n:=Ch c0 (by lia);rw[yX];constructor
  .intro h2 i hi;have h3:M c n*W^n=0:=by omega
   rcases C3 i n with z|z
   .exact ih.1 (by lia) i z
   .rw[show i=n by lia];rcases Int.mul_eq_zero.1 h3 with e|e
    .exact e
    .lia
  .intro h2;rw[h2 n (by lia),ih.2 λi hi=>h2 i (by lia)];simp
theorem zfG{w:Nat}(hw:0<w){M:Mem}{c n:Nat}(h:Dg (2^w) M c (n+1)):tb w (M c n)=if (2^w:Int)^(n+1)<=2*yX (2^w) M c (n+1)then 1 else 0:=by
 let⟨c0,c1⟩:=h n (by lia);let⟨a,b⟩:=zbP (A7 (by lia)) n h.mono;rw[zmE hw c0 c1,yX];obtain⟨v,rfl⟩:∃v,w=v+1:=⟨w-1,by lia⟩;have hp:0<((2:Int)^(v+1))^n:=A7 (A7 (by lia));rw[Ad ((2:Int)^(v+1)) n];generalize ((2:Int)^(v+1))^n=P at *;generalize hV:yX (2^(v+1)) M c n=V at *;rw[Ad]at *;generalize (2:Int)^v=H at *;generalize M c (n:Int)=d at *
 by_cases hd:H<=d
 .have h1:=B3 hd (show 0<=P by lia);have h2:P*(H*2)=2*(H*P):=by rw[Ac P,Ay,Ac 2 P,<-Ay,Ac 2]
  rw[if_pos (by lia),if_pos (by rw[h2];lia)]
 .have h1:=B3 (show d<=H-1 by lia) (show 0<=P by lia);rw[ES,CZ]at h1;have h2:P*(H*2)=2*(H*P):=by rw[Ac P,Ay,Ac 2 P,<-Ay,Ac 2]
  rw[if_neg (by lia),if_neg (by rw[h2];lia)]
theorem zfR{W:Int}(M:Mem)(k:Int)(hS:0<=M 115 0):∀n,(∀i:Nat,i<n->0<=M 99 i) ->
  (yE W (yF (λi=>Rw.any cS cS (99,i)) n) M k).2=k/\(∀d j,d≠115->(yE W (yF (λi=>Rw.any cS cS (99,i)) n) M k).1 d j=M d j)/\0<=(yE W (yF (λi=>Rw.any cS cS (99,i)) n) M k).1 115 0/\((yE W (yF (λi=>Rw.any cS cS (99,i)) n) M k).1 115 0=0 ↔ M 115 0=0/\∀i:Nat,i<n->M 99 i=0)
 |0,_=>⟨rfl,λ_ _ _=>rfl,hS,by simp[yF,yE]⟩
 |n+1,h=>by
  let⟨h1,h2,h3,h4⟩:=zfR (W:=W) M k hS n λi hi=>h i (by lia);rw[yF,zx];generalize yE W (yF (λi=>Rw.any cS cS (99,i)) n) M k=R at *;let⟨M1,k'⟩:=R;simp only at *;have hb:=h n (by lia);erw[yE,stepM,rd,wr,cS,h2 99 n (by decide)];have hz:=zlq h3 hb;refine⟨h1,λd j hd=>?_,?_,?_⟩
  .unfold upd;rw[if_neg (by lia),h2 d j hd]
  .unfold upd;rw[if_pos ⟨rfl,rfl⟩];obtain⟨x,hx⟩:∃x:Nat,M1 115 0=x:=⟨(M1 115 0).toNat,by lia⟩;obtain⟨y,hy⟩:∃y:Nat,M 99 n=y:=⟨(M 99 n).toNat,by lia⟩;rw[hx,hy,zdD];lia
  .unfold upd;rw[if_pos ⟨rfl,rfl⟩,hz,h4];constructor
   .rintro⟨⟨a,b⟩,c⟩
    refine⟨a,λi hi=>?_⟩;rcases C3 i n with z|z
    .exact b i z
    .rw[show i=n by lia];exact c
   .rintro⟨a,b⟩
    exact⟨⟨a,λi hi=>b i (by lia)⟩,b n (by lia)⟩
theorem zaw{W:Int}{r:Rw}{rs:List Rw}{M:Mem}{k:Int}:yE W (r::rs) M k=yE W rs (stepM W M k r).1 (stepM W M k r).2:=rfl
theorem zfU(b:Bool):0<=bi b/\bi b<=1:=by cases b<;>decide
theorem zge{w:Nat}(hw:1<w){n:Nat}(M:Mem)(k:Int)(hc:Dg (2^w) M 99 (n+1))(hz:M 122 0=0):
  (∀j,(yE (2^w) (yw (n+1)) M k).1 99 j=M 99 j)/\(yE (2^w) (yw (n+1)) M k).1 109 0=M 109 0/\(yE (2^w) (yw (n+1)) M k).1 109 1=M 109 1 /\
  (yE (2^w) (yw (n+1)) M k).1 109 2=bi (yX (2^w) M 99 (n+1)==0)/\(yE (2^w) (yw (n+1)) M k).1 109 3=bi (decide ((2^w:Int)^(n+1)<=2*yX (2^w) M 99 (n+1))):=by
 have hW:(0:Int)<2^w:=A7 (by lia);have hW4:(4:Int)<=2^w:=by
  have h:(2:Nat)^2<=2^w:=Ai (by lia) (by lia);have h2:=pw w;lia
 let⟨h1,h2,h3,h4⟩:=zfR (W:=2^w) (wr M cS 0) k (by simp[wr,upd]) (n+1) (λi hi=>by simp[wr,upd];exact(hc i hi).1);have e:yw (n+1)=.set cS 0::(yF (λi=>Rw.any cS cS (99,i)) (n+1)++[.ask cS,.set (109,2) 1,.less (109,2) (109,2) cZ,.twice cT (99,((n+1:Nat):Int)-1),.sum (109,3) cZ cZ]):=rfl;have hst:stepM (2^w) M k (.set cS 0)=(wr M cS 0,k):=rfl;rw[e,zaw,hst,zx];generalize yE (2^w) (yF (λi=>Rw.any cS cS (99,i)) (n+1)) (wr M cS 0) k=R at *;let⟨M1,k'⟩:=R;simp only at *;subst h1;have g:∀d j,d≠115->M1 d j=M d j:=λd j hd=>by
  rw[h2 d j hd];erw[wr,upd,cS];rw[if_neg (by lia)]
 have hn:((n+1:Nat):Int)-1=n:=by lia
 have h5:M1 115 0=0 ↔ yX (2^w) M 99 (n+1)=0:=by
  rw[h4,zeP hW (n+1) hc];constructor
  .rintro⟨_,b⟩ i hi
   have:=b i hi;simpa [wr,upd] using this
  .intro b;exact⟨by simp[wr,upd],λi hi=>by simpa [wr,upd] using b i hi⟩
 have ht:=zfG (by lia) hc;have hb:bi (!(M1 115 0==0))=1-bi (yX (2^w) M 99 (n+1)==0):=by
  by_cases hv:yX (2^w) M 99 (n+1)=0
  .rw[h5.2 hv,hv];rfl
  .have:¬M1 115 0=0:=λz=>hv (h5.1 z);rw[beq_eq_false_iff_ne.2 this,beq_eq_false_iff_ne.2 hv];rfl
 have hbr:=zfU (yX (2^w) M 99 (n+1)==0);rw[hn];erw[yE,stepM,rd,wr,upd,cS,cT,cZ];rw[hb];generalize bi (yX (2^w) M 99 (n+1)==0)=v at *;have hm:bi (decide ((1:Int)-0-(1-v)<0))=0:=by
  rw[decide_eq_false (by lia)];rfl
 have hm2:(1-0-(1-v))%(2:Int)^w=v:=by
  rw[show 1-0-(1-v)=v by lia];exact Aw (by lia) (by lia)
 have hT:(2*M 99 n+0)/2^w=bi (decide ((2^w:Int)^(n+1)<=2*yX (2^w) M 99 (n+1))):=by
  rw[GB];show tb w (M 99 n)=_;rw[ht]
  by_cases q:(2^w:Int)^(n+1)<=2*yX (2^w) M 99 (n+1)
  .rw[if_pos q,decide_eq_true q];rfl
  .rw[if_neg q,decide_eq_false q];rfl
 have hTr:=zfU (decide ((2^w:Int)^(n+1)<=2*yX (2^w) M 99 (n+1)));erw[Nat.reduceEqDiff,false_and,if_false,Int.reduceEq,and_false,and_self,if_true,g _ _ (show (99:Nat)≠115 by decide),g _ _ (show (109:Nat)≠115 by decide),g _ _ (show (122:Nat)≠115 by decide),hz,hm,hm2,hT];refine⟨λj=>trivial,trivial,trivial,trivial,?_⟩;rw[show (0:Int)+0+bi (decide ((2^w:Int)^(n+1)<=2*yX (2^w) M 99 (n+1)))=bi (decide ((2^w:Int)^(n+1)<=2*yX (2^w) M 99 (n+1)))by lia];exact Aw (by lia) (by lia)
theorem zbR{c d:Nat}(h:d≠c)(j:Int):∀(vs:List Int) (i:Nat) (M:Mem),yaG c i vs M d j=M d j
 |[],_,_=>rfl
 |v::vs,i,M=>by
  rw[yaG,zbR h j vs,upd,if_neg (by lia)]
theorem zc5{c:Nat}(j:Int):∀(vs:List Int) (i:Nat) (M:Mem),j<i->yaG c i vs M c j=M c j
 |[],_,_,_=>rfl
 |v::vs,i,M,h=>by
  rw[yaG,zc5 j vs (i+1) _ (by lia),upd,if_neg (by lia)]
theorem zfQ{c:Nat}:∀(vs:List Int) (i:Nat) (M:Mem) (k:Nat),k<vs.length->yaG c i vs M c ((i+k:Nat):Int)=vs.getD k 0
 |[],_,_,_,h=>by simp at h
 |v::vs,i,M,0,h=>by
  rw[yaG,zc5 _ vs (i+1) _ (by lia),upd,if_pos ⟨rfl,by simp⟩];rfl
 |v::vs,i,M,k+1,h=>by
  rw[yaG,show i+(k+1)=i+1+k by lia,zfQ vs (i+1) _ k (by simpa using h)];rfl
theorem zfc{W:Int}(hW:0<W):∀(n:Nat) (x:Int) (k:Nat),k<n->(yj W n x).getD k 0=x/W^k%W
 |0,_,_,h=>by lia
 |n+1,x,0,h=>by simp[yj]
 |n+1,x,k+1,h=>by
  rw[yj];show (yj W n (x/W)).getD k 0=_;rw[zfc hW n (x/W) k (by lia),Ad,Ac (W^k),Ax (by lia)]
theorem zed{W x:Int}(hW:0<W)(n:Nat):x%W^(n+1)=x%W^n+x/W^n%W*W^n:=by
 have hp:0<W^n:=A7 hW;rw[Ad];generalize W^n=P at *;have e1:=B7 x P;have e2:=B7 (x/P) W;have a0:=BF x (show P≠0 by lia);have a1:=An x hp;have b0:=BF (x/P) (show W≠0 by lia);have b1:=An (x/P) hW;generalize x%P=r at *;generalize x/P=q at *;generalize q%W=s at *;generalize q/W=t at *;subst e2;have e3:x=r+s*P+P*W*t:=by
  rw[<-e1,HR,Ac P s,Ay P W t];lia
 have c1:s*P<=(W-1)*P:=B3 (by lia) (by lia);have c0:0<=s*P:=Ch b0 (by lia);rw[ES,CZ]at c1;rw[e3,Cg,Aw (by lia) (by rw[Ac P W];lia)]
theorem zf5{W:Int}(hW:0<W){M:Mem}{c:Nat}{x:Int}:∀n,(∀i:Nat,i<n->M c i=x/W^i%W)->yX W M c n=x%W^n
 |0,_=>by simp[yX,Int.emod_one]
 |n+1,h=>by rw[yX,zf5 hW n λi hi=>h i (by lia),h n (by lia),zed hW]
section
variable {W:Int}(n:Nat)(x y:Int)
theorem zeo{d:Nat}(h1:d≠97)(h2:d≠98)(j:Int):yak W n x y d j=0:=by
 rw[yak,zbR h2,zbR h1];rfl
variable (hW:0<W)
include hW
theorem znx{i:Nat}(h:i<n):yak W n x y 97 i=x/W^i%W:=by
 rw[yak,zbR (by decide)];have:=zfQ (c:=97) (yj W n x) 0 M0 i (by rw[zY];exact h);rw[BW]at this;rw[this,zfc hW n x i h]
theorem zmJ:Dg W (yak W n x y) 97 n:=λi hi=>by
 rw[znx n x y hW hi];exact⟨BF _ (by lia),An _ hW⟩
theorem znf(h0:0<=x)(h1:x<W^n):yX W (yak W n x y) 97 n=x:=by
 rw[zf5 hW n λi hi=>znx n x y hW hi,Aw h0 h1]
end
theorem zlI{X:Fl}{v:PV}{st:SO}(h:ybq [] X=.ok v []):ybq st X=.ok v st:=by
 cases X with
 |rt u s=>
  erw[ybq]at h ⊢
  by_cases c:nL u=AB
  .rw[if_pos c]at h ⊢;cases h;rfl
  .rw[if_neg c]at h;cases h
 |nx ρ s=>erw[ybq]at h ⊢;cases h;rfl
 |_=>cases h
theorem zbF{k f:Nat}{fn:IC.Fn}{args:List PV}{v:PV}(hT:T f=AA fn)(hp:fn.pure=AB)(hl:args.length=fn.np)(hn:nLs args=AB)(h:yc T (k+1) f args []=.ok v [])(st:SO):yc T (k+1) f args st=.ok v st:=by
 rw[zc hT hp hl hn]at h ⊢;exact zlI h
def ybo(W:Int):List Rw->Mem->Int->Prop
 |[],_,_=>True
 |r::rs,M,k=>(∀t x,r=.half t x->0<=rd M x/\rd M x<W/\0<=k/\k<2)/\ybo W rs (stepM W M k r).1 (stepM W M k r).2
noncomputable def rnA:Css:=match yC.body with
 |.cons (.for _ _ b) _=>b
 |x=>x
noncomputable def rnB:Css:=match yC.body with
 |.cons _ (.cons (.for _ _ b) _)=>b
 |x=>x
theorem rnS:yC.body=.cons (.for (.n 2) (.seq (.var 1)) rnA) (.cons (.for (.n 2) (.seq (.var 1)) rnB) .nil):=rfl
theorem zjm(r:Rw):nLs [yW r]=true:=by cases r<;>rfl
section
variable {m l n:Nat}
theorem zdg(k:Nat){v:Option PV}(st:SO):∀(rs:List Rw),(∀r∈rs,yc T (k+1) zU [yW r] []=.ok .non [])->∀p2,∃q2,yaU (yc T (k+1)) (.n 2) rnA (rs.map yW) [AA (.loc m),v,p2] st=.nx [AA (.loc m),v,q2] st
 |[],h,p2=>⟨p2,by rw[Aa,zw]⟩
 |r::rs,h,p2=>by
  let⟨q2,e⟩:=zdg k (v:=v) st rs (λq hq=>h q (AX _ hq)) (AA (yW r));have e1:=zbF (f:=zU) (fn:=zab) rfl rfl rfl (zjm r) (h r (by simp)) st;refine⟨q2,?_⟩;rw[AL,zk (ρ1:=[AA (.loc m),v,AA (yW r)]) rfl];generalize yW r=row at *;have hb:exs (yc T (k+1)) [AA (.loc m),v,AA row] st rnA=.nx [AA (.loc m),v,AA row] st:=by
   simp! [rnA,yC,e1]
  rw[hb];exact e
theorem zh8(k:Nat)(hn:n<=100)(hn1:1<=n){v:Option PV}:∀(rs:List Rw) (M:Mem) (mk:Int) (st:SO) (L:Nat) (p2:Option PV),MM st m l n M mk L->L+rs.length<999999->ybo (2^n) rs M mk ->
  ∃st' q2,MM st' m l n (yE (2^n) rs M mk).1 (yE (2^n) rs M mk).2 (L+rs.length)/\(∀q,q≠m->q≠l->st'[q]?=st[q]?)/\st'.length=st.length/\yaU (yc T (k+6)) (.n 2) rnB (rs.map yW) [AA (.loc m),v,p2] st=.nx [AA (.loc m),v,q2] st'
 |[],M,mk,st,L,p2,h,hL,hh=>⟨st,p2,h,λ_ _ _=>rfl,rfl,by rw[Aa,zw]⟩
 |r::rs,M,mk,st,L,p2,h,hL,hh=>by
  erw[AS]at hL;let⟨s1,h1,o1,l1,e1⟩:=zor k h (by lia) hn hn1 r hh.1;let⟨s2,q2,h2,o2,l2,e2⟩:=zh8 k hn hn1 (v:=v) rs _ _ s1 (L+1) (AA (yW r)) h1 (by lia) hh.2;refine⟨s2,q2,?_,λq a b=>(o2 q a b).trans (o1 q a b),l2.trans l1,?_⟩
  .rw[yE,AS,show L+(rs.length+1)=L+1+rs.length by lia];exact h2
  .have ih:=h.ins (AF "go_row");rw[AL,zk (ρ1:=[AA (.loc m),v,AA (yW r)]) rfl];generalize yW r=row at *;have hb:exs (yc T (k+6)) [AA (.loc m),v,AA row] st rnB=.nx [AA (.loc m),v,AA row] s1:=by
    simp! [rnB,yC,ih,e1,IC.ve37]
   rw[hb];exact e2
theorem zjM(k:Nat)(hn:n<=100)(hn1:1<=n){rs:List Rw}{M:Mem}{mk:Int}{st:SO}{L:Nat}(h:MM st m l n M mk L)(hL:L+rs.length<999999)(hh:ybo (2^n) rs M mk)(hA:∀r∈rs,yc T (k+6) zU [yW r] []=.ok .non []):
  okM (yc T (k+7) zaF [.loc m,.tp AC (rs.map yW)] st) st m l n (yE (2^n) rs M mk).1 (yE (2^n) rs M mk).2 (L+rs.length):=by
 have hT:T zaF=AA ⟨2,3,AC,yC.body⟩:=rfl;let⟨q2,e1⟩:=zdg (m:=m) (k+5) (v:=AA (.tp AC (rs.map yW))) st rs hA AD;let⟨s2,q3,h2,o2,l2,e2⟩:=zh8 k hn hn1 (v:=AA (.tp AC (rs.map yW))) rs M mk st L q2 h hL hh;refine⟨s2,h2,o2,l2,?_⟩;rw[zn hT rfl rfl];show outI (exs (yc T (k+6)) [AA (.loc m),AA (.tp AC (rs.map yW)),AD] st yC.body)=_;rw[rnS,xs_cons,x_for];generalize rs.map yW=rows at *;simp! [e1,e2];rfl
theorem zhI:([97,98,99,100,109].all λc=>(CL 9).all λi=>isOk (yc T 8 za6 [.str ⟨#[c]⟩,.int (i:Nat)] []) (yQ c (i:Nat)))=true:=by decide +kernel
theorem known(k:Nat){c i:Nat}(hc:c∈[97,98,99,100,109])(hi:i<9)(st:SO):yc T (8+k) za6 [.str ⟨#[c]⟩,.int (i:Int)] st=.ok (yQ c i) st:=by
 have h:=BP.1 zhI c hc;have h:=BP.1 h i (by simpa using hi);have h:=zal (zep h) k;rw[show 8+k=7+k+1 by lia]at h ⊢;exact zbF (f:=za6) (fn:=za8) rfl rfl rfl rfl h st
theorem ydY(k:Nat){st:SO}{L:Nat}{w mk:Int}{M:Mem}(h:MM st m l w M mk L){c i:Nat}(hc:c∈[97,98,99,100,109])(hi:i<9):yc T (9+k) zQ [.loc m,.str ⟨#[c]⟩,.int (i:Int)] st=.ok (.int (M c i)) st:=by
 have hT:T zQ=AA z5:=rfl;have e1:=known k hc hi st;have e2:yc T (8+k) zt [.loc m,yQ c i] st=.ok (.int (M c i)) st:=by
  rw[show 8+k=7+k+1 by lia];exact zd2 (7+k) h (c,(i:Int))
 have ih:=h.ins (AF "held_in");rw[show 9+k=8+k+1 by lia,zn hT rfl rfl];generalize yQ c i=q at *;simp! [z5,ih,e1,e2,zbq,IC.ve37]
theorem ze8(k:Nat)(v lo hi:Int)(h1:lo<=v)(h2:v<=hi)(st:SO):yc T (k+1) zaE [.int v,.int lo,.int hi] st=.ok (.bl AB) st:=by
 have hT:T zaE=AA zan:=rfl;rw[zc hT rfl rfl rfl];have e1:yaK (.int v) [.int]=AA (.bl AB):=rfl;have e2:yaK (.int v) [.bool]=AA (.bl AC):=rfl;simp! [zan,e1,e2,decide_eq_true h1,decide_eq_true h2];rfl
theorem yf8(k:Nat)(hn:n<=100){st:SO}{L:Nat}{mk:Int}{M:Mem}(h:MM st m l n M mk L)(hL:L<999999){c i:Nat}(hc:c∈[97,98,99,100,109])(hi:i<9){v:Int}(v0:0<=v)(v1:v<2^n):
  okM (yc T (9+k) zca [.loc m,.str ⟨#[c]⟩,.int (i:Int),.int v] st) st m l n (upd M c i v) mk (L+1):=by
 have hT:T zca=AA zag:=rfl;have e1:=known k hc hi st;have e2:yc T (8+k) zc3 [.int n] st=.ok (.int (2^n-1)) st:=by rw[show 8+k=7+k+1 by lia];exact highest (7+k) n hn st
 have e3:yc T (8+k) zaE [.int v,.int 0,.int (2^n-1)] st=.ok (.bl AB) st:=by rw[show 8+k=7+k+1 by lia];exact ze8 (7+k) v 0 (2^n-1) v0 (by lia) st
 let⟨s1,d1,⟨o,ho⟩,h1⟩:=h.sd hL (c,(i:Int)) v;refine⟨s1,h1,λq a b=>by rw[ho,AO (BL b)],by simp[ho],?_⟩;have d1:ybd st (.loc l) (yQ c i) (.int v)=AA s1:=d1;rw[show 9+k=8+k+1 by lia,zn hT rfl rfl];generalize yQ c i=q at *;simp! [zag,e1,h.fw,e2,e3,h.fd,zig,d1,zaj,IC.ve32];rfl
end
theorem yeU{v:PV}:ybS sw v []=[(sw,v)]:=rfl
theorem yeC{a v:PV}:ybS sws v [(sw,a)]=[(sw,a),(sws,v)]:=by ac_rfl
theorem yeE{a b v:PV}:ybS smk v [(sw,a),(sws,b)]=[(sw,a),(sws,b),(smk,v)]:=by ac_rfl
theorem yeK(k:Nat)(w:Int)(st:SO):yc T (k+1) zX [.loc st.length,.int w] (st++[.ins cM []])=.ok .non (st++[mob w (st.length+1) 0]++[.dct AB []]):=by
 have hT:T zX=AA zF:=rfl;have g0:(st++[Ob.ins cM []])[st.length]?=AA (.ins cM []):=by simp
 have s1:ya2 cM (st++[Ob.ins cM []]) (.loc st.length) sw (.int w)=AA (st++[.ins cM [(sw,.int w)]]):=by
  erw[ya2,g0];rw[if_pos ⟨trivial,by simp⟩,yeU];simp
 have g1:(st++[Ob.ins cM [(sw,.int w)]]++[Ob.dct AB []])[st.length]?=AA (.ins cM [(sw,.int w)]):=by simp
 have s2:ya2 cM (st++[Ob.ins cM [(sw,.int w)]]++[Ob.dct AB []]) (.loc st.length) sws (.loc (st.length+1))=AA (st++[.ins cM [(sw,.int w),(sws,.loc (st.length+1))]]++[.dct AB []]):=by
  erw[ya2,g1];rw[if_pos ⟨trivial,by simp⟩,yeC];simp
 have g2:(st++[Ob.ins cM [(sw,.int w),(sws,.loc (st.length+1))]]++[Ob.dct AB []])[st.length]?=AA (.ins cM [(sw,.int w),(sws,.loc (st.length+1))]):=by simp
 have s3:ya2 cM (st++[Ob.ins cM [(sw,.int w),(sws,.loc (st.length+1))]]++[Ob.dct AB []]) (.loc st.length) smk (.int 0)=AA (st++[mob w (st.length+1) 0]++[.dct AB []]):=by
  erw[ya2,g2];rw[if_pos ⟨trivial,by simp⟩,yeE];simp[mob]
 have hd:∀(ρ:IC.Env),ev (yc T k) ρ (st++[Ob.ins cM [(sw,.int w)]]) (.dict0 AB)=.ok (.loc (st.length+1)) (st++[Ob.ins cM [(sw,.int w)]]++[.dct AB []]):=λρ=>by
  erw[ev,Af,DN]
 rw[zn hT rfl rfl];erw[zF,xs_cons,zft,hd];have hlen:(st++[Ob.ins cM [(sw,.int w)]]).length=st.length+1:=by simp
 simp! [s1,zaj,hlen,s2,s3];rfl
theorem ze3(W:Int)(hW:0<W)(x:Int):∀(n a:Nat),(yp n (a:Int) 1).map (λp=>match p with | .int j=>PV.int (x/W^j.toNat%W)|q=>q)=(yj W n (x/W^a)).map .int
 |0,a=>rfl
 |n+1,a=>by
  have h:=ze3 W hW x n (a+1);rw[yp,AL,yj,AL]
  congr 1
  .rw[show ((a:Int)+1)=((a+1:Nat):Int)by lia,h,Ad,Ax (DM (A7 hW))]
theorem zmB(n:Nat)(hn:n<=1000):yq .shl (.int 1) (.int (n:Int))=AA (.int (2^n)):=by
 erw[yq,binI];rw[if_pos ⟨by lia,by lia,by decide⟩];simp
theorem zf7(a b:Nat)(ha:a<=1000):yq .mul (.int (a:Int)) (.int (b:Int))=AA (.int ((a*b:Nat):Int)):=by
 have h:yaB (a:Int) (b:Int)=true:=by
  erw[yaB,Cy,decide_eq_true_eq];exact .inl (by simp;lia)
 erw[yq,binI,h,if_true];simp
theorem lowest(k:Nat)(x:Int)(w n:Nat)(hw:w<=16)(hn:n<=8)(st:SO):yc T (k+1) zp [.int x,.int w,.int n] st=.ok (.tp AC ((yj (2^w) n x).map .int)) st:=by
 have hT:T zp=AA z7:=rfl;have e1:=zmB w (by lia);have hr:=zbp n (by lia);have hc:yal (yc T k) [AD,AA (.int (2^w-1)),AA (.int x),AA (.int w)] (.n 0) (.cst (.bl AB)) (.bin .band (.bin .shr (.var 2) (.bin .mul (.var 3) (.var 0))) (.var 1)) (yp n 0 1) []=.ok ((yj (2^w) n x).map .int) []:=by
  have h:=ze3 (2^w) (A7 (by decide)) x n 0;rw[C4,Dh]at h;rw[<-h];refine zeT _ λp hp=>?_;obtain⟨j,hj,rfl⟩:∃j:Nat,j<n/\p=.int (j:Int):=by
   have:∀(n a:Nat) (p:PV),p∈yp n (a:Int) 1->∃j:Nat,a<=j/\j<a+n/\p=.int (j:Int):=by
    intro n
    induction n with
    |zero=>intro a p h;cases h
    |succ n ih=>
     intro a p h;rw[yp]at h;rcases A3.1 h with rfl|h
     .exact⟨a,AU _,by lia,rfl⟩
     .let⟨j,h1,h2,h3⟩:=ih (a+1) p (by rw[show ((a+1:Nat):Int)=(a:Int)+1 by lia];exact h);exact⟨j,by lia,by lia,h3⟩
   let⟨j,_,h2,h3⟩:=this n 0 p hp;exact⟨j,by lia,h3⟩
  have m1:=zf7 w j (by lia);have s1:yq .shr (.int x) (.int ((w*j:Nat):Int))=AA (.int (x/2^(w*j))):=by
   erw[yq,binI];rw[if_pos (by lia),CK]
  have b1:=band (x/2^(w*j)) (2^w-1);rw[zeB (n:=w) (x/2^(w*j))]at b1;simp! [ybh,m1,s1,b1];rw[CK,<-Ci]
 rw[zc hT rfl rfl rfl];simp! [z7,e1,hr,hc];rw[zcl _ (by simp[zY];lia)];have ht:yar .tuple [] [.lst ((yj (2^w) n x).map .int)]=AA (.tp AC ((yj (2^w) n x).map .int)):=rfl;simp! [ht];simp[ybq,nL,noLocs_ints]
theorem zao{W:Int}(hW:0<W):∀(n:Nat) (x:Int),∀v∈yj W n x,0<=v/\v<W
 |0,x,v,h=>by cases h
 |n+1,x,v,h=>by
  rw[yj]at h;rcases A3.1 h with rfl|h
  .exact⟨BF _ (by lia),An _ hW⟩
  .exact zao hW n _ v h
noncomputable def mwB:Css:=match yt.body with
 |.cons _ (.cons (.for _ _ b) _)=>b
 |x=>x
noncomputable def mwC:Css:=match mwB with
 |.cons (.for _ _ b) _=>b
 |x=>x
section
variable {m l n:Nat}
theorem zfu(k:Nat)(hn:n<=100){c:Nat}(hc:c∈[97,98,99,100,109]){p0 p1 p2 p3 p6:Option PV}:∀(ws:List Int) (i:Nat) (M:Mem) (st:SO) (L:Nat) (p7 p8:Option PV),(∀v∈ws,0<=v/\v<2^n)->i+ws.length<=9->MM st m l n M 0 L->L+ws.length<999999 ->
  ∃st' q7 q8,MM st' m l n (yaG c i ws M) 0 (L+ws.length)/\(∀q,q≠m->q≠l->st'[q]?=st[q]?)/\st'.length=st.length /\
   yaU (yc T (9+k)) (.t [7,8]) mwC (yaa i (ws.map .int)) [p0,p1,p2,p3,AA (.loc m),AA (.str ⟨#[c]⟩),p6,p7,p8] st=.nx [p0,p1,p2,p3,AA (.loc m),AA (.str ⟨#[c]⟩),p6,q7,q8] st'
 |[],i,M,st,L,p7,p8,hv,hi,h,hL=>⟨st,p7,p8,h,λ_ _ _=>rfl,rfl,by rw[Aa,yaa,zw]⟩
 |v::ws,i,M,st,L,p7,p8,hv,hi,h,hL=>by
  erw[AS]at hi hL;let⟨v0,v1⟩:=hv v (by simp);let⟨s1,h1,o1,l1,e1⟩:=yf8 k hn h (by lia) hc (i:=i) (by lia) v0 v1;let⟨s2,q7,q8,h2,o2,l2,e2⟩:=zfu k hn hc (p0:=p0) (p1:=p1) (p2:=p2) (p3:=p3) (p6:=p6) ws (i+1) (upd M c i v) s1 (L+1) (AA (.int i)) (AA (.int v)) (λu hu=>hv u (AX _ hu)) (by lia) h1 (by lia);refine⟨s2,q7,q8,?_,λq a b=>(o2 q a b).trans (o1 q a b),l2.trans l1,?_⟩
  .rw[yaG,AS,show L+(ws.length+1)=L+1+ws.length by lia];exact h2
  .have ih:=h.ins (AF "put");have bt:yJ (.t [7,8]) (.tup [.int (i:Int),.int v]) [p0,p1,p2,p3,AA (.loc m),AA (.str ⟨#[c]⟩),p6,p7,p8]=AA [p0,p1,p2,p3,AA (.loc m),AA (.str ⟨#[c]⟩),p6,AA (.int i),AA (.int v)]:=rfl;rw[AL,yaa,zk bt];have hb:exs (yc T (9+k)) [p0,p1,p2,p3,AA (.loc m),AA (.str ⟨#[c]⟩),p6,AA (.int i),AA (.int v)] st mwC=.nx [p0,p1,p2,p3,AA (.loc m),AA (.str ⟨#[c]⟩),p6,AA (.int i),AA (.int v)] s1:=by
    simp! [mwC,mwB,yt,ih,e1,IC.ve37]
   rw[hb];exact e2
end
theorem zfh(k:Nat)(w n:Nat)(hw:w<=16)(hn:n<=8)(x y:Int)(st:SO):
  ∃st' m l,st.length<=m/\st.length<=l/\MM st' m l w (yak (2^w) n x y) 0 (2*n)/\(∀q,q<st.length->st'[q]?=st[q]?)/\yc T (10+k) zaC [.int w,.int n,.int x,.int y] st=.ok (.loc m) st':=by
 have hT:T zaC=AA ⟨4,9,AC,yt.body⟩:=rfl;have e1:yc T (9+k) zX [.loc st.length,.int w] (st++[.ins cM []])=.ok .non (st++[mob w (st.length+1) 0]++[.dct AB []]):=by rw[show 9+k=8+k+1 by lia];exact yeK (8+k) w st
 obtain⟨s1,hs1⟩:∃s1,s1=st++[mob w (st.length+1) 0]++[.dct AB []]:=⟨_,rfl⟩;rw[<-hs1]at e1;have h1:MM s1 st.length (st.length+1) w M0 0 0:=by
  rw[hs1];exact⟨by simp,⟨[],by simp,λp hp=>(by cases hp),λc i=>rfl,by simp⟩,by lia⟩
 have eA:∀s,yc T (9+k) zp [.int x,.int w,.int n] s=.ok (.tp AC ((yj (2^w) n x).map .int)) s:=λs=>by rw[show 9+k=8+k+1 by lia];exact lowest (8+k) x w n hw hn s
 have eB:∀s,yc T (9+k) zp [.int y,.int w,.int n] s=.ok (.tp AC ((yj (2^w) n y).map .int)) s:=λs=>by rw[show 9+k=8+k+1 by lia];exact lowest (8+k) y w n hw hn s
 have lA:=zY (2^w) n x;have lB:=zY (2^w) n y;let⟨s2,q7,q8,h2,o2,l2,f2⟩:=zfu k (by lia) (c:=97) (by simp) (p0:=AA (.int w)) (p1:=AA (.int n)) (p2:=AA (.int x)) (p3:=AA (.int y)) (p6:=AA (.int x)) (yj (2^w) n x) 0 M0 s1 0 AD AD (zao (A7 (by decide)) n x) (by lia) h1 (by lia);let⟨s3,r7,r8,h3,o3,l3,f3⟩:=zfu k (by lia) (c:=98) (by simp) (p0:=AA (.int w)) (p1:=AA (.int n)) (p2:=AA (.int x)) (p3:=AA (.int y)) (p6:=AA (.int y)) (yj (2^w) n y) 0 _ s2 _ q7 q8 (zao (A7 (by decide)) n y) (by lia) h2 (by lia);refine⟨s3,st.length,st.length+1,AU _,by lia,?_,λq hq=>?_,?_⟩
 .rw[show 2*n=0+(yj (2^w) n x).length+(yj (2^w) n y).length by lia];exact h3
 .rw[o3 q (by lia) (by lia),o2 q (by lia) (by lia),hs1,Aq,Ag hq]
 .have hb:yt.body=(match yt.body with
   |.cons a (.cons (.for t i _) r)=>.cons a (.cons (.for t i mwB) r)
   |x=>x):=rfl
  have hc:mwB=(match mwB with
   |.cons (.for t i _) r=>.cons (.for t i mwC) r
   |x=>x):=rfl
  have bt:∀(a b:PV) (p4 p5 p6 p7 p8:Option PV),yJ (.t [5,6]) (.tp AC [a,b]) [AA (.int w),AA (.int n),AA (.int x),AA (.int y),p4,p5,p6,p7,p8]=AA [AA (.int w),AA (.int n),AA (.int x),AA (.int y),p4,AA a,AA b,p7,p8]:=λ_ _ _ _ _ _ _=>rfl;have cA:(AF "a")=⟨#[97]⟩:=by ac_rfl
  have cB:(AF "b")=⟨#[98]⟩:=by ac_rfl
  have g1:exs (yc T (9+k)) [AA (.int w),AA (.int n),AA (.int x),AA (.int y),AA (.loc st.length),AA (.str ⟨#[97]⟩),AA (.int x),AD,AD] s1 mwB=.nx [AA (.int w),AA (.int n),AA (.int x),AA (.int y),AA (.loc st.length),AA (.str ⟨#[97]⟩),AA (.int x),q7,q8] s2:=by
   rw[hc];simp! [mwB,yt,eA,f2]
  have g2:exs (yc T (9+k)) [AA (.int w),AA (.int n),AA (.int x),AA (.int y),AA (.loc st.length),AA (.str ⟨#[98]⟩),AA (.int y),q7,q8] s2 mwB=.nx [AA (.int w),AA (.int n),AA (.int x),AA (.int y),AA (.loc st.length),AA (.str ⟨#[98]⟩),AA (.int y),r7,r8] s3:=by
   rw[hc];simp! [mwB,yt,eB,f3]
  have ag:∀(ρ:IC.Env) (s:SO) (k:IC.Env->SO->Fl),yaq (.nx ρ s) k=k ρ s:=λ_ _ _=>rfl;rw[show 10+k=9+k+1 by lia,zn hT rfl rfl];dsimp only;rw[hb];simp! [yt,e1,ybx,newV,hs1.symm,cA,cB,zk (bt _ _ _ _ _ _ _),zw,g1,g2,ag,zbq,IC.ve33]
noncomputable def getM(M:Mem)(c:Nat):Nat->Nat->List Int
 |_,0=>[]
 |a,n+1=>M c a::getM M c (a+1) n
theorem zdl(k:Nat){m l L:Nat}{w mk:Int}{M:Mem}{st:SO}(h:MM st m l w M mk L){c:Nat}(hc:c∈[97,98,99,100,109])(n:Nat)(hn:n<=8):
  yc T (10+k) zap [.loc m,.str ⟨#[c]⟩,.int n] st=.ok (.tp AC ((getM M c 0 n).map .int)) st:=by
 have hT:T zap=AA ⟨3,3,AC,yas.body⟩:=rfl;have hr:=zbp n (by lia);have ih:=h.ins (AF "word");have hl:∀(n a:Nat),(getM M c a n).length=n:=by
  intro n
  induction n with
  |zero=>intro a;rfl
  |succ n ihn=>intro a;simp[getM,ihn]
 have hcm:∀(n a:Nat),a+n<=9->yal (yc T (9+k)) [AD,AA (.str ⟨#[c]⟩),AA (.loc m)] (.n 0) (.cst (.bl AB)) (.mcl cM zQ (AF "word") (.var 2) (.cons (.var 1) (.cons (.var 0) .nil))) (yp n (a:Int) 1) st=.ok ((getM M c a n).map .int) st:=by
  intro n
  induction n with
  |zero=>intro a _;rw[yp,za1];rfl
  |succ n ihn=>
   intro a ha;have e:=ydY k h hc (i:=a) (by lia);have one:ybh (yc T (9+k)) [AD,AA (.str ⟨#[c]⟩),AA (.loc m)] (.n 0) (.cst (.bl AB)) (.mcl cM zQ (AF "word") (.var 2) (.cons (.var 1) (.cons (.var 0) .nil))) (.int (a:Int)) st=.ok (AA (.int (M c a))) st:=by
    simp! [ybh,ih,e,IC.ve37]
   have q:=ihn (a+1) (by lia);rw[yp,zZ,one,bd_ok,show ((a:Int)+1)=((a+1:Nat):Int)by lia,q,bd_ok];rfl
 have hcm:=hcm n 0 (by lia);have ht:yar .tuple st [.lst ((getM M c 0 n).map .int)]=AA (.tp AC ((getM M c 0 n).map .int)):=rfl;rw[show 10+k=9+k+1 by lia,zn hT rfl rfl];have hcm:yal (yc T (9+k)) [AD,AA (.str ⟨#[c]⟩),AA (.loc m)] (.n 0) (.cst (.bl AB)) (.mcl cM zQ (AF "word") (.var 2) (.cons (.var 1) (.cons (.var 0) .nil))) (yp n 0 1) st=_:=hcm;simp! [yas,hr,hcm];rw[zcl _ (by simp[hl];lia)];simp! [ht,zbq]
theorem zgq(k:Nat)(x:Int)(w n:Nat)(hw:w<=16)(hn:n<=8)(x0:0<=x)(x1:x<2^(w*n))(st:SO):yc T (k+2) zbm [.int x,.int w,.int n] st=.ok (.tp AC ((yj (2^w) n x).map .int)) st:=by
 have hT:T zbm=AA zbe:=rfl;have hwn:w*n<=1000:=by
  have:w*n<=16*8:=BH hw hn;lia
 have m1:=zf7 w n (by lia);have s1:=zmB (w*n) hwn;have e1:∀s,yc T (k+1) zp [.int x,.int w,.int n] s=_:=λs=>lowest k x w n hw hn s;have c1:decide (x<0)=false:=decide_eq_false (by lia);have c2:decide ((2:Int)^(w*n)<=x)=false:=decide_eq_false (by lia);rw[zc hT rfl rfl rfl];generalize hL:yj (2^w) n x=ws at *;simp! [zbe,c1,m1,s1,c2,e1];simp[ybq,nL,noLocs_ints]
structure yeT(pr:Prop)(deed:PV)(w n na:Nat)(rs:List Rw):Prop where
 nl:nL deed=AB
 isd:yc T 20 ze0 [deed] []=.ok (.bl AB) []
 isp:pr->False
 quo:∀st,(idxV st deed (.int 0)).bind (λv=>yD .isin v zas)=AA (.bl AC)
 rows:yc T 20 zaK [deed,.int w,.int n] []=.ok (.tp AC (rs.map yW)) []
 ref:∀r∈rs,yc T 20 zU [yW r] []=.ok .non []
 ans:yc T 20 zR [deed,.int n] []=.ok (.int na) []
 rest:yc T 20 zaa [deed,.int n] []=.ok (.int 0) []
theorem zdm(k:Nat){pr:Prop}{deed:PV}{w n na:Nat}{rs:List Rw}(D:yeT pr deed w n na rs)(hw:w<=16)(hn:n<=8){x y:Int}(x0:0<=x)(x1:x<2^(w*n))(y0:0<=y)(y1:y<2^(w*n))(hp:y≠0->pr)(st:SO):
  yc T (21+k) zaH [deed,.int w,.int n,.int x,.int y] st=.ok .non st:=by
 have hT:T zaH=AA zak:=rfl;have hnl:nLs [deed,.int w,.int n,.int x,.int y]=true:=by simp[nLs,D.nl,nL]
 have e1:=zal D.isd k;have e3:∀s,yc T (20+k) zbm [.int x,.int w,.int n] s=.ok (.tp AC ((yj (2^w) n x).map .int)) s:=λs=>by rw[show 20+k=18+k+2 by lia];exact zgq (18+k) x w n hw hn x0 x1 s
 have e4:∀s,yc T (20+k) zbm [.int y,.int w,.int n] s=.ok (.tp AC ((yj (2^w) n y).map .int)) s:=λs=>by rw[show 20+k=18+k+2 by lia];exact zgq (18+k) y w n hw hn y0 y1 s
 rw[show 21+k=20+k+1 by lia,zc hT rfl rfl hnl];have q:=D.quo []
 cases hi:idxV [] deed (.int 0)with
 |none=>rw[hi]at q;cases q
 |some v=>
  rw[hi,Bg]at q;generalize yj (2^w) n x=xs at *;generalize yj (2^w) n y=ys at *
  cases hy:(y==0)with
  |true=>simp! [zak,e1,e3,e4,hy,hi,q];rfl
  |false=>
   exact(D.isp (hp (by intro h;rw[h]at hy;exact absurd hy (by decide)))).elim
theorem ran(k:Nat){pr:Prop}{deed:PV}{w n na:Nat}{rs:List Rw}(D:yeT pr deed w n na rs)(hw:w<=16)(hw1:1<=w)(hn:n<=4)(hna:na<=8)(hrs:rs.length<5000){x y:Int}(x0:0<=x)(x1:x<2^(w*n))(y0:0<=y)(y1:y<2^(w*n))(hp:y≠0->pr)(hh:ybo (2^w) rs (yak (2^w) n x y) 0)(st:SO):
  yc T (22+k) zjH [deed,.int w,.int n,.int x,.int y] st=.ok (.tp AC [.tp AC ((getM (yE (2^w) rs (yak (2^w) n x y) 0).1 99 0 na).map .int),.tp AC [],.tp AC ((getM (yE (2^w) rs (yak (2^w) n x y) 0).1 109 0 4).map .int)]) st:=by
 have hT:T zjH=AA ⟨5,7,AB,ycn.body⟩:=rfl;have hnl:nLs [deed,.int w,.int n,.int x,.int y]=true:=by simp[nLs,D.nl,nL]
 have e1:=zdm k D hw (by lia) x0 x1 y0 y1 hp [];let⟨s2,m,l,_,_,h2,_,e2⟩:=zfh (11+k) w n hw (by lia) x y [];have e2:yc T (21+k) zaC [.int w,.int n,.int x,.int y] []=.ok (.loc m) s2:=by rw[show 21+k=10+(11+k)by lia];exact e2
 have nl3:nLs [deed,.int w,.int n]=true:=by simp[nLs,D.nl,nL]
 have nl2:nLs [deed,.int n]=true:=by simp[nLs,D.nl,nL]
 have up:∀{f:Nat} {fn:IC.Fn} {args:List PV} {v:PV},T f=AA fn->fn.pure=AB->args.length=fn.np->nLs args=AB->yc T 20 f args []=.ok v []->∀s,yc T (21+k) f args s=.ok v s:=λ{f fn args v} a b c d e s=>by
  have:=zal e (1+k);rw[show 20+(1+k)=20+k+1 by lia]at this;rw[show 21+k=20+k+1 by lia];exact zbF a b c d this s
 have e3:=up (f:=zaK) (fn:=zav) rfl rfl rfl nl3 D.rows s2;let⟨s4,h4,_,_,e4⟩:=zjM (14+k) (n:=w) (by lia) hw1 h2 (rs:=rs) (by lia) hh (λr hr=>by
  have:=zal (D.ref r hr) k;rw[show 20+k=14+k+6 by lia]at this;exact this)
 have e4:yc T (21+k) zaF [.loc m,.tp AC (rs.map yW)] s2=.ok .non s4:=by rw[show 21+k=14+k+7 by lia];exact e4
 have e5:=up (f:=zR) (fn:=zE) rfl rfl rfl nl2 D.ans s4;have e6:=up (f:=zaa) (fn:=zV) rfl rfl rfl nl2 D.rest s4;have n1:yc T (21+k) zap [.loc m,.str ⟨#[99]⟩,.int na] s4=.ok (.tp AC ((getM (yE (2^w) rs (yak (2^w) n x y) 0).1 99 0 na).map .int)) s4:=by
  have:=zdl (11+k) h4 (c:=99) (by simp) na hna;rw[show 10+(11+k)=21+k by lia]at this;exact this
 have n2:yc T (21+k) zap [.loc m,.str ⟨#[100]⟩,.int 0] s4=.ok (.tp AC []) s4:=by
  have:=zdl (11+k) h4 (c:=100) (by simp) 0 (by lia);rw[show 10+(11+k)=21+k by lia]at this;exact this
 have n3:yc T (21+k) zap [.loc m,.str ⟨#[109]⟩,.int 4] s4=.ok (.tp AC ((getM (yE (2^w) rs (yak (2^w) n x y) 0).1 109 0 4).map .int)) s4:=by
  have:=zdl (11+k) h4 (c:=109) (by simp) 4 (by lia);rw[show 10+(11+k)=21+k by lia]at this;exact this
 have ih:=h2.ins (AF "run");have cC:(AF "c")=⟨#[99]⟩:=by ac_rfl
 have cD:(AF "d")=⟨#[100]⟩:=by ac_rfl
 have cE:(AF "m")=⟨#[109]⟩:=by ac_rfl
 have vM:zcq=.int 4:=rfl;rw[show 22+k=21+k+1 by lia,zc hT rfl rfl hnl];dsimp only;generalize rs.map yW=rows at *;generalize getM (yE (2^w) rs (yak (2^w) n x y) 0).1 99 0 na=A at *;generalize getM (yE (2^w) rs (yak (2^w) n x y) 0).1 109 0 4=B at *;simp! [ycn,e1,e2,ih,e3,e4,e5,e6,cC,cD,cE,vM,n1,n2,n3,IC.ve37];simp[ybq,nL,nLs,noLocs_ints]
theorem letters:((CL 26).all λj=>isOk (yc T 2 zbB [.str (chS (97+j))] []) (.bl AB))=true:=by decide +kernel
theorem zgy(k:Nat){c:Nat}(h1:97<=c)(h2:c<=122)(s:SO):yc T (k+2) zbB [.str (chS c)] s=.ok (.bl AB) s:=by
 have h:=BP.1 letters (c-97) (by simp;lia);rw[show 97+(c-97)=c by lia]at h;have h:=zal (zep h) k;rw[show 2+k=k+1+1 by lia]at h;exact zbF (f:=zbB) (fn:=zbC) rfl rfl rfl rfl h s
theorem zfg(k:Nat){i a b:Int}(h1:a<=i)(h2:i<=b)(s:SO):yc T (k+1) zaE [.int i,.int a,.int b] s=.ok (.bl AB) s:=by
 have hT:T zaE=AA zan:=rfl;have e1:yaK (.int i) [.int]=AA (.bl AB):=rfl;have e2:yaK (.int i) [.bool]=AA (.bl AC):=rfl;have c1:decide (a<=i)=true:=decide_eq_true h1;have c2:decide (i<=b)=true:=decide_eq_true h2;rw[zc hT rfl rfl rfl];simp! [zan,e1,e2,c1,c2,IC.ve9];rfl
theorem zj8(k:Nat){x:Cel}(h1:97<=x.1)(h2:x.1<=122)(h3:0<=x.2)(h4:x.2<=99)(s:SO):yc T (k+4) zeU [yM x] s=.ok (.bl AB) s:=by
 have hT:T zeU=AA zbS:=rfl;have hT2:T zb8=AA zah:=rfl;have el:∀s,yc T (k+3) zb8 [yM x] s=.ok (.bl AB) s:=λs=>by
  have e:=λs=>zgy k h1 h2 s;rw[zc hT2 rfl rfl rfl];have e1:yaK (yM x) [.tuple]=AA (.bl AB):=rfl;have e2:∀st,yar .len st [yM x]=AA (.int 2):=λ_=>rfl;have e3:∀st,idxV st (yM x) (.int 0)=AA (.str (chS x.1)):=λ_=>rfl;generalize yM x=v at *;simp! [zah,e1,e2,e3,e];rfl
 have ew:=λs=>zfg (k+2) h3 h4 s;have e3:∀st,idxV st (yM x) (.int 1)=AA (.int x.2):=λ_=>rfl;rw[zc hT rfl rfl rfl];generalize yM x=v at *;simp! [zbS,el,e3,ew];rfl
noncomputable abbrev kC:PV:=.str "cell"
noncomputable abbrev kF:PV:=.str "figure"
theorem zla(k:Nat){x:Cel}(h1:97<=x.1)(h2:x.1<=122)(h3:0<=x.2)(h4:x.2<=99)(s:SO):yc T (k+5) zB [kC,yM x,.bl AC] s=.ok (.bl AB) s:=by
 have hT:T zB=AA zT:=rfl;have e:=λs=>zj8 k h1 h2 h3 h4 s;have c:yD .eq kC kF=AA (.bl AC):=by ac_rfl
 have hnl:nLs [kC,yM x,.bl AC]=true:=rfl;rw[zc hT rfl rfl hnl];generalize yM x=v at *;simp! [zT,c,e];rfl
theorem zko(k:Nat){d:Int}(h1:0<=d)(h2:d<=1)(s:SO):yc T (k+5) zB [kF,.int d,.bl AC] s=.ok (.bl AB) s:=by
 have hT:T zB=AA zT:=rfl;have e:=λs=>zfg (k+3) h1 h2 s;have c:yD .eq kF kF=AA (.bl AB):=by ac_rfl
 rw[zc hT rfl rfl rfl];simp! [zT,c,e];rfl
noncomputable def hfB:Css:=match yP.body with
 |.cons _ (.cons (.for _ _ b) _)=>b
 |x=>x
theorem zhT(k:Nat){p0 p1:PV}(hp1:p1=.bl AC){st:SO}:∀(l:List (PV×PV)) (p2 p3:Option PV),(∀x∈l,∀s,yc T k zB [x.1,x.2,.bl AC] s=.ok (.bl AB) s) ->
  ∃q2 q3,yaU (yc T k) (.t [2,3]) hfB (l.map λx=>.tp AC [x.1,x.2]) [AA p0,AA p1,p2,p3] st=.nx [AA p0,AA p1,q2,q3] st
 |[],p2,p3,_=>⟨p2,p3,zw⟩
 |(a,b)::l,p2,p3,h=>by
  subst hp1;let⟨q2,q3,e⟩:=zhT k (p0:=p0) rfl (st:=st) l (AA a) (AA b) (λx hx=>h x (by simp[hx]));refine⟨q2,q3,?_⟩;have e1:=h (a,b) (by simp) st;have one:exs (yc T k) [AA p0,AA (.bl AC),AA a,AA b] st hfB=.nx [AA p0,AA (.bl AC),AA a,AA b] st:=by
   simp only at e1;simp! [hfB,yP,e1]
  rw[AL,zk (ρ1:=[AA p0,AA (.bl AC),AA a,AA b]) rfl,one];exact e
theorem zit(k:Nat){nm:AQ}{ops:List PV}(ho:nLs ops=AB)(hl:0<(.str nm::ops:List PV).length)(hd:yct zae (.str nm)=AA (.bl AB))(s:SO):yc T (k+1) zcm [.tp AC (.str nm::ops)] s=.ok (.bl AB) s:=by
 have hT:T zcm=AA zbn:=rfl;have hnl:nLs [.tp AC (.str nm::ops)]=true:=by simp[nLs,nL,ho]
 have e1:yaK (.tp AC (.str nm::ops)) [.tuple]=AA (.bl AB):=rfl;have e2:∀st,yar .len st [.tp AC (.str nm::ops)]=AA (.int ((.str nm::ops:List PV).length:Nat)):=λ_=>rfl;have e3:∀st,idxV st (.tp AC (.str nm::ops)) (.int 0)=AA (.str nm):=λ_=>ix0;have e4:yaK (.str nm) [.str]=AA (.bl AB):=rfl;have c:decide (((.str nm::ops:List PV).length:Int) > 0)=true:=decide_eq_true (by lia);rw[zc hT rfl rfl hnl];generalize (PV.str nm::ops).length=L at *;generalize PV.tp AC (.str nm::ops)=v at *;simp! [zbn,e1,e2,e3,e4,c,hd,IC.ve29];rfl
theorem zgs:∀l:List (PV×PV),yaQ (l.map (·.1)) (l.map (·.2))=l.map λx=>.tp AC [x.1,x.2]
 |[]=>rfl
 |(a,b)::l=>by erw[AL,yaQ,zgs l,PV.tup]
theorem zhj(k:Nat){nm:AQ}(l:List (PV×PV))(hd:yct zae (.str nm)=AA (.bl AB))(hr:ycK zae (.str nm)=AA (.tp AB (l.map (·.1))))(ho:∀x∈l,∀s,yc T (k+1) zB [x.1,x.2,.bl AC] s=.ok (.bl AB) s)(hnl:nLs (l.map (·.2))=AB)
  (ht:yD .ne (.str nm) (.str "times")=AA (.bl AB)) (s:SO):yc T (k+2) zch [.tp AC (.str nm::l.map (·.2)),.bl AC] s=.ok (.bl AB) s:=by
 have hT:T zch=AA yP:=rfl;have hn2:nLs [.tp AC (.str nm::l.map (·.2)),.bl AC]=true:=by simp[nLs,nL,hnl]
 have e0:∀st,yc T (k+1) zcm [.tp AC (.str nm::l.map (·.2))] st=.ok (.bl AB) st:=λst=>zit k hnl (by simp) hd st;have e1:∀st,yar .len st [.tp AC (.str nm::l.map (·.2))]=AA (.int ((l.length+1:Nat):Int)):=λst=>by
  show AA (PV.int (((PV.str nm::l.map (·.2)).length:Nat):Int))=_;simp
 have e2:∀st,idxV st (.tp AC (.str nm::l.map (·.2))) (.int 0)=AA (.str nm):=λ_=>ix0;have e3:∀st,yar .len st [.tp AB (l.map (·.1))]=AA (.int (l.length:Nat)):=λst=>by
  show AA (PV.int (((l.map (·.1)).length:Nat):Int))=_;simp
 have c1:((((l.length+1:Nat):Int)==(l.length:Int)+1):Bool)=true:=by simp
 have o1:yb2 (.int 1)=AA (AA 1):=rfl;have e5:ycs (.tp AC (.str nm::l.map (·.2))) (AA 1) .non=AA (.tp AC (l.map (·.2))):=by
  have hc:ybn (l.length+1) 1=1:=by simp[ybn]
  erw[ycs,yb2,ycz,cut,ycE,yc0,AS,BD,hc,List.drop_succ_cons,Gj]
  first
  |(rw[Et (by simp)];done)
  |(simp;done)
  |(simp[Et])
 have e6:ydS (.tp AB (l.map (·.1))) (.tp AC (l.map (·.2)))=AA (l.map λx=>.tp AC [x.1,x.2]):=by
  simp[ydS,zgs]
 let⟨q2,q3,e7⟩:=zhT (k+1) (p0:=.tp AC (.str nm::l.map (·.2))) (p1:=.bl AC) rfl (st:=[]) l AD AD ho
 have hb:yP.body=(match yP.body with
  |.cons a (.cons (.for t i _) r)=>.cons a (.cons (.for t i hfB) r)
  |x=>x):=rfl
 rw[zc hT rfl rfl hn2];rw[hb];generalize hv:PV.tp AC (.str nm::l.map (·.2))=v at *;generalize hz:(l.map λx=>PV.tp AC [x.1,x.2])=zs at *;generalize PV.tp AB (l.map (·.1))=ks at *;simp! [yP,e0,e1,e2,hr,e3,c1,e5,e6,e7,ht,o1,onP];rfl
def yap(x:Cel):Prop:=97<=x.1/\x.1<=122/\0<=x.2/\x.2<=99
def ycf:Rw->Prop
 |.mark d=>0<=d/\d<=1
 |.ask x=>yap x
 |.set t d=>yap t/\0<=d/\d<=1
 |.move t x | .bare t x | .twice t x | .half t x=>yap t/\yap x
 |.sum t x y | .less t x y | .both t x y | .any t x y | .odd t x y=>yap t/\yap x/\yap y
theorem zbU{r:PV}{nm:AQ}(l:List (PV×PV))(hr:r=.tp AC (.str nm::l.map (·.2)))(hd:yct zae (.str nm)=AA (.bl AB))(hx:ycK zae (.str nm)=AA (.tp AB (l.map (·.1))))(ho:∀x∈l,∀k s,yc T (k+5) zB [x.1,x.2,.bl AC] s=.ok (.bl AB) s)(hnl:nLs (l.map (·.2))=AB)
  (ht:yD .ne (.str nm) (.str "times")=AA (.bl AB)):ybu r:=λk s=>by
 have hT:T zbd=AA zcJ:=rfl;have e:∀s,yc T (9+k) zch [r,.bl AC] s=.ok (.bl AB) s:=λs=>by
  subst hr;rw[show 9+k=7+k+2 by lia];exact zhj (7+k) l hd hx (λx hx s=>by rw[show 7+k+1=3+k+5 by lia];exact ho x hx (3+k) s) hnl ht s
 have hn2:nLs [r]=true:=by subst hr;simp[nLs,nL,hnl]
 rw[show 10+k=9+k+1 by lia,zc hT rfl rfl hn2];simp! [zcJ,e];rfl
theorem oC{x:Cel}(h:yap x)(k:Nat)(s:SO):yc T (k+5) zB [kC,yM x,.bl AC] s=.ok (.bl AB) s:=zla k h.1 h.2.1 h.2.2.1 h.2.2.2 s
theorem yf7{nm:AQ}{x:Cel}(h:yap x)(hd:yct zae (.str nm)=AA (.bl AB))(hx:ycK zae (.str nm)=AA (.tp AB [kC]))(ht:yD .ne (.str nm) (.str "times")=AA (.bl AB)):ybu (.tp AC [.str nm,yM x]):=
 zbU [(kC,yM x)] rfl hd hx (λa ha=>by erw[A3,BQ,or_false]at ha;subst ha;exact oC h) rfl ht
theorem row2{nm:AQ}{t x:Cel}(h0:yap t)(h:yap x)(hd:yct zae (.str nm)=AA (.bl AB))(hx:ycK zae (.str nm)=AA (.tp AB [kC,kC]))(ht:yD .ne (.str nm) (.str "times")=AA (.bl AB)):ybu (.tp AC [.str nm,yM t,yM x]):=
 zbU [(kC,yM t),(kC,yM x)] rfl hd hx (λa ha=>by erw[A3,BQ,or_false]at ha;rcases ha with rfl|rfl;exact oC h0;exact oC h) rfl ht
theorem ydr{nm:AQ}{t x y:Cel}(h0:yap t)(h:yap x)(h2:yap y)(hd:yct zae (.str nm)=AA (.bl AB))(hx:ycK zae (.str nm)=AA (.tp AB [kC,kC,kC]))(ht:yD .ne (.str nm) (.str "times")=AA (.bl AB)):ybu (.tp AC [.str nm,yM t,yM x,yM y]):=
 zbU [(kC,yM t),(kC,yM x),(kC,yM y)] rfl hd hx (λa ha=>by erw[A3,BQ,or_false]at ha;rcases ha with rfl|rfl|rfl;exact oC h0;exact oC h;exact oC h2) rfl ht
theorem zgp:∀r,ycf r->ybu (yW r)
 |.mark d,h=>zbU [(kF,.int d)] rfl (by ac_rfl) (by ac_rfl) (λa ha=>by erw[A3,BQ,or_false]at ha;subst ha;exact λk s=>zko k h.1 h.2 s) rfl (by ac_rfl)
 |.ask x,h=>yf7 h (by ac_rfl) (by ac_rfl) (by ac_rfl)
 |.set t d,h=>zbU [(kC,yM t),(kF,.int d)] rfl (by ac_rfl) (by ac_rfl) (λa ha=>by erw[A3,BQ,or_false]at ha;rcases ha with rfl|rfl;exact oC h.1;exact λk s=>zko k h.2.1 h.2.2 s) rfl (by ac_rfl)
 |.move t x,h=>row2 h.1 h.2 (by ac_rfl) (by ac_rfl) (by ac_rfl)
 |.bare t x,h=>row2 h.1 h.2 (by ac_rfl) (by ac_rfl) (by ac_rfl)
 |.twice t x,h=>row2 h.1 h.2 (by ac_rfl) (by ac_rfl) (by ac_rfl)
 |.half t x,h=>row2 h.1 h.2 (by ac_rfl) (by ac_rfl) (by ac_rfl)
 |.sum t x y,h=>ydr h.1 h.2.1 h.2.2 (by ac_rfl) (by ac_rfl) (by ac_rfl)
 |.less t x y,h=>ydr h.1 h.2.1 h.2.2 (by ac_rfl) (by ac_rfl) (by ac_rfl)
 |.both t x y,h=>ydr h.1 h.2.1 h.2.2 (by ac_rfl) (by ac_rfl) (by ac_rfl)
 |.any t x y,h=>ydr h.1 h.2.1 h.2.2 (by ac_rfl) (by ac_rfl) (by ac_rfl)
 |.odd t x y,h=>ydr h.1 h.2.1 h.2.2 (by ac_rfl) (by ac_rfl) (by ac_rfl)
theorem zmr{v:PV}(hn:nL v=AB)(h:ybu v)(k:Nat)(s:SO):yc T (11+k) zU [v] s=.ok .non s:=by
 have hT:T zU=AA zab:=rfl;have e:=λs=>h k s;rw[show 11+k=10+k+1 by lia,zc hT rfl rfl (by simp[nLs,hn])];simp! [zab,e];rfl
theorem zjG{c:Cl}{N acc lo:Int}{st:SO}:exs c [AA (.int N),AA (.int acc),AA (.int lo)] st (.cons (.asg (.n 1) (.bin .mul (.cst (.int 2)) (.var 1))) .nil)=.nx [AA (.int N),AA (.int (2*acc)),AA (.int lo)] st:=by
 erw[xs_nil,xs_cons,x_asg,yax,nxO,IC.ve1,IC.ve2,IC.ve3,R.bind,R.fl,yJ,yq,binI,yaB,toR,A5,A6,AN,AM];simp
theorem zdK(k n:Nat)(hn:n<1000)(st:SO):yc T (k+1) zI [.int n] st=.ok (.int (2^n)) st:=by
 let⟨ρ',st',h,u,e1,e2⟩:=zd8 (call:=yc T k) (t:=.n 2) (b:=.cons (.asg (.n 1) (.bin .mul (.cst (.int 2)) (.var 1))) .nil) (λi ρ st=>∃u,ρ=[AA (.int n),AA (.int (2^i)),u]/\st=[]) (yp n 0 1) 0 [AA (.int n),AA (.int 1),AD] [] ⟨_,rfl,rfl⟩ (by
  rintro j x ρ st hx ⟨u,rfl,rfl⟩
  have hx:∃i,x=.int i:=by
   have:∀(n:Nat) (a d:Int) (j:Nat) x,(yp n a d)[j]?=AA x->∃i,x=.int i:=by
    intro n
    induction n with
    |zero=>intro a d j x h;simp[yp]at h
    |succ n ih=>
     intro a d j x h
     cases j with
     |zero=>simp[yp]at h;exact⟨a,h.symm⟩
     |succ j=>simp[yp]at h;exact ih _ _ _ _ h
   exact this _ _ _ _ _ hx
  let⟨i,rfl⟩:=hx;exact⟨_,_,_,rfl,zjG,_,by rw[Ad,Ac],rfl⟩)
 have hl:(yp n 0 1).length=n:=by
  have:∀(n:Nat) (a d:Int),(yp n a d).length=n:=by
   intro n
   induction n with
   |zero=>intro a d;rfl
   |succ n ih=>intro a d;simp[yp,ih]
  exact this _ _ _
 rw[hl,BW]at e1;subst e1 e2;rw[yc,show T zI=AA zbT from rfl];erw[zbT,AS,Ar,if_true,nLs,nL,Cv,AL,Aa,Ba,Ae,Ab,As,xs_cons,xs_nil,x_asg,x_for,x_ret,yax,nxO,IC.ve1,IC.ve2,R.fl,yJ,A5,A6,evi,R.bind,AN,ybL,toL];erw[show (n:Int).natAbs<1000000000 by lia,if_true,CK,h];simp[nL]
def ybU(W:Int)(M:Mem):Prop:=∀c i,0<=M c i/\M c i<W
noncomputable def rwD:Rw->Prop
 |.mark d | .set _ d=>0<=d/\d<=1
 |_=>True
theorem zaY{W:Int}{M:Mem}(h:ybU W M){t:Cel}{v:Int}(h0:0<=v)(h1:v<W):ybU W (wr M t v):=λc i=>by
 erw[wr,upd];split
 .exact⟨h0,h1⟩
 .exact h c i
theorem zg4{W s:Int}(hW:0<W)(h0:0<=s)(h1:s<2*W):(0<=s%W/\s%W<W)/\0<=s/W/\s/W<=1:=
 ⟨⟨BF _ (by lia),An _ hW⟩,C7 h0 (by lia),by have:=B6 hW (show s<2*W from h1);lia⟩
theorem zgm{w:Nat}(hw:1<=w){M:Mem}{k:Int}(h:ybU (2^w) M)(k0:0<=k)(k1:k<=1):∀r,rwD r->ybU (2^w) (stepM (2^w) M k r).1/\0<=(stepM (2^w) M k r).2/\(stepM (2^w) M k r).2<=1:=by
 obtain⟨H,hH⟩:∃H:Int,(2:Int)^w=2*H:=⟨2^(w-1),by obtain⟨v,rfl⟩:∃v,w=v+1:=⟨w-1,by lia⟩;rw[Ad,Ac];rfl⟩;have hW:(0:Int)<2^w:=A7 (by lia);have R:∀x:Cel,0<=rd M x/\rd M x<2^w:=λx=>h x.1 x.2;intro r hr
 cases r with
 |mark d=>exact⟨h,hr⟩
 |ask x=>exact⟨h,zfU _⟩
 |set t d=>exact⟨zaY h hr.1 (by have:=hr.2;lia),k0,k1⟩
 |move t x=>exact⟨zaY h (R x).1 (R x).2,k0,k1⟩
 |bare t x=>exact⟨zaY h (by have:=(R x).2;lia) (by have:=(R x).1;lia),k0,k1⟩
 |twice t x=>
  let⟨a,b⟩:=zg4 hW (s:=2*rd M x+k) (by have:=(R x).1;lia) (by have:=(R x).2;lia);exact⟨zaY h a.1 a.2,b⟩
 |half t x=>
  let⟨a,b⟩:=R x;have e:(2:Int)^w/2=H:=by lia
  refine⟨zaY h ?_ ?_,by show 0<=rd M x%2;lia,by show rd M x%2<=1;lia⟩
  .rw[e];rcases (by lia:k=0 \/ k=1)with rfl|rfl<;>lia
  .rw[e];rcases (by lia:k=0 \/ k=1)with rfl|rfl<;>lia
 |sum t x y=>
  let⟨a,b⟩:=zg4 hW (s:=rd M x+rd M y+k) (by have:=(R x).1;have:=(R y).1;lia) (by have:=(R x).2;have:=(R y).2;lia);exact⟨zaY h a.1 a.2,b⟩
 |less t x y=>exact⟨zaY h (BF _ (by lia)) (An _ hW),zfU _⟩
 |both t x y=>
  let⟨a,b⟩:=zn4 (w:=w) (R x).1 (R y).1 (R y).2;exact⟨zaY h a b,k0,k1⟩
 |any t x y=>
  let⟨a,b⟩:=zof (w:=w) (R x).1 (R x).2 (R y).1 (R y).2;exact⟨zaY h a b,k0,k1⟩
 |odd t x y=>
  let⟨a,b⟩:=zoF (w:=w) (R x).1 (R x).2 (R y).1 (R y).2;exact⟨zaY h a b,k0,k1⟩
theorem zfW{w:Nat}(hw:1<=w):∀(rs:List Rw) (M:Mem) (k:Int),(∀r∈rs,rwD r)->ybU (2^w) M->0<=k->k<=1->ybo (2^w) rs M k
 |[],M,k,_,h,_,_=>trivial
 |r::rs,M,k,hr,h,k0,k1=>by
  let⟨a,b,c⟩:=zgm hw h k0 k1 r (hr r (by simp));exact⟨λt x _=>⟨(h x.1 x.2).1,(h x.1 x.2).2,k0,by lia⟩,zfW hw rs _ _ (λx hx=>hr x (by simp[hx])) a b c⟩
theorem zef{W:Int}(c:Nat):∀(ws:List Int) (i:Nat) (M:Mem),(∀v∈ws,0<=v/\v<W)->ybU W M->ybU W (yaG c i ws M)
 |[],i,M,_,h=>h
 |v::ws,i,M,hv,h=>zef c ws (i+1) _ (λu hu=>hv u (by simp[hu])) (zaY (t:=(c,(i:Int))) h (hv v (by simp)).1 (hv v (by simp)).2)
theorem zlD{W:Int}(hW:0<W)(n:Nat)(x y:Int):ybU W (yak W n x y):=
 zef 98 _ _ _ (zao hW n y) (zef 97 _ _ _ (zao hW n x) λ_ _=>⟨by simp[M0],by simpa [M0] using hW⟩)
theorem zhz{w:Nat}(hw:1<=w):∀(rs:List Rw) (M:Mem) (k:Int),(∀r∈rs,rwD r)->ybU (2^w) M->0<=k->k<=1->ybU (2^w) (yE (2^w) rs M k).1
 |[],M,k,_,h,_,_=>h
 |r::rs,M,k,hr,h,k0,k1=>by
  let⟨a,b,c⟩:=zgm hw h k0 k1 r (hr r (by simp));exact zhz hw rs _ _ (λx hx=>hr x (by simp[hx])) a b c
noncomputable def ybX(W:Int)(M:Mem)(c:Nat):Nat->Nat->Int
 |_,0=>0
 |a,n+1=>ybX W M c (a+1) n*W+M c a
theorem zgr(W:Int)(M:Mem)(c:Nat):∀(n a:Nat),ybX W M c a (n+1)=ybX W M c a n+M c ((a+n:Nat):Int)*W^n
 |0,a=>by simp[ybX]
 |n+1,a=>by
  have h:=zgr W M c n (a+1);rw[ybX,h,ybX,show a+1+n=a+(n+1)by lia,Ad,EO,Ay];lia
theorem zkA(W:Int)(M:Mem)(c:Nat):∀n,ybX W M c 0 n=yX W M c n
 |0=>rfl
 |n+1=>by rw[zgr,zkA W M c n,yX,BW]
theorem zhs{W:Int}(hW:0<W){M:Mem}(h:ybU W M)(c:Nat):∀n a,yj W n (ybX W M c a n)=getM M c a n
 |0,a=>rfl
 |n+1,a=>by
  let⟨h0,h1⟩:=h c a;have e1:(ybX W M c (a+1) n*W+M c a)%W=M c a:=by
   rw[Dl,Dn];exact Aw h0 h1
  have e2:(ybX W M c (a+1) n*W+M c a)/W=ybX W M c (a+1) n:=by
   rw[Dl,Eu _ _ (by lia),BS h0 h1,GE]
  rw[ybX,yj,e1,e2,zhs hW h c n (a+1),getM]
theorem zl8{W:Int}(hW:0<W){M:Mem}(h:ybU W M)(c n:Nat){v:Int}(hv:yX W M c n=v):getM M c 0 n=yj W n v:=by
 rw[<-zhs hW h c n 0,zkA,hv]
def sgd(T x:Int):Int:=if T<=2*x then x-T else x
theorem zgn{W:Int}(M:Mem)(k:Int)(f:Int->Rw)(g:Int->Int)(hf:∀(M1:Mem) (i:Int),(∀d j,d≠99->M1 d j=M d j)->stepM W M1 k (f i)=(wr M1 (99,i) (g i),k)):∀n:Nat,
  (yE W (yF f n) M k).2=k/\(∀d j,d≠99->(yE W (yF f n) M k).1 d j=M d j)/\∀i:Nat,i<n->(yE W (yF f n) M k).1 99 i=g i
 |0=>⟨rfl,λ_ _ _=>rfl,λi hi=>by lia⟩
 |n+1=>by
  let⟨h1,h2,h3⟩:=zgn M k f g hf n;rw[yF,zx];generalize yE W (yF f n) M k=R at *;let⟨M1,k'⟩:=R;simp only at *;subst h1;erw[yE,hf M1 n h2];refine⟨trivial,λd j hd=>?_,λi hi=>?_⟩
  .simp only[wr,upd];rw[if_neg (by lia),h2 d j hd]
  .simp only[wr,upd]
   by_cases hin:i=n
   .subst hin;rw[if_pos ⟨trivial,rfl⟩]
   .rw[if_neg (by lia)];exact h3 i (by lia)
def yG(n:Nat):List Rw:=yF (λi=>.move (99,i) (97,i)) n
noncomputable def yg(body:List Rw):Nat->List Rw
 |0=>[]
 |s+1=>yg body s++body
def twiceRows(n:Nat):List Rw:=yF (λj=>.twice (99,j) (99,j)) n
def yu(n:Nat):List Rw:=yF (λj=>.half (99,(n:Int)-1-j) (99,(n:Int)-1-j)) n
def yag(n:Nat):Rw:=.twice cT (99,(n:Int)-1)
def yaj(s n:Nat):List Rw:=yG n++yg (.mark 0::twiceRows n) s++[.sum (109,0) cZ cZ]++yw n
def yS(s n:Nat):List Rw:=yG n++yg (.mark 0::yu n) s++[.sum (109,0) cZ cZ]++yw n
def yai(s n:Nat):List Rw:=yG n++yg (yag n::yu n) s++[.sum (109,0) cZ cZ]++yw n
def yO(s n:Nat):List Rw:=yG n++yg (yag n::twiceRows n) s++yw n
theorem zce{W:Int}(hW:2<=W)(M:Mem)(k:Int)(k0:0<=k)(k1:k<=1):∀n,Dg W M 99 n ->
  (∀d j,(d≠99 \/ (n:Int)<=j)->(yE W (twiceRows n) M k).1 d j=M d j)/\Dg W (yE W (twiceRows n) M k).1 99 n/\0<=(yE W (twiceRows n) M k).2/\(yE W (twiceRows n) M k).2<=1/\yX W (yE W (twiceRows n) M k).1 99 n+(yE W (twiceRows n) M k).2*W^n=2*yX W M 99 n+k
 |0,_=>⟨λ_ _ _=>rfl,λi hi=>by lia,k0,k1,by simp[yX,twiceRows,yF,yE]⟩
 |n+1,ha=>by
  let⟨h1,h2,h3,h4,h5⟩:=zce hW M k k0 k1 n ha.mono;have e:twiceRows (n+1)=twiceRows n++[.twice (99,n) (99,n)]:=rfl;rw[e,zx];generalize yE W (twiceRows n) M k=R at *;let⟨M1,k'⟩:=R;simp only at *;let⟨a0,a1⟩:=ha n (by lia);erw[yE,stepM,rd,wr,h1 99 n (.inr (by lia))];generalize hA:M 99 (n:Int)=A at *;have hW0:0<W:=by lia
  have d1:=BF (2*A+k') (show W≠0 by lia);have d2:=An (2*A+k') hW0;have d3:=B7 (2*A+k') W;have d4:0<=(2*A+k')/W:=C7 (by lia) (by lia);have d5:(2*A+k')/W<2:=B6 hW0 (by lia);refine⟨λd j hd=>?_,λi hi=>?_,d4,by lia,?_⟩
  .unfold upd;rw[if_neg (by lia),h1 d j (by lia)]
  .unfold upd
   by_cases hin:i=n
   .subst hin;rw[if_pos ⟨rfl,rfl⟩];exact⟨d1,d2⟩
   .rw[if_neg (by lia)];exact h2 i (by lia)
  .have hv:yX W (upd M1 99 (n:Int) ((2*A+k')%W)) 99 (n+1)=yX W M1 99 n+(2*A+k')%W*W^n:=by
    rw[yX,zL (M':=M1) (c':=99) n λi hi=>by unfold upd;rw[if_neg (by lia)]];unfold upd;rw[if_pos ⟨rfl,rfl⟩]
   rw[hv,yX,hA,Ad];generalize W^n=P at *;generalize (2*A+k')%W=r at *;generalize (2*A+k')/W=q at *;have e2:r=2*A+k'-W*q:=by lia
   subst e2;have e3:(2*A+k'-W*q)*P+q*(P*W)=2*(A*P)+k' * P:=by
    rw[ES,EO,Ac W q,Ay q W P,Ac W P,Ay 2 A P];lia
   generalize (2*A+k'-W*q)*P=X1 at *;generalize q*(P*W)=X2 at *;lia
theorem zcr(f:Int->Rw):∀n:Nat,yF f (n+1)=f 0::yF (λj=>f (j+1)) n
 |0=>rfl
 |n+1=>by
  rw[yF,zcr f n,yF,Ab];rfl
theorem zc4{H:Int}(hH:1<=H):∀(n:Nat) (M:Mem) (k:Int),0<=k->k<=1->Dg (2*H) M 99 n ->
  (∀d j,(d≠99 \/ (n:Int)<=j)->(yE (2*H) (yu n) M k).1 d j=M d j)/\Dg (2*H) (yE (2*H) (yu n) M k).1 99 n/\0<=(yE (2*H) (yu n) M k).2/\(yE (2*H) (yu n) M k).2<=1/\2*yX (2*H) (yE (2*H) (yu n) M k).1 99 n+(yE (2*H) (yu n) M k).2=yX (2*H) M 99 n+k*(2*H)^n
 |0,M,k,k0,k1,_=>⟨λ_ _ _=>rfl,λi hi=>by lia,k0,k1,by simp[yX,yu,yF,yE]⟩
 |n+1,M,k,k0,k1,ha=>by
  have e:yu (n+1)=.half (99,n) (99,n)::yu n:=by
   unfold yu;rw[zcr]
   congr 1
   .rw[show ((n+1:Nat):Int)-1-0=n by lia]
   .congr 1
    funext j
    rw[show ((n+1:Nat):Int)-1-(j+1)=(n:Int)-1-j by lia]
  let⟨a0,a1⟩:=ha n (by lia);rw[e,zaw];erw[stepM,rd,wr];rw[show 2*H/2=H by lia];generalize hA:M 99 (n:Int)=A at *;have q0:0<=A/2:=by lia
  have hkH:k*H=0 \/ k*H=H:=by
   rcases (by lia:k=0 \/ k=1)with rfl|rfl
   .left;lia
   .right;lia
  have hM:∀i:Nat,i<n->upd M 99 (n:Int) (A/2+k*H) 99 i=M 99 i:=λi hi=>by unfold upd;rw[if_neg (by lia)]
  let⟨h1,h2,h3,h4,h5⟩:=zc4 hH n (upd M 99 (n:Int) (A/2+k*H)) (A%2) (by lia) (by lia) (λi hi=>by rw[hM i hi];exact ha i (by lia));generalize yE (2*H) (yu n) (upd M 99 (n:Int) (A/2+k*H)) (A%2)=R at *;let⟨M1,k'⟩:=R;simp only at *;have hn1:M1 99 n=A/2+k*H:=by
   rw[h1 99 n (.inr (by lia))];unfold upd;rw[if_pos ⟨rfl,rfl⟩]
  refine⟨λd j hd=>?_,λi hi=>?_,h3,h4,?_⟩
  .rw[h1 d j (by lia)];unfold upd;rw[if_neg (by lia)]
  .by_cases hin:i=n
   .subst hin;rw[hn1];lia
   .exact h2 i (by lia)
  .rw[zL (M':=M) (c':=99) n hM]at h5;rw[yX,yX,hn1,hA,Ad];generalize (2*H)^n=P at *;have e1:A*P=A%2*P+2*(A/2*P):=by
    have:A=A%2+2*(A/2):=by lia
    conv=>lhs;rw[this]
    rw[EO,Ay]
   have e2:(A/2+k*H)*P=A/2*P+k*(H*P):=by rw[EO,Ay]
   have e3:k*(P*(2*H))=2*(k*(H*P)):=by
    rw[Ac P,Ay 2 H P,<-Ay k 2,Ac k 2,Ay]
   rw[e1,e2,e3];generalize A%2*P=X1 at *;generalize A/2*P=X2 at *;generalize k*(H*P)=X3 at *;lia
structure Shf(W:Int)(n:Nat)(M0 M:Mem)(v:Int):Prop where
 dg:Dg W M 99 n
 val:yX W M 99 n=v
 keep:∀d j,d≠99->d≠116->M d j=M0 d j
theorem zcD{W:Int}(hW:0<W){n:Nat}{x y:Int}(x0:0<=x)(x1:x<W^n):(yE W (yG n) (yak W n x y) 0).2=0/\Shf W n (yak W n x y) (yE W (yG n) (yak W n x y) 0).1 x:=by
 have da:=zmJ n x y hW;let⟨h1,h2,h3⟩:=zgn (W:=W) (yak W n x y) 0 (λi=>.move (99,i) (97,i)) (λi=>yak W n x y 97 i) (λM1 i h=>by erw[stepM,rd,h 97 i (by decide)]) n;refine⟨h1,⟨λi hi=>?_,?_,λd j hd _=>h2 d j hd⟩⟩
 .have:=h3 i hi;unfold yG;rw[this];exact da i hi
 .exact(zL (M':=yak W n x y) (c':=97) n λi hi=>h3 i hi).trans (znf n x y hW x0 x1)
theorem zjn{W:Int}(hW:2<=W){n:Nat}{M0 M:Mem}{k v:Int}(h:Shf W n M0 M v):∃M' k',yE W (.mark 0::twiceRows n) M k=(M',k')/\0<=k'/\k'<=1/\Shf W n M0 M' (2*v%W^n)/\k'=2*v/W^n:=by
 let⟨h1,h2,h3,h4,h5⟩:=zce hW M 0 (by lia) (by lia) n h.dg;have hs0:stepM W M k (.mark 0)=(M,0):=rfl;rw[zaw,hs0];rw[h.val,GB]at h5;have hP:0<W^n:=A7 (by lia);let⟨r0,r1⟩:=zbP (by lia) n h2;refine⟨_,_,rfl,h3,h4,⟨h2,?_,λd j hd ht=>by rw[h1 d j (.inl hd),h.keep d j hd ht]⟩,?_⟩
 .rw[<-h5,Dn,Aw r0 r1]
 .rw[<-h5,Eu _ _ (by lia),BS r0 r1,GE]
theorem zix{H:Int}(hH:1<=H){n:Nat}{M0 M:Mem}{k v:Int}(h:Shf (2*H) n M0 M v):∃M' k',yE (2*H) (.mark 0::yu n) M k=(M',k')/\0<=k'/\k'<=1/\Shf (2*H) n M0 M' (v/2)/\k'=v%2:=by
 let⟨h1,h2,h3,h4,h5⟩:=zc4 hH n M 0 (by lia) (by lia) h.dg;have hs0:stepM (2*H) M k (.mark 0)=(M,0):=rfl;rw[zaw,hs0];rw[h.val,GF,GB]at h5;simp only;refine⟨_,_,rfl,h3,h4,⟨h2,by lia,λd j hd ht=>by rw[h1 d j (.inl hd),h.keep d j hd ht]⟩,by lia⟩
theorem zcM{w:Nat}(hw:1<w){n:Nat}{M0 M:Mem}{k v:Int}(h:Shf (2^w) (n+1) M0 M v)(k0:0<=k)(k1:k<=1)(zo:M0 122 0=0)(m1:M0 109 1=0):
  yX (2^w) (yE (2^w) (.sum (109,0) cZ cZ::yw (n+1)) M k).1 99 (n+1)=v/\(yE (2^w) (.sum (109,0) cZ cZ::yw (n+1)) M k).1 109 0=k/\(yE (2^w) (.sum (109,0) cZ cZ::yw (n+1)) M k).1 109 1=0 /\
  (yE (2^w) (.sum (109,0) cZ cZ::yw (n+1)) M k).1 109 2=bi (v==0)/\(yE (2^w) (.sum (109,0) cZ cZ::yw (n+1)) M k).1 109 3=bi (decide ((2^w:Int)^(n+1)<=2*v)):=by
 have hW4:(4:Int)<=2^w:=by
  have h:(2:Nat)^2<=2^w:=Ai (by lia) (by lia);have h2:=pw w;lia
 have z1:M 122 0=0:=by rw[h.keep 122 0 (by decide) (by decide),zo]
 have hs:stepM (2^w) M k (.sum (109,0) cZ cZ)=(wr M (109,0) k,0):=by
  erw[stepM,rd,cZ,z1];rw[show (0:Int)+0+k=k by lia,Aw k0 (by lia),BS k0 (by lia)]
 rw[zaw,hs];have g2:∀d j,(d≠109 \/ j≠0)->wr M (109,0) k d j=M d j:=λd j h=>by
  erw[wr,upd];rw[if_neg (by lia)]
 have g3:wr M (109,0) k 109 0=k:=by simp[wr,upd]
 generalize wr M (109,0) k=M2 at *;have dc:Dg (2^w) M2 99 (n+1):=λi hi=>by rw[g2 99 i (.inl (by decide))];exact h.dg i hi
 have hv:yX (2^w) M2 99 (n+1)=v:=by rw[<-h.val];exact zL _ λi hi=>g2 99 i (.inl (by decide))
 let⟨e1,e2,e3,e4,e5⟩:=zge hw M2 0 dc (by rw[g2 122 0 (.inl (by decide)),z1]);rw[zL (M':=M2) (c':=99) _ λi hi=>e1 i,e2,e3,e4,e5,hv,g3,g2 109 1 (.inr (by decide)),h.keep 109 1 (by decide) (by decide),m1];exact⟨rfl,rfl,rfl,rfl,rfl⟩
theorem zdI{W:Int}(hW:2<=W){n:Nat}{M0 M:Mem}{x:Int}(h:Shf W n M0 M x)(x0:0<=x)(x1:x<W^n):∀s:Nat,∃M' k',yE W (yg (.mark 0::twiceRows n) s) M 0=(M',k')/\0<=k'/\k'<=1/\Shf W n M0 M' (x*2^s%W^n)/\k'=if s=0 then 0 else 2*(x*2^(s-1)%W^n)/W^n
 |0=>⟨M,0,rfl,by lia,by lia,by rw[C4,CW,Aw x0 x1];exact h,rfl⟩
 |s+1=>by
  let⟨M1,k1,e1,a0,a1,h1,_⟩:=zdI hW h x0 x1 s;let⟨M2,k2,e2,b0,b1,h2,q⟩:=zjn hW (k:=k1) h1;refine⟨M2,k2,?_,b0,b1,?_,?_⟩
  .rw[yg,zx,e1];exact e2
  .have:2*(x*2^s%W^n)%W^n=x*2^(s+1)%W^n:=by
    rw[Ad,<-Ay,Ac _ 2,HH 2 (x*2^s%W^n),Int.emod_emod,<-HH]
   rw[<-this];exact h2
  .rw[if_neg (by lia),q];rfl
theorem zcR{H:Int}(hH:1<=H){n:Nat}{M0 M:Mem}{x:Int}(h:Shf (2*H) n M0 M x):∀s:Nat,∃M' k',yE (2*H) (yg (.mark 0::yu n) s) M 0=(M',k')/\0<=k'/\k'<=1/\Shf (2*H) n M0 M' (x/2^s)/\k'=if s=0 then 0 else x/2^(s-1)%2
 |0=>⟨M,0,rfl,by lia,by lia,by rw[C4,Dh];exact h,rfl⟩
 |s+1=>by
  let⟨M1,k1,e1,a0,a1,h1,_⟩:=zcR hH h s;let⟨M2,k2,e2,b0,b1,h2,q⟩:=zix hH (k:=k1) h1;refine⟨M2,k2,?_,b0,b1,?_,?_⟩
  .rw[yg,zx,e1];exact e2
  .have:x/2^s/2=x/2^(s+1):=by
    rw[Ad,Ax (DM (A7 (by lia)))]
   rw[<-this];exact h2
  .rw[if_neg (by lia),q];rfl
noncomputable def cx(l:Nat)(c i j m:Int):Op:=.cel ⟨l,c,i,j,m⟩
noncomputable def rS(nm:String)(ops:List Op):Rs:=⟨AF nm,ops⟩
def oZ:Op:=cx 122 0 0 0 0
def oS:Op:=cx 115 0 0 0 0
def oT:Op:=cx 116 0 0 0 0
def oM(i:Int):Op:=cx 109 i 0 0 0
def yb7(c m:Int):List T1:=[.row (rS "set" [oS,.fig 0]),.rounds c m 0 [.row (rS "any" [oS,oS,cx 99 0 1 0 0])],.row (rS "ask" [oS]),.row (rS "set" [oM 2,.fig 1]),.row (rS "less" [oM 2,oM 2,oZ]),.row (rS "twice" [oT,cx 99 (c-1) 0 0 m]),.row (rS "sum" [oM 3,oZ,oZ])]
def ya1:T1:=.rounds 0 1 0 [.row (rS "move" [cx 99 0 1 0 0,cx 97 0 1 0 0])]
def twiceT:T2:=.rounds 0 1 0 [rS "twice" [cx 99 0 0 1 0,cx 99 0 0 1 0]]
def ybi:T2:=.rounds 0 1 0 [rS "half" [cx 99 (-1) 0 (-1) 1,cx 99 (-1) 0 (-1) 1]]
def yaI:T2:=.row (rS "mark" [.fig 0])
def ycy:T2:=.row (rS "twice" [oT,cx 99 (-1) 0 0 1])
def ybj:T1:=.row (rS "sum" [oM 0,oZ,oZ])
def ycm(s:Int):List T1:=[ya1,.rounds s 0 0 [yaI,twiceT],ybj]++yb7 0 1
def ybE(s:Int):List T1:=[ya1,.rounds s 0 0 [yaI,ybi],ybj]++yb7 0 1
def ycd(s:Int):List T1:=[ya1,.rounds s 0 0 [ycy,ybi],ybj]++yb7 0 1
def ybQ(s:Int):List T1:=[ya1,.rounds s 0 0 [ycy,twiceT]]++yb7 0 1
theorem zb7{g:Nat->List PV}{f:Int->Rw}(h:∀I:Nat,g I=[yW (f I)]):∀n,upTo g n=(yF f n).map yW
 |0=>rfl
 |n+1=>by rw[upTo,yF,zb7 h n,h n,CH];rfl
theorem zf9{g:Nat->List PV}{b:List Rw}(h:∀I:Nat,g I=b.map yW):∀s,upTo g s=(yg b s).map yW
 |0=>rfl
 |s+1=>by rw[upTo,yg,zf9 h s,h s,CH]
theorem zel(w:Int)(n:Nat):cnt 0 1 0 w n=n:=by simp[cnt]
theorem zlA(w:Int)(n s:Nat):cnt s 0 0 w n=s:=by simp[cnt]
theorem znN(I:Nat)(n:Int):(rS "any" [oS,oS,cx 99 0 1 0 0]).pv I 0 n=yW (.any cS cS (99,I)):=by simp[Rs.pv,rS,Op.pv,oS,cx,Cx.at,yW,yM]
theorem zfV(w:Int)(n:Nat):yK w n (yb7 0 1)=(yw n).map yW:=by
 have h:=zb7 (g:=λI=>yaw w n I [.row (rS "any" [oS,oS,cx 99 0 1 0 0])]) (f:=λi=>.any cS cS (99,i)) (λI=>by simp[yaw,T2.rows,znN]) n;erw[yK,yb7,Br,Cn,T1.rows,zel,h,yw,CH,AL,Aa,BE];simp[Rs.pv,rS,Op.pv,oS,oT,oZ,oM,cx,Cx.at,yW,yM,Int.sub_eq_add_neg,Dl]
theorem zes(w:Int)(n:Nat):T1.rows w n ya1=(yG n).map yW:=by
 unfold ya1 yG;rw[T1.rows,zel];exact zb7 (λI=>by simp[yaw,T2.rows,Rs.pv,rS,Op.pv,cx,Cx.at,yW,yM]) n
theorem zga(w:Int)(n I:Nat):T2.rows w n I twiceT=(twiceRows n).map yW:=by
 unfold twiceT twiceRows;rw[T2.rows,zel];exact zb7 (λJ=>by simp[Rs.pv,rS,Op.pv,cx,Cx.at,yW,yM]) n
theorem ziq(w:Int)(n I:Nat):T2.rows w n I ybi=(yu n).map yW:=by
 unfold ybi yu;rw[T2.rows,zel];refine zb7 (λJ=>?_) n;have:(-1:Int)+0*(I:Int)+-1*(J:Int)+1*(n:Int)=(n:Int)-1-J:=by lia
 erw[AL,Aa,Rs.pv,rS,Op.pv,cx,Cx.at,yW,yM,this]
theorem zgY(w:Int)(n I:Nat):T2.rows w n I yaI=[yW (.mark 0)]:=by simp[yaI,T2.rows,Rs.pv,rS,Op.pv,yW]
theorem zkk(w:Int)(n I:Nat):T2.rows w n I ycy=[yW (yag n)]:=by
 have:(-1:Int)+0*(I:Int)+0*0+1*(n:Int)=(n:Int)-1:=by lia
 erw[ycy,yag,T2.rows,Rs.pv,rS,Op.pv,oT,cx,Cx.at,yW,yM,AL,Aa,this];simp
theorem zfn(w:Int)(n:Nat):T1.rows w n ybj=[yW (.sum (109,0) cZ cZ)]:=by simp[ybj,T1.rows,Rs.pv,rS,Op.pv,oM,oZ,cx,Cx.at,yW,yM]
theorem zb9(w n:Int)(a b:List T1):yK w n (a++b)=yK w n a++yK w n b:=by simp[yK]
theorem zgb(w n:Int)(a b:List T1):yaY w n (a++b)=yaY w n a+yaY w n b:=by simp[yaY]
theorem ziC(w:Int)(n:Nat):yaY w n (yb7 0 1)=n:=by simp[yaY,yb7,T1.rnd,zel,ybA,T2.rnd]
theorem zj3{w:Int}{n s:Nat}{p q:T2}{r1:Rw}{r2:List Rw}(h1:∀I:Nat,T2.rows w n I p=[yW r1])(h2:∀I:Nat,T2.rows w n I q=r2.map yW):T1.rows w n (.rounds s 0 0 [p,q])=(yg (r1::r2) s).map yW:=by
 rw[T1.rows,zlA];exact zf9 (λI=>by simp[yaw,h1,h2]) s
theorem zlw(w:Int)(n s:Nat):yK w n (ycm s)=(yaj s n).map yW:=by
 rw[ycm,zb9,zfV];erw[yK,Br,Cn,BE,zes,zfn,zj3 (zgY w n) (zga w n),yaj,CH,AL,Aa,Aq]
theorem zj5(w:Int)(n s:Nat):yK w n (ybE s)=(yS s n).map yW:=by
 rw[ybE,zb9,zfV];erw[yK,Br,Cn,BE,zes,zfn,zj3 (zgY w n) (ziq w n),yS,CH,AL,Aa,Aq]
theorem zlf(w:Int)(n s:Nat):yK w n (ycd s)=(yai s n).map yW:=by
 rw[ycd,zb9,zfV];erw[yK,Br,Cn,BE,zes,zfn,zj3 (zkk w n) (ziq w n),yai,CH,AL,Aa,Aq]
theorem zmx(w:Int)(n s:Nat):yK w n (ybQ s)=(yO s n).map yW:=by
 rw[ybQ,zb9,zfV];erw[yK,Br,Cn,BE,zes,zj3 (zkk w n) (zga w n),yO,CH,AL,Aa,Aq]
theorem zku(w:Int)(n s:Nat)(p q:T2)(hp:p=yaI \/ p=ycy)(hq:q=twiceT \/ q=ybi):T1.rnd w n (.rounds s 0 0 [p,q])=s*(1+n):=by
 rcases hp with rfl|rfl<;>rcases hq with rfl|rfl<;>simp[T1.rnd,zlA,ybA,T2.rnd,yaI,ycy,twiceT,ybi,zel]
theorem zfC(w:Int)(n s:Nat)(p q:T2)(hp:p=yaI \/ p=ycy)(hq:q=twiceT \/ q=ybi):yaY w n ([ya1,.rounds s 0 0 [p,q],ybj]++yb7 0 1)=n+s*(1+n)+n:=by
 rw[zgb,ziC];erw[yaY,AL,Aa,Gu,HI,zku w n s p q hp hq];simp[ya1,ybj,T1.rnd,zel,ybA,T2.rnd]
theorem zho(w:Int)(n s:Nat):yaY w n (ybQ s)=n+s*(1+n)+n:=by
 rw[ybQ,zgb,ziC];erw[yaY,AL,Aa,Gu,HI,zku w n s _ _ (.inr rfl) (.inl rfl)];simp[ya1,T1.rnd,zel,ybA,T2.rnd]
theorem zda(f:Int->Rw)(m:Nat):(yF f m).length=m:=by
 induction m with
 |zero=>rfl
 |succ m ih=>simp[yF,ih]
theorem zbV(b:List Rw):∀s,(yg b s).length=s*b.length
 |0=>by simp[yg]
 |s+1=>by rw[yg,Af,zbV b s,GA]
theorem zm0{n s:Nat}(hn:n<=4)(hs:s<=100)(r1:Rw)(r2:List Rw)(h2:r2.length=n):(yG n++yg (r1::r2) s++[Rw.sum (109,0) cZ cZ]++yw n).length<=4000/\(yG n++yg (r1::r2) s++yw n).length<=4000:=by
 have:s*(n+1)<=100*5:=BH hs (by lia);simp[yG,yw,zda,zbV,h2];lia
theorem zjB{K s X:Nat}(hs:0<s)(hX:X<2^K):2*(X*2^(s-1)%2^K)/2^K=if s<=K then X/2^(K-s)%2 else 0:=by
 split
 .rename_i h;obtain⟨a,rfl⟩:∃a,K=a+s:=⟨K-s,by lia⟩;obtain⟨t,rfl⟩:∃t,s=t+1:=⟨s-1,by lia⟩;rw[show a+(t+1)-(t+1)=a by lia,show t+1-1=t by lia];have e1:2^(a+(t+1))=2^t*(2^a*2):=by rw[<-GG,<-ET];congr 1;lia
  rw[e1,C5 X,Nat.mul_mod_mul_left,show 2*(2^t*(X%(2^a*2)))=2^t*(2*(X%(2^a*2)))by rw[EU],FL _ _ (G0 (by lia)),C5 (2^a) 2,FL _ _ (by lia),C5 2 (2^a),Nat.mod_mul_right_div_self]
 .rename_i h;obtain⟨a,rfl⟩:∃a,s=K+a+1:=⟨s-K-1,by lia⟩;have:X*2^(K+a+1-1)%2^K=0:=by
   rw[show K+a+1-1=K+a by lia,ET,EU];exact Nat.mul_mod_right _ _
  rw[this];simp
theorem zhO{w:Nat}(hw:1<w){n s X:Nat}(x1:X<2^(w*(n+1))):
  yX (2^w) (yE (2^w) (yaj s (n+1)) (yak (2^w) (n+1) X 0) 0).1 99 (n+1)=((X:Int)*2^s)%2^(w*(n+1)) /\
  (yE (2^w) (yaj s (n+1)) (yak (2^w) (n+1) X 0) 0).1 109 0=((if 0<s/\s<=w*(n+1)then X/2^(w*(n+1)-s)%2 else 0:Nat):Int) /\
  (yE (2^w) (yaj s (n+1)) (yak (2^w) (n+1) X 0) 0).1 109 1=0 /\
  (yE (2^w) (yaj s (n+1)) (yak (2^w) (n+1) X 0) 0).1 109 2=bi (((X:Int)*2^s)%2^(w*(n+1))==0) /\
  (yE (2^w) (yaj s (n+1)) (yak (2^w) (n+1) X 0) 0).1 109 3=bi (decide ((2:Int)^(w*(n+1))<=2*(((X:Int)*2^s)%2^(w*(n+1))))):=by
 have hp:(2:Int)^(w*(n+1))=(2^w:Int)^(n+1):=Ci;have hW4:(4:Int)<=2^w:=by
  have h:(2:Nat)^2<=2^w:=Ai (by lia) (by lia);have h2:=pw w;lia
 have x2:(X:Int)<(2^w:Int)^(n+1):=by rw[<-hp,<-pw];lia
 let⟨a1,a2⟩:=zcD (W:=2^w) (by lia) (n:=n+1) (x:=X) (y:=0) (by lia) x2;have e:yaj s (n+1)=yG (n+1)++(yg (.mark 0::twiceRows (n+1)) s++(.sum (109,0) cZ cZ::yw (n+1))):=by
  erw[yaj,Aq,Ab,As]
 let⟨M',k',e1,k0,k1,h1,q⟩:=zdI (W:=2^w) (by lia) a2 (by lia) x2 s;rw[e,zx,a1,zx,e1];have hse:=zcM hw h1 k0 k1 (zeo _ _ _ (by decide) (by decide) _) (zeo _ _ _ (by decide) (by decide) _);rw[<-hp]at hse q;have hq:k'=((if 0<s/\s<=w*(n+1)then X/2^(w*(n+1)-s)%2 else 0:Nat):Int):=by
  rw[q]
  by_cases hs:s=0
  .subst hs;simp
  .have ho:=zjB (K:=w*(n+1)) (s:=s) (by lia) x1;rw[if_neg hs];have hc:(2*((X:Int)*2^(s-1)%2^(w*(n+1)))/2^(w*(n+1)))=((2*(X*2^(s-1)%2^(w*(n+1)))/2^(w*(n+1)):Nat):Int):=by simp
   rw[hc,ho]
   by_cases h2:s<=w*(n+1)
   .rw[if_pos h2,if_pos ⟨by lia,h2⟩]
   .rw[if_neg h2,if_neg (by lia)]
 rw[<-hq];exact hse
theorem zdW{w:Nat}(hw:0<w):(2:Int)^w=2*2^(w-1):=by
 obtain⟨v,rfl⟩:∃v,w=v+1:=⟨w-1,by lia⟩;rw[show v+1-1=v by lia,Ad,Ac]
theorem zgu{w:Nat}(hw:1<w){n s:Nat}{x:Int}(x0:0<=x)(x1:x<(2^w:Int)^(n+1)):
  yX (2^w) (yE (2^w) (yS s (n+1)) (yak (2^w) (n+1) x 0) 0).1 99 (n+1)=x/2^s /\
  (yE (2^w) (yS s (n+1)) (yak (2^w) (n+1) x 0) 0).1 109 0=(if s=0 then 0 else x/2^(s-1)%2) /\
  (yE (2^w) (yS s (n+1)) (yak (2^w) (n+1) x 0) 0).1 109 1=0 /\
  (yE (2^w) (yS s (n+1)) (yak (2^w) (n+1) x 0) 0).1 109 2=bi (x/2^s==0) /\
  (yE (2^w) (yS s (n+1)) (yak (2^w) (n+1) x 0) 0).1 109 3=bi (decide ((2^w:Int)^(n+1)<=2*(x/2^s))):=by
 have hH:=zdW (w:=w) (by lia);have hH0:(0:Int)<2^(w-1):=A7 (by lia);have hH1:(1:Int)<=2^(w-1):=by lia
 have hW:(0:Int)<2^w:=A7 (by lia);let⟨a1,a2⟩:=zcD (W:=2^w) hW (n:=n+1) (x:=x) (y:=0) x0 x1;have e:yS s (n+1)=yG (n+1)++(yg (.mark 0::yu (n+1)) s++(.sum (109,0) cZ cZ::yw (n+1))):=by
  erw[yS,Aq,Ab,As]
 have hr:=zcR (H:=2^(w-1)) hH1 (n:=n+1) (M0:=yak (2^w) (n+1) x 0) (M:=(yE (2^w) (yG (n+1)) (yak (2^w) (n+1) x 0) 0).1) (x:=x);rw[<-hH]at hr;let⟨M',k',e1,k0,k1,h1,q⟩:=hr a2 s;rw[e,zx,a1,zx,e1];have hse:=zcM hw h1 k0 k1 (zeo _ _ _ (by decide) (by decide) _) (zeo _ _ _ (by decide) (by decide) _);rw[<-q];exact hse
theorem zi2{w:Nat}(hw:1<w){n:Nat}{M0 M:Mem}{k v:Int}(k0:0<=k)(k1:k<=1)(h:Shf (2^w) (n+1) M0 M v):
  ∃M' k' v',yE (2^w) (yag (n+1)::yu (n+1)) M k=(M',k')/\0<=k'/\k'<=1/\Shf (2^w) (n+1) M0 M' v'/\2*v'+k'=v+(if (2^w:Int)^(n+1)<=2*v then 1 else 0)*(2^w:Int)^(n+1):=by
 have hH:=zdW (w:=w) (by lia);have hH0:(0:Int)<2^(w-1):=A7 (by lia);have hH1:(1:Int)<=2^(w-1):=by lia
 have hc:=h.dg n (by lia);have ht:=zfG (by lia:0<w) h.dg;rw[h.val]at ht;have hm:(2*M 99 n+k)/2^w=tb w (M 99 n):=by
  unfold tb;rw[hH,<-Ax (by lia),<-Ax (by lia),show (2*M 99 n+k)/2=M 99 n by lia,show 2*M 99 n/2=M 99 n by lia]
 have hst:stepM (2^w) M k (yag (n+1))=(wr M cT ((2*M 99 n+k)%2^w),if (2^w:Int)^(n+1)<=2*v then 1 else 0):=by
  erw[yag,stepM,rd];rw[show ((n+1:Nat):Int)-1=n by lia,hm,ht]
 rw[zaw,hst];simp only;have g:∀d j,d≠116->wr M cT ((2*M 99 n+k)%2^w) d j=M d j:=λd j hd=>by
  erw[wr,upd];rw[if_neg (by lia)]
 generalize wr M cT ((2*M 99 n+k)%2^w)=M1 at *;have d1:Dg (2^w) M1 99 (n+1):=λi hi=>by rw[g 99 i (by decide)];exact h.dg i hi
 have v1:yX (2^w) M1 99 (n+1)=v:=by rw[<-h.val];exact zL _ λi hi=>g 99 i (by decide)
 have hl:=zc4 (H:=2^(w-1)) hH1 (n+1) M1 (if (2^w:Int)^(n+1)<=2*v then 1 else 0) (by split<;>lia) (by split<;>lia);rw[<-hH]at hl;let⟨h1,h2,h3,h4,h5⟩:=hl d1;rw[v1]at h5;exact⟨_,_,_,rfl,h3,h4,⟨h2,rfl,λd j hd ht=>by rw[h1 d j (.inl hd),g d j ht,h.keep d j hd ht]⟩,h5⟩
theorem zdC{w:Nat}(hw:1<w){n:Nat}{M0 M:Mem}{x:Int}(h:Shf (2^w) (n+1) M0 M x)(x0:0<=x)(x1:x<(2^w:Int)^(n+1)):∀s:Nat,∃M' k' v,yE (2^w) (yg (yag (n+1)::yu (n+1)) s) M 0=(M',k')/\0<=k'/\k'<=1/\Shf (2^w) (n+1) M0 M' v/\0<=v/\v<(2^w:Int)^(n+1)/\sgd ((2^w:Int)^(n+1)) v=sgd ((2^w:Int)^(n+1)) x/2^s/\k'=if s=0 then 0 else sgd ((2^w:Int)^(n+1)) x/2^(s-1)%2
 |0=>⟨M,0,x,rfl,by lia,by lia,h,x0,x1,by rw[C4,Dh],rfl⟩
 |s+1=>by
  let⟨M1,k1,v1,e1,a0,a1,h1,b0,b1,q1,_⟩:=zdC hw h x0 x1 s;let⟨M2,k2,v2,e2,c0,c1,h2,q2⟩:=zi2 hw a0 a1 h1;have hT:(2:Int)<=(2^w:Int)^(n+1):=by
   have hp:(2:Int)^(w*(n+1))=(2^w:Int)^(n+1):=Ci;rw[<-hp,<-pw];have:(2:Nat)^1<=2^(w*(n+1)):=Ai (by lia) (BO (by lia) (BH (by lia:1<=w) (by lia:1<=n+1)));lia
  have hS:2*sgd ((2^w:Int)^(n+1)) v2+k2=sgd ((2^w:Int)^(n+1)) v1/\0<=v2/\v2<(2^w:Int)^(n+1):=by
   generalize (2^w:Int)^(n+1)=T at *;unfold sgd
   by_cases z:T<=2*v1
   .rw[if_pos z,CZ]at q2;rw[if_pos z,if_pos (by lia)];lia
   .rw[if_neg z,GF]at q2;rw[if_neg z,if_neg (by lia)];lia
  have hd:sgd ((2^w:Int)^(n+1)) x/2^s/2=sgd ((2^w:Int)^(n+1)) x/2^(s+1):=by
   rw[show (2:Int)^(s+1)=2^s*2 from Ad ..,Ax (DM (A7 (by lia)))]
  refine⟨M2,k2,v2,?_,c0,c1,h2,hS.2.1,hS.2.2,?_,?_⟩
  .rw[yg,zx,e1];exact e2
  .rw[<-hd,<-q1];lia
  .rw[if_neg (by lia),show s+1-1=s by lia,<-q1];lia
theorem zil{w:Nat}(hw:1<w){n s:Nat}{x:Int}(x0:0<=x)(x1:x<(2^w:Int)^(n+1)):
  yX (2^w) (yE (2^w) (yai s (n+1)) (yak (2^w) (n+1) x 0) 0).1 99 (n+1)=sgd ((2^w:Int)^(n+1)) x/2^s%(2^w:Int)^(n+1) /\
  (yE (2^w) (yai s (n+1)) (yak (2^w) (n+1) x 0) 0).1 109 0=(if s=0 then 0 else sgd ((2^w:Int)^(n+1)) x/2^(s-1)%2) /\
  (yE (2^w) (yai s (n+1)) (yak (2^w) (n+1) x 0) 0).1 109 1=0 /\
  (yE (2^w) (yai s (n+1)) (yak (2^w) (n+1) x 0) 0).1 109 2=bi (sgd ((2^w:Int)^(n+1)) x/2^s%(2^w:Int)^(n+1)==0) /\
  (yE (2^w) (yai s (n+1)) (yak (2^w) (n+1) x 0) 0).1 109 3=bi (decide ((2^w:Int)^(n+1)<=2*(sgd ((2^w:Int)^(n+1)) x/2^s%(2^w:Int)^(n+1)))):=by
 have hW:(0:Int)<2^w:=A7 (by lia);let⟨a1,a2⟩:=zcD (W:=2^w) hW (n:=n+1) (x:=x) (y:=0) x0 x1;have e:yai s (n+1)=yG (n+1)++(yg (yag (n+1)::yu (n+1)) s++(.sum (109,0) cZ cZ::yw (n+1))):=by
  erw[yai,Aq,Ab,As]
 let⟨M',k',v,e1,k0,k1,h1,v0,v1,q1,q2⟩:=zdC hw a2 x0 x1 s;rw[e,zx,a1,zx,e1];have hse:=zcM hw h1 k0 k1 (zeo _ _ _ (by decide) (by decide) _) (zeo _ _ _ (by decide) (by decide) _);have hv:sgd ((2^w:Int)^(n+1)) x/2^s%(2^w:Int)^(n+1)=v:=by
  rw[<-q1];unfold sgd;split
  .rw[Int.sub_emod_right];exact Aw v0 v1
  .exact Aw v0 v1
 rw[<-q2,hv];exact hse
noncomputable def rol(K r X:Nat):Nat:=2^r*(X%2^(K-r))+X/2^(K-r)
theorem zf8{K r X:Nat}(hr:r<K)(hX:X<2^K):∃b,(b=0 \/ b=1)/\2*rol K r X+b=rol K (r+1) X+b*2^K/\rol K (r+1) X<2^K/\(b=1 ↔ 2^K<=2*rol K r X):=by
 obtain⟨m,hm⟩:∃m,K-r=m+1:=⟨K-r-1,by lia⟩;have hm2:K-(r+1)=m:=by lia
 unfold rol;rw[hm,hm2];have hP:0<2^m:=G0 (by lia);have e1:X%2^(m+1)=X%2^m+2^m*(X/2^m%2):=Nat.mod_pow_succ;have e2:X/2^(m+1)=X/2^m/2:=by rw[GG,Nat.div_div_eq_div_mul]
 have e3:2^K=2^(r+1)*2^m:=by rw[<-ET];congr 1;lia
 have e4:2^(r+1)=2*2^r:=by rw[GG,C5]
 have l1:X%2^m<2^m:=ED _ hP;have l2:X/2^m<2^(r+1):=by
  apply FM;rw[C5,<-e3];exact hX
 have hb:X/2^m%2=0 \/ X/2^m%2=1:=by lia
 have l3:2^(r+1)*(X%2^m)+X/2^m<2^K:=by
  rw[e3];have:2^(r+1)*(X%2^m)+2^(r+1)<=2^(r+1)*2^m:=by
   rw[<-Nat.mul_succ];exact Nat.mul_le_mul_left _ l1
  lia
 have key:2*(2^r*(X%2^(m+1))+X/2^(m+1))+X/2^m%2=2^(r+1)*(X%2^m)+X/2^m+X/2^m%2*2^K:=by
  rw[e1,e2,e3,e4];have h1:2^r*(X%2^m+2^m*(X/2^m%2))=2^r*(X%2^m)+X/2^m%2*(2^r*2^m):=by
   rw[G1,<-EY,C5 (2^r*2^m)]
  have h2:X/2^m%2*(2*2^r*2^m)=2*(X/2^m%2*(2^r*2^m)):=by
   rw[EY 2,EU]
  rw[h1,h2,EY 2];have h3:X/2^m=2*(X/2^m/2)+X/2^m%2:=by lia
  generalize X/2^m%2*(2^r*2^m)=A at *;generalize 2^r*(X%2^m)=B at *;generalize X/2^m=q at *;lia
 refine⟨X/2^m%2,hb,key,l3,?_⟩;have l4:X/2^m%2<=2^(r+1)*(X%2^m)+X/2^m:=BO (Nat.mod_le _ _) (Nat.le_add_left _ _);generalize 2^r*(X%2^(m+1))+X/2^(m+1)=V at *;generalize 2^(r+1)*(X%2^m)+X/2^m=V2 at *;generalize X/2^m%2=b at *;generalize 2^K=P at *;rcases hb with rfl|rfl
 .rw[Nat.zero_mul]at key;lia
 .rw[Nat.one_mul]at key;lia
theorem zd3{K X:Nat}(hX:X<2^K):rol K 0 X=X:=by
 unfold rol;rw[Fw,Co hX,Nat.div_eq_of_lt hX];simp
theorem zjr{K X:Nat}:rol K K X=X:=by
 unfold rol;rw[Nat.sub_self,Nat.pow_zero,Nat.mod_one,Nat.div_one];simp
theorem zkG{K X:Nat}(hX:X<2^K):∀r,r<=K->rol K r X<2^K
 |0,_=>by rw[zd3 hX];exact hX
 |r+1,h=>by
  let⟨b,_,_,l,_⟩:=zf8 (K:=K) (r:=r) (by lia) hX;exact l
theorem zmu{K s X:Nat}(hK:0<K)(hX:X<2^K):∃b,(b=0 \/ b=1)/\2*rol K (s%K) X+b=rol K ((s+1)%K) X+b*2^K/\(b=1 ↔ 2^K<=2*rol K (s%K) X):=by
 have hs:=ED s hK;let⟨b,h1,h2,h3,h4⟩:=zf8 hs hX;refine⟨b,h1,?_,h4⟩
 by_cases e:s%K+1=K
 .have:(s+1)%K=0:=by
   by_cases k1:K=1
   .subst k1;lia
   .rw[HS,Co (show 1<K by lia),e,Nat.mod_self]
  rw[this,zd3 hX];rw[e,zjr]at h2;exact h2
 .have:(s+1)%K=s%K+1:=by
   rw[HS,Co (show 1<K by lia),Co (show s%K+1<K by lia)]
  rw[this];exact h2
theorem zjZ{w:Nat}(hw:1<w){n:Nat}{M0 M:Mem}{k v:Int}(k0:0<=k)(k1:k<=1)(h:Shf (2^w) (n+1) M0 M v):
  ∃M' k' v',yE (2^w) (yag (n+1)::twiceRows (n+1)) M k=(M',k')/\0<=k'/\k'<=1/\Shf (2^w) (n+1) M0 M' v'/\0<=v'/\v' < (2^w:Int)^(n+1)/\v'+k' * (2^w:Int)^(n+1)=2*v+(if (2^w:Int)^(n+1)<=2*v then 1 else 0):=by
 have hH:=zdW (w:=w) (by lia);have hH0:(0:Int)<2^(w-1):=A7 (by lia);have hW4:(4:Int)<=2^w:=by
  have h:(2:Nat)^2<=2^w:=Ai (by lia) (by lia);have h2:=pw w;lia
 have ht:=zfG (by lia:0<w) h.dg;rw[h.val]at ht;have hm:(2*M 99 n+k)/2^w=tb w (M 99 n):=by
  unfold tb;rw[hH,<-Ax (by lia),<-Ax (by lia),show (2*M 99 n+k)/2=M 99 n by lia,show 2*M 99 n/2=M 99 n by lia]
 have hst:stepM (2^w) M k (yag (n+1))=(wr M cT ((2*M 99 n+k)%2^w),if (2^w:Int)^(n+1)<=2*v then 1 else 0):=by
  erw[yag,stepM,rd];rw[show ((n+1:Nat):Int)-1=n by lia,hm,ht]
 rw[zaw,hst];simp only;have g:∀d j,d≠116->wr M cT ((2*M 99 n+k)%2^w) d j=M d j:=λd j hd=>by
  erw[wr,upd];rw[if_neg (by lia)]
 generalize wr M cT ((2*M 99 n+k)%2^w)=M1 at *;have d1:Dg (2^w) M1 99 (n+1):=λi hi=>by rw[g 99 i (by decide)];exact h.dg i hi
 have v1:yX (2^w) M1 99 (n+1)=v:=by rw[<-h.val];exact zL _ λi hi=>g 99 i (by decide)
 let⟨h1,h2,h3,h4,h5⟩:=zce (W:=2^w) (by lia) M1 (if (2^w:Int)^(n+1)<=2*v then 1 else 0) (by split<;>lia) (by split<;>lia) (n+1) d1;rw[v1]at h5;let⟨r0,r1⟩:=zbP (by lia) (n+1) h2;exact⟨_,_,_,rfl,h3,h4,⟨h2,rfl,λd j hd ht=>by rw[h1 d j (.inl hd),g d j ht,h.keep d j hd ht]⟩,r0,r1,h5⟩
theorem zdE{w:Nat}(hw:1<w){n:Nat}{M0 M:Mem}{X:Nat}(h:Shf (2^w) (n+1) M0 M X)(x1:X<2^(w*(n+1))):∀s:Nat,∃M' k',yE (2^w) (yg (yag (n+1)::twiceRows (n+1)) s) M 0=(M',k')/\0<=k'/\k'<=1/\Shf (2^w) (n+1) M0 M' (rol (w*(n+1)) (s%(w*(n+1))) X:Nat)
 |0=>⟨M,0,rfl,by lia,by lia,by rw[Nat.zero_mod,zd3 x1];exact h⟩
 |s+1=>by
  let⟨M1,k1,e1,a0,a1,h1⟩:=zdE hw h x1 s;let⟨M2,k2,v2,e2,c0,c1,h2,r0,r1,q2⟩:=zjZ hw a0 a1 h1;have hK:0<w*(n+1):=HU (by lia) (by lia);let⟨b,b1,b2,b3⟩:=zmu (s:=s) hK x1;have hp:(2:Int)^(w*(n+1))=(2^w:Int)^(n+1):=Ci;have hl:=zkG x1 ((s+1)%(w*(n+1))) (Eg (ED _ hK));refine⟨M2,k2,?_,c0,c1,?_⟩
  .rw[yg,zx,e1];exact e2
  .have:v2=(rol (w*(n+1)) ((s+1)%(w*(n+1))) X:Nat):=by
    rw[<-hp,<-pw]at q2 r1;generalize rol (w*(n+1)) (s%(w*(n+1))) X=A at *;generalize rol (w*(n+1)) ((s+1)%(w*(n+1))) X=B at *;generalize 2^(w*(n+1))=P at *;rcases (by lia:k2=0 \/ k2=1)with rfl|rfl<;>rcases b1 with rfl|rfl<;>split at q2<;>lia
   rw[<-this];exact h2
theorem zie{w:Nat}(hw:1<w){n s X:Nat}(x1:X<2^(w*(n+1))):
  yX (2^w) (yE (2^w) (yO s (n+1)) (yak (2^w) (n+1) X 0) 0).1 99 (n+1)=(rol (w*(n+1)) (s%(w*(n+1))) X:Nat) /\
  (yE (2^w) (yO s (n+1)) (yak (2^w) (n+1) X 0) 0).1 109 0=0 /\
  (yE (2^w) (yO s (n+1)) (yak (2^w) (n+1) X 0) 0).1 109 1=0 /\
  (yE (2^w) (yO s (n+1)) (yak (2^w) (n+1) X 0) 0).1 109 2=bi (((rol (w*(n+1)) (s%(w*(n+1))) X:Nat):Int)==0) /\
  (yE (2^w) (yO s (n+1)) (yak (2^w) (n+1) X 0) 0).1 109 3=bi (decide ((2^w:Int)^(n+1)<=2*((rol (w*(n+1)) (s%(w*(n+1))) X:Nat):Int))):=by
 have hW:(0:Int)<2^w:=A7 (by lia);have hp:(2:Int)^(w*(n+1))=(2^w:Int)^(n+1):=Ci;have x2:(X:Int)<(2^w:Int)^(n+1):=by rw[<-hp,<-pw];lia
 let⟨a1,a2⟩:=zcD (W:=2^w) hW (n:=n+1) (x:=X) (y:=0) (by lia) x2;have e:yO s (n+1)=yG (n+1)++(yg (yag (n+1)::twiceRows (n+1)) s++yw (n+1)):=by
  erw[yO,Aq]
 let⟨M',k',e1,k0,k1,h1⟩:=zdE hw a2 x1 s;rw[e,zx,a1,zx,e1];have z1:M' 122 0=0:=by rw[h1.keep 122 0 (by decide) (by decide)];exact zeo _ _ _ (by decide) (by decide) _
 have z2:M' 109 0=0:=by rw[h1.keep 109 0 (by decide) (by decide)];exact zeo _ _ _ (by decide) (by decide) _
 have z3:M' 109 1=0:=by rw[h1.keep 109 1 (by decide) (by decide)];exact zeo _ _ _ (by decide) (by decide) _
 let⟨f1,f2,f3,f4,f5⟩:=zge hw M' k' h1.dg z1;rw[zL (M':=M') (c':=99) _ λi hi=>f1 i,f2,f3,f4,f5,h1.val,z2,z3];exact⟨rfl,rfl,rfl,rfl,rfl⟩
def ybl(top:Bool)(n:Nat):Rw:=if top=AB then yag n else .mark 0
def ybN(up:Bool)(n:Nat):List Rw:=if up=AB then twiceRows n else yu n
def shR(up top:Bool)(s n:Nat):List Rw:=yG n++yg (ybl top n::ybN up n) s++(if (up&&top)=AB then []else [.sum (109,0) cZ cZ])++yw n
noncomputable def nmS:Bool->Bool->AQ
 |true,AC=>AF "left"
 |false,AC=>AF "right"
 |false,AB=>AF "down"
 |true,AB=>AF "roll"
def ycF:Bool->Bool->Int->List T1
 |true,AC=>ycm
 |false,AC=>ybE
 |false,AB=>ycd
 |true,AB=>ybQ
def yaD(up top:Bool)(s:Int):PV:=.tp AC [.str (nmS up top),.int s]
def ydX(up top:Bool)(s:Nat):Bool:=match yc T 18 zb4 [yaD up top s] []with
 |.ok (.tp b vs) []=>decide (yaP vs=AA (ycF up top s))&&nLs vs&&isOk (yc T 16 zS [.tp b vs] []) (.bl AB)&&isOk (yc T 20 ze0 [yaD up top s] []) (.bl AB)
 |_=>AC
theorem zkV:([AC,AB].all λu=>[AC,AB].all λt=>(CL 101).all (ydX u t))=true:=by decide +kernel
theorem zmQ(w:Int)(n s:Nat)(up top:Bool):yK w n (ycF up top s)=(shR up top s n).map yW:=by
 cases up<;>cases top
 .exact zj5 w n s
 .exact zlf w n s
 .exact zlw w n s
 .rw[ycF,zmx];simp[yO,shR,ybl,ybN]
theorem zpg(w:Int)(n s:Nat)(up top:Bool):yaY w n (ycF up top s)=n+s*(1+n)+n:=by
 cases up<;>cases top
 .exact zfC w n s _ _ (.inl rfl) (.inr rfl)
 .exact zfC w n s _ _ (.inr rfl) (.inr rfl)
 .exact zfC w n s _ _ (.inl rfl) (.inl rfl)
 .exact zho w n s
theorem zpA(w:Int)(n s:Nat)(up top:Bool):ak1 w n (ycF up top s)<=(n+2)*(s+3)+10:=by
 cases up<;>cases top<;>simp[ak1,ycF,ycm,ybE,ycd,ybQ,ya1,ybj,yb7,T1.ak,T2.ak,ak2,zel,zlA,yaI,ycy,twiceT,ybi,G1,Nat.add_mul]<;>rw[C5 s n]<;>lia
theorem zbj{f:Int->Rw}{r:Rw}:∀{n:Nat},r∈yF f n->∃i:Nat,i<n/\r=f i
 |0,h=>by simp[yF]at h
 |n+1,h=>by
  rw[yF,Bb]at h;rcases h with h|h
  .let⟨i,hi,e⟩:=zbj h;exact⟨i,by lia,e⟩
  .simp at h;exact⟨n,by lia,h⟩
theorem zfb{b:List Rw}{r:Rw}:∀{s:Nat},r∈yg b s->r∈b
 |0,h=>by simp[yg]at h
 |s+1,h=>by
  rw[yg,Bb]at h;rcases h with h|h
  .exact zfb h
  .exact h
theorem zoN{n s:Nat}(hn:1<=n)(hn2:n<=8)(up top:Bool):∀r∈shR up top s n,ycf r:=by
 intro r hr;erw[shR,Bb]at hr;rcases hr with ((hr|hr)|hr)|hr
 .let⟨i,hi,rfl⟩:=zbj hr;erw[ycf,yap];lia
 .rcases A3.1 (zfb hr)with rfl|hr
  .cases top<;>erw[ybl,yag,cT,BA,if_true,if_false,ycf,yap]<;>lia
  .cases up
   all_goals
    let⟨i,hi,rfl⟩:=zbj hr;erw[ycf,yap];lia
 .split at hr
  .cases hr
  .simp at hr;subst hr;simp[ycf,yap,cZ]
 .simp only[yw,Bb,A3,BQ,or_false]at hr;rcases hr with (rfl|hr)|rfl|rfl|rfl|rfl|rfl
  case inl.inr=>let⟨i,hi,rfl⟩:=zbj hr;erw[ycf,yap];lia
  all_goals erw[ycf,yap];lia
theorem znO:∀r,ycf r->rwD r
 |.mark _,h=>h
 |.set _ _,h=>h.2
 |.ask _,_ | .move _ _,_ | .bare _ _,_ | .twice _ _,_ | .half _ _,_ | .sum _ _ _,_ | .less _ _ _,_ | .both _ _ _,_ | .any _ _ _,_ | .odd _ _ _,_=>trivial
theorem ziy{n s:Nat}(hn:n<=4)(hs:s<=100)(up top:Bool):(shR up top s n).length<=4000:=by
 have h2:(ybN up n).length=n:=by cases up<;>simp[ybN,twiceRows,yu,zda]
 have h:=zm0 hn hs (ybl top n) (ybN up n) h2;unfold shR;split
 .rw[BE];exact h.2
 .exact h.1
theorem ycx(up top:Bool){s w n:Nat}(hs:s<=100)(hw:w<=16)(hn:1<=n)(hn2:n<=4):yeT False (yaD up top s) w n n (shR up top s n):=by
 have hc:ydX up top s=true:=by
  have h:=BP.1 zkV up (by cases up<;>simp);have h:=BP.1 h top (by cases top<;>simp);exact BP.1 h s (by simp;lia)
 unfold ydX at hc;split at hc
 .rename_i b vs e0;erw[AK,decide_eq_true_eq]at hc;let⟨⟨⟨c1,c2⟩,c3⟩,c4⟩:=hc;have nl:nL (yaD up top s)=true:=rfl;have nl1:nLs [yaD up top s]=true:=rfl;have ok:=zoN (s:=s) hn (by lia:n<=8) up top;have pv:=zmQ (w:Int) n s up top;have rw':∀x∈yK w n (ycF up top s),ybu x:=λx hx=>by
   rw[pv,Fz]at hx;let⟨r,hr,rfl⟩:=hx;exact zgp r (ok r hr)
  have ht:∀st,yc T (1+18) zb4 [yaD up top s] st=.ok (.tp b vs) st:=λst=>by
   have:=zal e0 1;rw[show 18+1=18+0+1 by lia]at this;exact zbF (f:=zb4) (fn:=zdd) rfl rfl rfl nl1 this st
  have hit:∀st,yc T (1+16) zS [.tp b vs] st=.ok (.bl AB) st:=λst=>by
   have:=zal (zep c3) 1;exact zbF (f:=zS) (fn:=za3) rfl rfl rfl (by simp[nLs,nL,c2]) this st
  have hm:s*(1+n)<=100*5:=BH hs (by lia);have hm2:(n+2)*(s+3)<=6*103:=BH (by lia) (by lia);have rows:=zhr 1 (w:=w) (n:=n) nl ht c2 c1 (by lia) (by lia) (by lia) (by lia) (by rw[pv,BD];exact ziy hn2 hs up top) (by rw[zpg];lia) (by have:=zpA w n s up top;lia) rw' hit [];rw[pv]at rows;have i0:∀st,idxV st (yaD up top s) (.int 0)=AA (.str (nmS up top)):=λ_=>rfl;have q1:yD .eq (.str (nmS up top)) (.str "compare")=AA (.bl AC):=by cases up<;>cases top<;>ac_rfl
  have q2:yD .eq (.str (nmS up top)) (.str "led")=AA (.bl AC):=by cases up<;>cases top<;>ac_rfl
  have q3:yD .isin (.str (nmS up top)) zas=AA (.bl AC):=by cases up<;>cases top<;>ac_rfl
  have q4:yD .isin (.str (nmS up top)) zcn=AA (.bl AC):=by cases up<;>cases top<;>ac_rfl
  have hT1:T zR=AA zE:=rfl;have hT2:T zaa=AA zV:=rfl;have nl2:nLs [yaD up top s,.int n]=true:=rfl;refine⟨nl,zep c4,Bc,λst=>by rw[i0,Bg,q3],rows,λr hr=>?_,?_,?_⟩
  .have hv:nL (yW r)=true:=by cases r<;>rfl
   exact zmr hv (zgp r (ok r hr)) 9 []
  .rw[show (20:Nat)=19+1 from rfl,zc hT1 rfl rfl nl2];generalize yaD up top s=d at *;simp! [zE,i0,q1,q2,q4];rfl
  .rw[show (20:Nat)=19+1 from rfl,zc hT2 rfl rfl nl2];generalize yaD up top s=d at *;simp! [zV,i0,q3,IC.ve9];rfl
 .cases hc
def wS(up top:Bool)(K s:Nat)(x:Int):Int:=match up,top with
 |true,AC=>x*2^s
 |false,AC=>x/2^s
 |false,AB=>sgd (2^K) x/2^s
 |true,AB=>x*2^(s%K)+x/2^(K-s%K)
def uS(up top:Bool)(K s:Nat)(x:Int):Int:=match up,top with
 |true,AC=>if 0<s/\s<=K then x/2^(K-s)%2 else 0
 |false,AC=>if s=0 then 0 else x/2^(s-1)%2
 |false,AB=>if s=0 then 0 else sgd (2^K) x/2^(s-1)%2
 |true,AB=>0
noncomputable abbrev dv(ws:List Int)(a b c d:Int):PV:=.tp AC [.tp AC (ws.map .int),.tp AC [],.tp AC [.int a,.int b,.int c,.int d]]
def yaF(up top:Bool)(w n s:Nat)(x:Int):PV:=dv (yj (2^w) n (wS up top (w*n) s x%2^(w*n))) (uS up top (w*n) s x) 0 (bi (wS up top (w*n) s x%2^(w*n)==0)) (bi (decide ((2:Int)^(w*n)<=2*(wS up top (w*n) s x%2^(w*n)))))
theorem zna{K p X:Nat}(hp:p<K)(hX:X<2^K):((X:Int)*2^p+X/2^(K-p))%2^K=(rol K p X:Nat):=by
 have h1:=Nat.mod_add_div X (2^(K-p));have h2:(2:Nat)^K=2^p*2^(K-p):=by rw[<-ET,show p+(K-p)=K by lia]
 have h3:=zkG hX p (by lia);have e:X*2^p+X/2^(K-p)=rol K p X+2^K*(X/2^(K-p)):=by
  unfold rol;have:X*2^p=2^p*(X%2^(K-p))+2^K*(X/2^(K-p)):=by
   rw[h2,EY,<-G1,h1,C5]
  lia
 have e2:(X:Int)*2^p+X/2^(K-p)=((X*2^p+X/2^(K-p):Nat):Int):=by simp
 have e3:(2:Int)^K=((2^K:Nat):Int):=by simp
 rw[e2,e3,<-Cm,e,Nat.add_mul_mod_self_left,Co h3]
theorem yeD(up top:Bool){w n s:Nat}(hw:1<w){x:Int}(x0:0<=x)(x1:x<2^(w*(n+1))):
  yX (2^w) (yE (2^w) (shR up top s (n+1)) (yak (2^w) (n+1) x 0) 0).1 99 (n+1)=wS up top (w*(n+1)) s x%2^(w*(n+1)) /\
  (yE (2^w) (shR up top s (n+1)) (yak (2^w) (n+1) x 0) 0).1 109 0=uS up top (w*(n+1)) s x /\
  (yE (2^w) (shR up top s (n+1)) (yak (2^w) (n+1) x 0) 0).1 109 1=0 /\
  (yE (2^w) (shR up top s (n+1)) (yak (2^w) (n+1) x 0) 0).1 109 2=bi (wS up top (w*(n+1)) s x%2^(w*(n+1))==0) /\
  (yE (2^w) (shR up top s (n+1)) (yak (2^w) (n+1) x 0) 0).1 109 3=bi (decide ((2:Int)^(w*(n+1))<=2*(wS up top (w*(n+1)) s x%2^(w*(n+1))))):=by
 have hp:(2:Int)^(w*(n+1))=(2^w:Int)^(n+1):=Ci;have x2:x<(2^w:Int)^(n+1):=by rw[<-hp];exact x1
 have hK:0<w*(n+1):=HU (by lia) (by lia);let⟨X,hX⟩:=zbz x0;have X1:X<2^(w*(n+1)):=by have:=pw (w*(n+1));lia
 cases up<;>cases top
 .have h:=zgu (w:=w) hw (n:=n) (s:=s) x0 x2;have hm:x/2^s%2^(w*(n+1))=x/2^s:=Aw (C7 x0 (DM (A7 (by decide)))) (Fe (Int.ediv_le_self _ x0) x1);have g:wS AC AC (w*(n+1)) s x%2^(w*(n+1))=x/2^s:=hm;rw[<-hp]at h;rw[g];exact h
 .have h:=zil (w:=w) hw (n:=n) (s:=s) x0 x2;rw[<-hp]at h;exact h
 .have h:=zhO (w:=w) hw (n:=n) (s:=s) X1;rw[<-hX]at h;have ho:((if 0<s/\s<=w*(n+1)then X/2^(w*(n+1)-s)%2 else 0:Nat):Int)=if 0<s/\s<=w*(n+1)then x/2^(w*(n+1)-s)%2 else 0:=by
   split
   .rw[hX];simp
   .rfl
  rw[ho]at h;exact h
 .have h:=zie (w:=w) hw (n:=n) (s:=s) X1;have e:=zna (p:=s%(w*(n+1))) (ED _ hK) X1;rw[<-hX]at h e;rw[<-e,<-hp]at h;rw[show shR AB AB s (n+1)=yO s (n+1)by simp[yO,shR,ybl,ybN]];exact h
theorem ygL(k:Nat)(up top:Bool){w n s:Nat}(hs:s<=100)(hw:4<=w)(hw2:w<=16)(h1:1<=n)(h2:n<=4){x:Int}(x0:0<=x)(x1:x<2^(w*n))(st:SO):
  yc T (22+k) zjH [yaD up top s,.int w,.int n,.int x,.int 0] st=.ok (yaF up top w n s x) st:=by
 obtain⟨n,rfl⟩:∃m,n=m+1:=⟨n-1,by lia⟩;have D:=ycx up top hs hw2 h1 h2;have hW:(0:Int)<2^w:=A7 (by lia);have rd:=λr hr=>znO r (zoN (s:=s) h1 (by lia:n+1<=8) up top r hr);have bg:=zlD hW (n+1) x 0;have q:=ran k D hw2 (by lia) h2 (by lia) (by have:=ziy h2 hs up top;lia) x0 x1 (HV 0) (A7 (by decide)) (λh=>absurd rfl h) (zfW (by lia) _ _ _ rd bg (by lia) (by lia)) st;have R:=zhz (w:=w) (by lia) (shR up top s (n+1)) (yak (2^w) (n+1) x 0) 0 rd bg (by lia) (by lia);let⟨m1,m2,m3,m4,m5⟩:=yeD up top (w:=w) (n:=n) (s:=s) (by lia) x0 x1;have hm:∀M:Mem,(getM M 109 0 4).map PV.int=[.int (M 109 0),.int (M 109 1),.int (M 109 2),.int (M 109 3)]:=λ_=>rfl;rw[q,hm,zl8 hW R 99 (n+1) m1,m2,m3,m4,m5];rfl
theorem zeM{i:Int}{j:Nat}:yq .shr (.int i) (.int (j:Int))=AA (.int (i/2^j)):=by
 erw[yq,binI];rw[if_pos (by lia)];simp
theorem zlK{i:Int}{j:Nat}(h:i.natAbs<18446744073709551616)(hj:j<=1000):yq .shl (.int i) (.int (j:Int))=AA (.int (i*2^j)):=by
 have hc:(0:Int)<=j/\(j:Int)<=1000000/\i.natAbs<18446744073709551616:=⟨by lia,by lia,h⟩;show (if (0:Int)<=j/\(j:Int)<=1000000/\i.natAbs<18446744073709551616 then AA (PV.int (i*2^(j:Int).toNat))else AD)=_;rw[if_pos hc];rfl
theorem znV(k:Nat){x a b u v r:Int}(hs:a-1=b)(q1:yq .shr (.int x) (.int b)=AA (.int u))(q2:yq .shl (.int u) (.int a)=AA (.int v))(q3:x-v=r)(st:SO):yc T (k+1) zaB [.int x,.int a] st=.ok (.int r) st:=by
 have hT:T zaB=AA z6:=rfl;rw[zc hT rfl rfl rfl];simp! [z6,hs,q1,q2,q3];rfl
theorem zex(k:Nat){K:Nat}(hK:1<=K)(hK2:K<=64){x:Int}(x0:0<=x)(x1:x<2^K)(st:SO):yc T (k+1) zaB [.int x,.int K] st=.ok (.int (sgd (2^K) x)) st:=by
 obtain⟨j,rfl⟩:∃j,K=j+1:=⟨K-1,by lia⟩;have p:(0:Int)<2^j:=A7 (by lia);have e:(2:Int)^(j+1)=2*2^j:=by rw[Ad,Ac]
 have hd:x/2^j=if 2*2^j<=2*x then 1 else 0:=by
  rw[e]at x1;split
  .have h1:1<=x/2^j:=DQ p (by lia);have h2:x/2^j<2:=B6 p (by lia);lia
  .exact BS x0 (by lia)
 refine znV k (b:=(j:Int)) (by lia) zeM (zlK (by rw[hd];split<;>lia) (by lia)) ?_ st;rw[hd,e];unfold sgd;split
 .rw[CZ]
 .lia
theorem zeI{W:Int}(hW:0<W):∀(n:Nat) (v:Int),yj W n (v%W^n)=yj W n v
 |0,v=>rfl
 |n+1,v=>by
  have hp:0<W^n:=A7 hW;have e1:v%W^(n+1)%W=v%W:=Int.emod_emod_of_dvd v ⟨W^n,by rw[Ad,Ac]⟩;have e2:v%W^(n+1)/W=v/W%W^n:=by
   have h1:=B7 v W;have h2:=B7 (v/W) (W^n);have r0:=BF v (show W≠0 by lia);have r1:=An v hW;have s0:=BF (v/W) (show W^n≠0 by lia);have s1:=An (v/W) hp;have e:v=v%W+W*(v/W%W^n)+W^(n+1)*(v/W/W^n):=by
    have:W^(n+1)*(v/W/W^n)=W*(W^n*(v/W/W^n)):=by rw[Ad,Ac (W^n) W,Ay]
    rw[this];have h3:W*(v/W)=W*(v/W%W^n)+W*(W^n*(v/W/W^n)):=by rw[<-HR,h2]
    lia
   have hb:v%W+W*(v/W%W^n)<W^(n+1):=by
    have:=Int.mul_le_mul_of_nonneg_left (show v/W%W^n<=W^n-1 by lia) (show 0<=W by lia);rw[HQ,CW]at this;rw[Ad,Ac (W^n) W];lia
   have hb0:0<=W*(v/W%W^n):=Ch (by lia) s0;have q:v%W^(n+1)=v%W+W*(v/W%W^n):=by
    rw[e,Cg];rw[<-e];exact Aw (by lia) hb
   rw[q,Int.add_mul_ediv_left _ _ (by lia),BS r0 r1,GE]
  rw[yj,yj,e1,e2,zeI hW n]
theorem zff{W:Int}(hW:0<W):∀(n:Nat) (v:Int),0<=v->v<W^n->(yj W n v).any (· != 0)=!(v==0)
 |0,v,h0,h1=>by
  have:v=0:=by rw[C4]at h1;lia
  subst this;rfl
 |n+1,v,h0,h1=>by
  have h2:=C7 h0 (show 0<=W by lia);have h3:v/W<W^n:=B6 hW (by rw[Ad]at h1;exact h1);have h4:=B7 v W;rw[yj,BN,zff hW n _ h2 h3]
  by_cases q:v=0
  .subst q;simp
  .rw[beq_eq_false_iff_ne.2 q]
   by_cases a:v%W=0
   .have b:v/W≠0:=λz=>q (by rw[a,z]at h4;lia);rw[beq_eq_false_iff_ne.2 b,Bool.not_false,HG]
   .rw[bne_iff_ne.2 a,Eo];rfl
theorem zdF{W:Int}(hW:0<W):∀(n:Nat) (v:Int),(yj W (n+1) v)[n]?=AA (v/W^n%W)
 |0,v=>by simp[yj]
 |n+1,v=>by
  rw[yj,AM,zdF hW n,Ax (by lia),Ad,Ac W]
theorem ziR(ws:List Int):anyI (ws.map .int)=AA (ws.any (· != 0)):=by
 induction ws with
 |nil=>rfl
 |cons a ws ih=>rw[AL,anyI,ih];rfl
theorem zkd(k:Nat){ws:List Int}{w b l r:Int}(hs:w-1=b)(hi:∀st,idxV st (.tp AC (ws.map .int)) (.int (-1))=AA (.int l))(q:yq .shr (.int l) (.int b)=AA (.int r))(st:SO):yc T (k+1) za0 [.tp AC (ws.map .int),.int w] st=.ok (.int r) st:=by
 have hT:T za0=AA zcb:=rfl;rw[zc hT rfl rfl (by simp[nLs,nL,noLocs_ints])];generalize PV.tp AC (ws.map .int)=v at *;simp! [zcb,hi,hs,q];rfl
theorem zgT(k:Nat){w n:Nat}(hw:1<=w){v:Int}(v0:0<=v)(v1:v<(2^w:Int)^(n+1))(st:SO):yc T (k+1) za0 [.tp AC ((yj (2^w) (n+1) v).map .int),.int w] st=.ok (.int (bi (decide ((2^w:Int)^(n+1)<=2*v)))) st:=by
 obtain⟨j,rfl⟩:∃j,w=j+1:=⟨w-1,by lia⟩;have hW:(0:Int)<2^(j+1):=A7 (by lia);have hp:(0:Int)<(2^(j+1):Int)^n:=A7 hW;have hj:(0:Int)<2^j:=A7 (by lia);have e:(2:Int)^(j+1)=2^j*2:=Ad 2 j;have hl:=zdF hW n v;have hd1:v/(2^(j+1):Int)^n<2^(j+1):=B6 hp (by rw[Ad,Ac]at v1;exact v1);have hdA:=C7 v0 (DM hp);rw[Aw hdA hd1]at hl;have hi:∀st,idxV st (.tp AC ((yj (2^(j+1)) (n+1) v).map .int)) (.int (-1))=AA (.int (v/(2^(j+1):Int)^n)):=λst=>by
  have hlen:=zY (2^(j+1)) (n+1) v;erw[idxV,ya5,at?,ixI,BD,hlen];rw[if_neg (by lia),if_pos (by lia)];rw[show ((-1:Int)+((n+1:Nat):Int)).toNat=n by lia];simp[hl]
 refine zkd k (b:=(j:Int)) (by lia) hi ?_ st;rw[zeM]
 congr 2
 have P:(2^(j+1):Int)^(n+1)=(2^(j+1):Int)^n*2^j*2:=by rw[Ad,Ay,<-e]
 rw[Ax (DM hp)];have hq:0<(2^(j+1):Int)^n*2^j:=Int.mul_pos hp hj;rw[P]at v1 ⊢;generalize (2^(j+1):Int)^n*2^j=H at *
 by_cases h:H*2<=2*v
 .have h1:1<=v/H:=DQ hq (by lia);have h2:v/H<2:=B6 hq (by lia);rw[decide_eq_true h];show _=(1:Int);lia
 .rw[decide_eq_false h];exact BS v0 (by lia)
theorem zlg(k:Nat){d:PV}(hd:nL d=AB){s:AQ}{w n x y a b c t r z:Int}{ws:List Int}{g:Bool}(i0:∀st,idxV st d (.int 0)=AA (.str s))(c0:yD .eq (.str s) (.str "compare")=AA (.bl AC))(E0:∀st,yc T k zaH [d,.int w,.int n,.int x,.int y] st=.ok .non st)(E1:∀st,yc T k zco [d,.int w,.int n,.int x,.int y] st=.ok (.tp AC [.int a,.int b,.int c]) st)
  (E2:∀st,yc T k zR [d,.int n] st=.ok (.int n) st) (E3:∀st,yc T k zp [.int a,.int w,.int n] st=.ok (.tp AC (ws.map .int)) st) (m1:yq .mul (.int y) (.int a)=AA (.int t)) (E4:∀st,yc T k zaa [d,.int n] st=.ok (.int 0) st) (E5:∀st,yc T k zp [.int (x-t),.int w,.int 0] st=.ok (.tp AC []) st)
  (E6:∀st,yar .any st [.tp AC (ws.map .int)]=AA (.bl g)) (hz:(bif g then(0:Int)else 1)=z) (E7:∀st,yc T k za0 [.tp AC (ws.map .int),.int w] st=.ok (.int r) st) (st:SO):
  yc T (k+1) zd1 [d,.int w,.int n,.int x,.int y] st=.ok (dv ws b c z r) st:=by
 have hT:T zd1=AA ⟨5,10,AB,ybb.body⟩:=rfl;have bt:∀(a b c:PV) (ρ:IC.Env),yJ (.t [5,6,7]) (.tp AC [a,b,c]) ρ=AA (((ρ.set 5 (AA a)).set 6 (AA b)).set 7 (AA c)):=λ_ _ _ _=>rfl;rw[zc hT rfl rfl (by simp[nLs,nL,hd])];dsimp only;have nl:nL (.tp AC (ws.map .int))=true:=by simp[nL,noLocs_ints]
 unfold dv;generalize PV.tp AC (ws.map .int)=A at *
 cases g<;>subst hz<;>simp! [ybb,E0,i0,c0,E1,bt,E2,E3,m1,E4,E5,E6,E7]<;>simp[ybq,nL,nLs,nl]
theorem bA1(i:Int):Al i 1=i%2:=by
 have h1:decide ((0:Int)<=1)=true:=rfl
 by_cases h:0<=i
 .simp only[Al,decide_eq_true h,h1];rw[show (1:Int).toNat=1 from rfl,Nat.and_one_is_mod];lia
 .simp only[Al,decide_eq_false h,h1,EC];rw[show (1:Int).toNat=1 from rfl,Nat.one_and_eq_mod_two];lia
theorem zm6(k:Nat){x s K a b:Int}(q1:yq .shl (.int x) (.int s)=AA (.int a))(q2:yq .shr (.int a) (.int K)=AA (.int b))(st:SO):yc T (k+1) za4 [.int x,.int s,.int K] st=.ok (.tp AC [.int a,.int (b%2),.int 0]) st:=by
 have hT:T za4=AA zaz:=rfl;rw[zc hT rfl rfl rfl];simp! [zaz,q1,q2,zlG,bA1];rfl
theorem zkC(k:Nat){x s K a b:Int}(q1:yq .shr (.int x) (.int s)=AA (.int a))(q2:yq .shr (.int (2*x)) (.int s)=AA (.int b))(st:SO):yc T (k+1) zaI [.int x,.int s,.int K] st=.ok (.tp AC [.int a,.int (b%2),.int 0]) st:=by
 have hT:T zaI=AA zam:=rfl;rw[zc hT rfl rfl rfl];simp! [zam,q1,q2,zlG,bA1];rfl
theorem zod(k:Nat){x s K p d a b c:Int}(q1:yq .mod (.int s) (.int K)=AA (.int p))(hd:K-p=d)(q2:yq .shl (.int x) (.int p)=AA (.int a))(q3:yq .shr (.int x) (.int d)=AA (.int b))(q4:yq .bor (.int a) (.int b)=AA (.int c))(st:SO):yc T (k+1) zek [.int x,.int s,.int K] st=.ok (.tp AC [.int c,.int 0,.int 0]) st:=by
 have hT:T zek=AA zcC:=rfl;rw[zc hT rfl rfl rfl];simp! [zcC,q1,hd,q2,q3,q4];rfl
theorem ydH(x:Int)(s:Nat):2*x/2^s%2=if s=0 then 0 else x/2^(s-1)%2:=by
 cases s with
 |zero=>rw[if_pos rfl,C4,Dh];lia
 |succ s=>rw[if_neg (by lia),show s+1-1=s from rfl,Ad,Ac 2 x,Da _ _ (by decide:(0:Int)<2)]
theorem yeM(k:Nat)(up top:Bool){w n s:Nat}(hs:s<=100)(hw:4<=w)(hw2:w<=16)(h1:1<=n)(h2:n<=4){x:Int}(x0:0<=x)(x1:x<2^(w*n)):∃f,mkV zbl AB (.str (nmS up top))=AA f/\∀st,yc T (k+2) f [.int x,.int s,.int ((w*n:Nat):Int)] st=.ok (.tp AC [.int (wS up top (w*n) s x),.int (uS up top (w*n) s x),.int 0]) st:=by
 have hK:1<=w*n:=by have:=BH hw h1;lia
 have hK2:w*n<=64:=BH hw2 h2;have hx64:x.natAbs<18446744073709551616:=by
  have a:(2:Nat)^(w*n)<=2^64:=Ai (by decide) hK2;have b:=pw (w*n);lia
 have q1:yq .shr (.int x) (.int (s:Int))=AA (.int (x/2^s)):=zeM
 cases up<;>cases top
 .refine⟨zaI,by ac_rfl,λst=>?_⟩;have h:=zkC (k+1) (K:=((w*n:Nat):Int)) q1 zeM st;rw[ydH]at h;exact h
 .refine⟨zcp,by ac_rfl,λst=>?_⟩;have e1:=λst=>zex k hK hK2 x0 x1 st;have h:=λst=>zkC k (K:=((w*n:Nat):Int)) (x:=sgd (2^(w*n)) x) (s:=s) zeM zeM st;rw[ydH]at h;have hT:T zcp=AA zay:=rfl;rw[show k+2=k+1+1 by lia,zc hT rfl rfl rfl];erw[wS,uS];generalize ((w*n:Nat):Int)=K at *;generalize sgd (2^(w*n)) x=u at *;generalize u/2^s=v at *;generalize (if s=0 then 0 else u/2^(s-1)%2)=r at *;simp! [zay,e1,h];rfl
 .refine⟨za4,by ac_rfl,λst=>?_⟩;have h:=zm6 (k+1) (zlK (i:=x) (j:=s) hx64 (by lia)) (zeM (j:=w*n)) st;have e:x*2^s/2^(w*n)%2=if 0<s/\s<=w*n then x/2^(w*n-s)%2 else 0:=by
   by_cases hs2:s<=w*n
   .have hp:(2:Int)^(w*n)=2^(w*n-s)*2^s:=by rw[<-HW,show w*n-s+s=w*n by lia]
    rw[hp,Da _ _ (A7 (by decide))]
    by_cases h0:s=0
    .subst h0;rw[if_neg (by lia),Fw,BS x0 x1];rfl
    .rw[if_pos ⟨by lia,hs2⟩]
   .have hp:(2:Int)^s=2^(s-w*n-1)*2*2^(w*n):=by rw[<-Ad,<-HW,show s-w*n-1+1+w*n=s by lia]
    rw[if_neg (by lia),hp,<-Ay,Int.mul_ediv_cancel _ (Int.ne_of_gt (A7 (by decide))),<-Ay];exact Int.mul_emod_left _ _
  rw[e]at h;exact h
 .refine⟨zek,by ac_rfl,λst=>?_⟩;have hp:s%(w*n)<w*n:=ED _ (by lia);have q0:yq .mod (.int (s:Int)) (.int ((w*n:Nat):Int))=AA (.int ((s%(w*n):Nat):Int)):=by
   rw[Cm];exact zfE (by lia)
  have h:=zod (k+1) (d:=((w*n-s%(w*n):Nat):Int)) q0 (by lia) (zlK (i:=x) hx64 (by lia)) zeM yd9 st;have e:B0 (x*2^(s%(w*n))) (x/2^(w*n-s%(w*n)))=x*2^(s%(w*n))+x/2^(w*n-s%(w*n)):=by
   let⟨X,rfl⟩:=zbz x0;have X1:X<2^(w*n):=by have:=pw (w*n);lia
   have hb:X/2^(w*n-s%(w*n))<2^(s%(w*n)):=FM (by rw[<-ET,show w*n-s%(w*n)+s%(w*n)=w*n by lia];exact X1);have e1:(X:Int)*2^(s%(w*n))=((2^(s%(w*n))*X:Nat):Int):=by simp[Ac]
   have e2:(X:Int)/2^(w*n-s%(w*n))=((X/2^(w*n-s%(w*n)):Nat):Int):=by simp
   rw[e1,e2,zdD,<-Dm hb];simp
  rw[e]at h;exact h
theorem ycJ(k:Nat){nm:AQ}{S w n x K:Int}{f:Nat}{v:PV}(hv:nL v=AB)(c1:yD .eq (.str nm) (.str "led")=AA (.bl AC))(c2:yD .isin (.str nm) zbM=AA (.bl AB))(hm:mkV zbl AB (.str nm)=AA f)(m1:yq .mul (.int w) (.int n)=AA (.int K))(E:∀st,yc T k f [.int x,.int S,.int K] st=.ok v st)(st:SO):
  yc T (k+1) zco [.tp AC [.str nm,.int S],.int w,.int n,.int x,.int 0] st=.ok v st:=by
 have hT:T zco=AA ⟨5,6,AB,yaz.body⟩:=rfl;have i0:∀st,idxV st (.tp AC [.str nm,.int S]) (.int 0)=AA (.str nm):=λ_=>ix0;have i1:∀st,idxV st (.tp AC [.str nm,.int S]) (.int 1)=AA (.int S):=λ_=>rfl;have hl:decide (5<6)=true:=rfl;rw[zc hT rfl rfl rfl];dsimp only;generalize PV.tp AC [.str nm,.int S]=d at *;simp! [yaz,i0,i1,c1,c2,znT,hl,hm,yek,m1,E];simp[ybq,hv]
theorem ydb(k:Nat)(up top:Bool){w n s:Nat}(hs:s<=100)(hw:4<=w)(hw2:w<=16)(h1:1<=n)(h2:n<=4){x:Int}(x0:0<=x)(x1:x<2^(w*n))(st:SO):
  yc T (22+k) zd1 [yaD up top s,.int w,.int n,.int x,.int 0] st=.ok (yaF up top w n s x) st:=by
 have D:=ycx up top hs hw2 h1 h2;have hW:(0:Int)<2^w:=A7 (by lia);have hP0:(0:Int)<2^(w*n):=A7 (by decide);have hp:(2:Int)^(w*n)=(2^w:Int)^n:=Ci;have E0:=λs=>zdm k D hw2 (by lia) x0 x1 (HV 0) hP0 (λh=>absurd rfl h) s;let⟨f,hf,ef⟩:=yeM (18+k) up top hs hw hw2 h1 h2 x0 x1;have E1:=λs=>ycJ (20+k) (w:=(w:Int)) (n:=(n:Int)) rfl (by cases up<;>cases top<;>ac_rfl) (by cases up<;>cases top<;>ac_rfl) hf (zf7 w n (by lia)) (λs=>by rw[show 20+k=18+k+2 by lia];exact ef s) s;rw[show 20+k+1=21+k by lia]at E1;have up':∀{f:Nat} {fn:IC.Fn} {args:List PV} {v:PV},T f=AA fn->fn.pure=AB->args.length=fn.np->nLs args=AB->yc T 20 f args []=.ok v []->∀s,yc T (21+k) f args s=.ok v s:=λ{f fn args v} a b c d e s=>by
  have:=zal e (1+k);rw[show 20+(1+k)=20+k+1 by lia]at this;rw[show 21+k=20+k+1 by lia];exact zbF a b c d this s
 have nl2:nLs [yaD up top s,.int (n:Int)]=true:=rfl;have E2:=up' (f:=zR) (fn:=zE) rfl rfl rfl nl2 D.ans;have E4:=up' (f:=zaa) (fn:=zV) rfl rfl rfl nl2 D.rest;have E3:∀t,yc T (21+k) zp [.int (wS up top (w*n) s x),.int w,.int (n:Int)] t=.ok (.tp AC ((yj (2^w) n (wS up top (w*n) s x%2^(w*n))).map .int)) t:=λt=>by
  rw[hp,zeI hW,show 21+k=20+k+1 by lia];exact lowest (20+k) _ w n hw2 (by lia) t
 have r2:=BF (wS up top (w*n) s x) (show (2:Int)^(w*n)≠0 by lia);have r3:=An (wS up top (w*n) s x) hP0;have E5:∀t,yc T (21+k) zp [.int (x-0),.int w,.int 0] t=.ok (.tp AC []) t:=λt=>by
  rw[show 21+k=20+k+1 by lia];exact lowest (20+k) _ w 0 hw2 (by lia) t
 have m1:yq .mul (.int 0) (.int (wS up top (w*n) s x))=AA (.int 0):=by rw[zaA (by decide),GF]
 have E6:∀t,yar .any t [.tp AC ((yj (2^w) n (wS up top (w*n) s x%2^(w*n))).map .int)]=AA (.bl (!(wS up top (w*n) s x%2^(w*n)==0))):=λt=>by
  show (anyI _).map PV.bl=_;rw[ziR,zff hW _ _ r2 (by rw[<-hp];exact r3)];rfl
 have E7:∀t,yc T (21+k) za0 [.tp AC ((yj (2^w) n (wS up top (w*n) s x%2^(w*n))).map .int),.int w] t=.ok (.int (bi (decide ((2:Int)^(w*n)<=2*(wS up top (w*n) s x%2^(w*n)))))) t:=λt=>by
  obtain⟨m,rfl⟩:∃m,n=m+1:=⟨n-1,by lia⟩;rw[hp]at r3 ⊢;rw[hp]at r2;rw[show 21+k=20+k+1 by lia];exact zgT (20+k) (w:=w) (n:=m) (by lia) r2 r3 t
 have c0:yD .eq (.str (nmS up top)) (.str "compare")=AA (.bl AC):=by cases up<;>cases top<;>ac_rfl
 rw[show 22+k=21+k+1 by lia];exact zlg (21+k) (d:=yaD up top s) rfl (s:=nmS up top) (λ_=>ix0) c0 E0 E1 E2 E3 m1 E4 E5 E6 (by cases (wS up top (w*n) s x%2^(w*n)==0)<;>rfl) E7 st
theorem zdz{call:Cl}{W:Int}(hW:0<W)(hW2:W<18446744073709551616){p1 p2:Option PV}:∀(n:Nat) (a x:Int) (acc:List PV) (u:Option PV),acc.length+n<1000000 ->
  ∃x' u',yaU call (.n 5) (.cons (.expr (.mth .append (.var 4) (.cons (.bin .mod (.var 0) (.var 3)) .nil))) (.cons (.asg (.n 0) (.bin .fdiv (.var 0) (.var 3))) .nil)) (yp n a 1) [AA (.int x),p1,p2,AA (.int W),AA (.loc 0),u] [.lst acc]=.nx [AA (.int x'),p1,p2,AA (.int W),AA (.loc 0),u'] [.lst (acc++(yj W n x).map .int)]
 |0,a,x,acc,u,_=>⟨x,u,by rw[yp,zw];simp[yj]⟩
 |n+1,a,x,acc,u,h=>by
  let⟨x',u',e⟩:=zdz (call:=call) hW hW2 (p1:=p1) (p2:=p2) n (a+1) (x/W) (acc++[.int (x%W)]) (AA (.int a)) (by simp;lia);refine⟨x',u',?_⟩;have hW3:W<18446744073709551616*18446744073709551616:=by lia
  have hl:acc.length<1000000:=by lia
  rw[yp,zk (ρ1:=[AA (.int x),p1,p2,AA (.int W),AA (.loc 0),AA (.int a)]) rfl];have hm:yaL .append [Ob.lst acc] (.loc 0)=AA true:=rfl;have hap:ycg .append [Ob.lst acc] (.loc 0) [.int (x%W)]=.ok .non [.lst (acc++[.int (x%W)])]:=by
   simp[ycg,ydM,hl]
  erw[xs_cons,xs_nil,x_asg,x_expr,IC.ve20,IC.ve2,IC.ve3,evs,AN,AM,bd_ok,fl_ok,hm,ono,zfE hW,zg0 hW hW3,toR_some,hap,bT_n,nxO_some,th_nx,A5,A6,yaq];rw[e];simp[yj]
theorem words(k:Nat)(x:Int)(w n:Nat)(hw:w<=16)(hn:n<1000)(st:SO):yc T (k+2) zee [.int x,.int w,.int n] st=.ok (.tup ((yj (2^w) n x).map .int)) st:=by
 have hW:(0:Int)<2^w:=A7 (by lia);have hW2:(2:Int)^w<18446744073709551616:=by
  have h:(2:Nat)^w<=2^16:=Ai (by lia) hw;have h2:((2^w:Nat):Int)=2^w:=by simp
  lia
 let⟨x',u',e⟩:=zdz (call:=yc T (k+1)) hW hW2 (p1:=AA (.int w)) (p2:=AA (.int n)) n 0 x [] AD (by simp;lia);have ht:=zdK k w (by lia) [];have hT:T zee=AA zcE:=rfl;rw[yc,hT];erw[zcE,AS,Ar,BW,Bj,if_true,nLs,nL,Cv,AL,Aa,Ba,Ae,Ab,As,xs_cons,xs_nil,x_asg,x_for,x_ret,IC.ve18,IC.ve2,IC.ve13,IC.ve19,evs,evi,AN,AM,bd_ok,fl_ok,ht,bT_n,nxO_some,th_nx,A5,A6,zbp n hn,toL,DA,sizeMax,e];simp[yar,yeH,yad,toR,fl_ok,nL,noLocs_ints,R.fl,yax]
theorem signed(k:Nat)(x:Int)(K:Nat)(hK:K<1000)(st:SO):yc T (k+2) zdb [.int x,.int K] st=.ok (.int (if 2^K<=2*x then x-2^K else x)) st:=by
 have ht:=zdK k K hK [];have hT:T zdb=AA zb3:=rfl;rw[yc,hT];erw[zb3,AS,Ar,BW,Bj,if_true,nLs,nL,Cv,AL,Aa,Ba,Ae,Ab,As,xs_cons,xs_nil,x_asg,x_ite,x_ret,IC.ve18,IC.ve1,IC.ve2,IC.ve3,IC.ve8,evs,AN,AM,bd_ok,fl_ok,ht,b_sub,b_mul2,toR_some,bT_n,nxO_some,th_nx,th_rt,A5,A6,c_ge,t_bl,on_t]
 by_cases h:2^K<=2*x<;>simp[h,R.fl,yax,nL]
theorem ends(k:Nat)(v:Int)(K:Nat)(hK:K<1000)(st:SO):yc T (k+2) zfD [.int v,.int K] st=.ok (.tup [.int (bi (v==0)),.int (bi (decide (2^K<=2*v)))]) st:=by
 have ht:=zdK k K hK [];have hT:T zfD=AA zd9:=rfl;rw[yc,hT];erw[zd9,AS,Ar,BW,Bj,if_true,nLs,nL,Cv,AL,Aa,Ba,Ae,Ab,BE,As,xs_cons,xs_nil,x_asg,x_ret,IC.ve18,IC.ve1,IC.ve2,IC.ve3,IC.ve8,IC.ve11,IC.ve19,evs,AN,AM,bd_ok,fl_ok,ht,b_sub,b_mul2,toR_some,c_eq,c_ge,zlu,zop];simp[R.fl,yax,nL,nLs,sizeMax]
theorem ze4:∀l:List Int,allB (l.map λ_=>PV.bl AB)=AA AB
 |[]=>rfl
 |a::l=>by rw[AL,allB,ze4 l];rfl
theorem ziU(l:List Int)(st:SO):yar .all st [.lst (l.map λ_=>PV.bl AB)]=AA (.bl AB):=by
 show (allB _).map PV.bl=_;rw[ze4];rfl
theorem ycu(k:Nat)(v:Int)(st:SO):yc T (k+1) zbL [.int v] st=.ok (.bl AB) st:=by
 have hT:T zbL=AA zcx:=rfl;have e1:yaK (.int v) [.int]=AA (.bl AB):=rfl;have e2:yaK (.int v) [.bool]=AA (.bl AC):=rfl;rw[zc hT rfl rfl rfl];simp! [zcx,e1,e2];rfl
theorem zcL{call:Cl}{ρ0:IC.Env}{t:Tg}{c e:Ce}{st:SO}:∀l:List Int,(∀x∈l,ybh call ρ0 t c e (.int x) st=.ok (AA (.bl AB)) st)->yal call ρ0 t c e (l.map .int) st=.ok (l.map λ_=>.bl AB) st
 |[],_=>za1
 |a::l,h=>by
  rw[AL,zZ,h a (by simp),bd_ok,zcL l (λx hx=>h x (by simp[hx])),bd_ok];rfl
theorem ycM(k:Nat){ws:List Int}{w:Nat}(hw:w<=16)(hl:ws.length<=1000)(hr:∀v∈ws,0<=v/\v<2^w)(st:SO):yc T (k+2) zeF [.tp AC (ws.map .int),.int w,.int (ws.length:Int)] st=.ok (.bl AB) st:=by
 have hT:T zeF=AA zbN:=rfl;have e1:yaK (.tp AC (ws.map .int)) [.tuple]=AA (.bl AB):=rfl;have e2:∀st,yar .len st [.tp AC (ws.map .int)]=AA (.int (ws.length:Int)):=λst=>by
  show AA (PV.int (((ws.map PV.int).length:Nat):Int))=_;simp
 have q1:yal (yc T (k+1)) [AD] (.n 0) (.cst (.bl AB)) (.call zbL (.cons (.var 0) .nil)) (ws.map .int) []=.ok (ws.map λ_=>.bl AB) []:=zcL ws λx _=>by
  have e:=ycu k x [];simp! [ybh,e]
 have q2:yal (yc T (k+1)) [AD,AA (.int w)] (.n 0) (.cst (.bl AB)) (.chain .le .lt (.cst (.int 0)) (.var 0) (.call zI (.cons (.var 1) .nil))) (ws.map .int) []=.ok (ws.map λ_=>.bl AB) []:=zcL ws λx hx=>by
  have e:=zdK k w (by lia) [];have c1:decide (0<=x)=true:=decide_eq_true (hr x hx).1;have c2:decide (x<2^w)=true:=decide_eq_true (hr x hx).2;simp! [ybh,e,c1,c2,blO]
 have lr:=zcl (ws.map λ_=>PV.bl AB) (by simp;lia);have ta:=ziU ws;rw[zc hT rfl rfl (by simp[nLs,nL,noLocs_ints])];simp! [zbN,e1,e2,beq_self_eq_true,q1,lr,ta,q2];rfl
theorem ycQ(k:Nat){a b c d:Int}(ha:-1<=a/\a<=1)(hb:-1<=b/\b<=1)(hc:-1<=c/\c<=1)(hd:-1<=d/\d<=1)(st:SO):yc T (k+2) zeG [.tp AC [.int a,.int b,.int c,.int d],.int 4,.int 1] st=.ok (.bl AB) st:=by
 have hT:T zeG=AA zbJ:=rfl;have e1:yaK (.tp AC [.int a,.int b,.int c,.int d]) [.tuple]=AA (.bl AB):=rfl;have e2:∀st,yar .len st [.tp AC [.int a,.int b,.int c,.int d]]=AA (.int 4):=λ_=>rfl;have q:yal (yc T (k+1)) [AD,AA (.int 1)] (.n 0) (.cst (.bl AB)) (.and (.call zbL (.cons (.var 0) .nil)) (.chain .le .le (.bin .sub (.cst (.int 0)) (.var 1)) (.var 0) (.var 1))) ([a,b,c,d].map .int) []=.ok ([a,b,c,d].map λ_=>.bl AB) []:=zcL [a,b,c,d] λx hx=>by
  have e:=ycu k x [];have hx:-1<=x/\x<=1:=by
   erw[A3,BQ,or_false]at hx;rcases hx with rfl|rfl|rfl|rfl<;>assumption
  have c1:decide ((0:Int)-1<=x)=true:=decide_eq_true (by lia);have c2:decide (x<=1)=true:=decide_eq_true hx.2;simp! [ybh,e,c1,c2,blO]
 have q:yal (yc T (k+1)) [AD,AA (.int 1)] (.n 0) (.cst (.bl AB)) (.and (.call zbL (.cons (.var 0) .nil)) (.chain .le .le (.bin .sub (.cst (.int 0)) (.var 1)) (.var 0) (.var 1))) [.int a,.int b,.int c,.int d] []=.ok [.bl AB,.bl AB,.bl AB,.bl AB] []:=q;have lr:∀st,yci (.ok [PV.bl AB,.bl AB,.bl AB,.bl AB] st)=.ok (.lst [.bl AB,.bl AB,.bl AB,.bl AB]) st:=λst=>zcl _ (by simp) st;have ta:∀st,yar .all st [.lst [.bl AB,.bl AB,.bl AB,.bl AB]]=AA (.bl AB):=λ_=>rfl;have b4:((4:Int)==4)=true:=rfl;rw[zc hT rfl rfl rfl];simp! [zbJ,e1,e2,b4,q,lr,ta];rfl
noncomputable def anB:Css:=match yac.body with
 |.cons _ (.cons (.for _ _ b) _)=>b
 |x=>x
theorem ycI(k:Nat){ws:List Int}{w:Nat}{a b c d:Int}(hw:w<=16)(hl:ws.length<=1000)(hr:∀v∈ws,0<=v/\v<2^w)(ha:-1<=a/\a<=1)(hb:-1<=b/\b<=1)(hc:-1<=c/\c<=1)(hd:-1<=d/\d<=1)(st:SO):yc T (k+3) zcQ [dv ws a b c d,.int w] st=.ok (.bl AB) st:=by
 have hT:T zcQ=AA ⟨2,3,AB,yac.body⟩:=rfl;have e1:yaK (dv ws a b c d) [.tuple]=AA (.bl AB):=rfl;have e2:∀st,yar .len st [dv ws a b c d]=AA (.int 3):=λ_=>rfl;have b3:((3:Int)==3)=true:=rfl;have o0:yb2 .non=AA none:=rfl;have e3:ycs (dv ws a b c d) AD (.int 2)=AA (.tp AC [.tp AC (ws.map .int),.tp AC []]):=rfl;have e4:∀st,idxV st (dv ws a b c d) (.int 2)=AA (.tp AC [.int a,.int b,.int c,.int d]):=λ_=>rfl;have e5:=λs=>ycQ k ha hb hc hd s;have one:∀(us:List Int),us.length<=1000->(∀v∈us,0<=v/\v<2^w)->∀(p0:Option PV) (st:SO),exs (yc T (k+2)) [p0,AA (.int w),AA (.tp AC (us.map .int))] st anB=.nx [p0,AA (.int w),AA (.tp AC (us.map .int))] st:=λus h1 h2 p0 st=>by
  have n1:=λs=>ycM k hw h1 h2 s;have i1:yaK (.tp AC (us.map .int)) [.tuple]=AA (.bl AB):=rfl;have i2:∀st,yar .len st [.tp AC (us.map .int)]=AA (.int (us.length:Int)):=λst=>by
   show AA (PV.int (((us.map PV.int).length:Nat):Int))=_;simp
  generalize PV.tp AC (us.map .int)=U at *;simp! [anB,yac,i1,i2,n1]
 have ag:∀(ρ:IC.Env) (s:SO) (k:IC.Env->SO->Fl),yaq (.nx ρ s) k=k ρ s:=λ_ _ _=>rfl;have lp:∀p0:Option PV,yaU (yc T (k+2)) (.n 2) anB [.tp AC (ws.map .int),.tp AC []] [p0,AA (.int w),AD] []=.nx [p0,AA (.int w),AA (.tp AC [])] []:=λp0=>by
  rw[zk (ρ1:=[p0,AA (.int w),AA (.tp AC (ws.map .int))]) rfl,one ws hl hr,ag,zk (ρ1:=[p0,AA (.int w),AA (.tp AC [])]) rfl];have:=one [] (by simp) (by simp) p0 [];rw[Aa]at this;rw[this,ag,zw]
 have hbd:yac.body=(match yac.body with
  |.cons a (.cons (.for t i _) r)=>.cons a (.cons (.for t i anB) r)
  |x=>x):=rfl
 rw[zc hT rfl rfl (by simp[nLs,nL,noLocs_ints])];dsimp only;rw[hbd];generalize dv ws a b c d=V at *;simp! [yac,e1,e2,b3,o0,onP,e3,lp,e4,e5];rfl
theorem ye2(b:Bool):-1<=bi b/\bi b<=1:=by cases b<;>decide
theorem ye3{j:Nat}(h:j<=100):(0:Int)<2^j/\(2:Int)^j<18446744073709551616*18446744073709551616:=by
 have a:(2:Nat)^j<=2^100:=Ai (by decide) h;have b:=pw j;have c:(0:Nat)<2^j:=G0 (by decide);lia
theorem zlB(k:Nat){nm:AQ}{s K x d q p t v:Int}{b1 b2:Bool}(c0:yD .eq (.str nm) (.str "left")=AA (.bl AB))(h1:decide (0<s)=b1)(h2:decide (s<=K)=b2)(hd:K-s=d)(E1:(b1&&b2)=AB->∀st,yc T k zI [.int d] st=.ok (.int p) st)(q1:yq .fdiv (.int x) (.int p)=AA (.int q))(E2:∀st,yc T k zI [.int s] st=.ok (.int t) st)(q2:yq .mul (.int x) (.int t)=AA (.int v))(q3:yq .mod (.int q) (.int 2)=AA (.int (q%2)))(st:SO):
  yc T (k+1) zW [.str nm,.int s,.int K,.int x] st=.ok (.tp AC [.int v,.int (if (b1&&b2)=AB then q%2 else 0)]) st:=by
 have hT:T zW=AA yr:=rfl;rw[zc hT rfl rfl rfl]
 cases b1
 .simp! [yr,c0,h1,blO,E2,q2,Gc,BA,if_false];rfl
 .cases b2
  .simp! [yr,c0,h1,h2,blO,E2,q2,Bool.and_false,BA,if_false];rfl
  .have E1:=E1 rfl;simp! [yr,c0,h1,h2,blO,hd,E1,q1,q3,E2,q2];rfl
theorem zml(k:Nat){s K x p d a b t v:Int}{nm:AQ}(c0:yD .eq (.str nm) (.str "left")=AA (.bl AC))(c1:yD .eq (.str nm) (.str "roll")=AA (.bl AB))(q0:yq .mod (.int s) (.int K)=AA (.int p))(hd:K-p=d)(E1:∀st,yc T k zI [.int p] st=.ok (.int a) st)(E2:∀st,yc T k zI [.int d] st=.ok (.int b) st)(q1:yq .mul (.int x) (.int a)=AA (.int t))(q2:yq .fdiv (.int x) (.int b)=AA (.int v))(st:SO):
  yc T (k+1) zW [.str nm,.int s,.int K,.int x] st=.ok (.tp AC [.int (t+v),.int 0]) st:=by
 have hT:T zW=AA yr:=rfl;rw[zc hT rfl rfl rfl];simp! [yr,c0,c1,q0,hd,E1,E2,q1,q2];rfl
noncomputable def gT:Css:=match yr.body with
 |.cons _ (.cons _ (.cons _ t))=>t
 |x=>x
theorem zlr{call:Cl}{nm:AQ}{s K x d p q t v:Int}{b1:Bool}(h1:decide (0<s)=b1)(hd:s-1=d)(E1:b1=AB->∀st,call zI [.int d] st=.ok (.int p) st)(q1:yq .fdiv (.int x) (.int p)=AA (.int q))(q3:yq .mod (.int q) (.int 2)=AA (.int (q%2)))(E2:∀st,call zI [.int s] st=.ok (.int t) st)(q2:yq .fdiv (.int x) (.int t)=AA (.int v))(st:SO):
  exs call [AA (.str nm),AA (.int s),AA (.int K),AA (.int x),AD,AD] st gT=.rt (.tp AC [.int v,.int (if b1=AB then q%2 else 0)]) st:=by
 cases b1
 .simp! [gT,yr,h1,E2,q2,BA,if_false]
 .have E1:=E1 rfl;simp! [gT,yr,h1,hd,E1,q1,q3,E2,q2]
theorem gone(k:Nat)(up top:Bool){s K:Nat}(hs:s<=100)(hK:1<=K)(hK2:K<=64){x:Int}(x0:0<=x)(x1:x<2^K)(st:SO):yc T (k+3) zW [.str (nmS up top),.int s,.int K,.int x] st=.ok (.tp AC [.int (wS up top K s x),.int (uS up top K s x)]) st:=by
 have hx64:x.natAbs<18446744073709551616:=by
  have a:(2:Nat)^K<=2^64:=Ai (by decide) hK2;have b:=pw K;lia
 have T2:∀j:Nat,j<=100->∀st,yc T (k+2) zI [.int j] st=.ok (.int (2^j)) st:=λj hj st=>zdK (k+1) j (by lia) st;have dvd:∀(z:Int) (j:Nat),j<=100->yq .fdiv (.int z) (.int (2^j))=AA (.int (z/2^j)):=λz j hj=>zg0 (ye3 hj).1 (ye3 hj).2;have hT:T zW=AA yr:=rfl
 have hb:yr.body=(match yr.body with
  |.cons a (.cons b (.cons c _))=>.cons a (.cons b (.cons c gT))
  |x=>x):=rfl
 have hT':T zW=AA ⟨4,6,AB,yr.body⟩:=rfl;have h0:∀z:Int,(if decide ((0:Int)<(s:Int))=AB then z/2^(s-1)%2 else 0)=if s=0 then 0 else z/2^(s-1)%2:=λz=>by
  by_cases h:s=0
  .rw[if_pos h,decide_eq_false (by lia)];rfl
  .rw[if_neg h,decide_eq_true (by lia)];rfl
 have tl:∀(nm:AQ) (z:Int) (st:SO),exs (yc T (k+2)) [AA (.str nm),AA (.int s),AA (.int K),AA (.int z),AD,AD] st gT=.rt (.tp AC [.int (z/2^s),.int (if s=0 then 0 else z/2^(s-1)%2)]) st:=λnm z st=>by
  have h:=zlr (call:=yc T (k+2)) (nm:=nm) (s:=s) (K:=K) (x:=z) (d:=(s:Int)-1) (p:=2^(s-1)) rfl rfl (λh st=>by
   have hs0:(0:Int)<s:=of_decide_eq_true h;rw[show (s:Int)-1=((s-1:Nat):Int)by lia];exact T2 (s-1) (by lia) st) (dvd z _ (by lia)) zkM (T2 s hs) (dvd z s hs) st
  rw[h0]at h;exact h
 cases up<;>cases top
 .have c0:yD .eq (.str "right") (.str "left")=AA (.bl AC):=by ac_rfl
  have c1:yD .eq (.str "right") (.str "roll")=AA (.bl AC):=by ac_rfl
  have c2:yD .eq (.str "right") (.str "down")=AA (.bl AC):=by ac_rfl
  erw[nmS,wS,uS];rw[show k+3=k+2+1 by lia,zc hT' rfl rfl rfl];have t:=tl (AF "right") x [];dsimp only;rw[hb];generalize gT=F at *;generalize x/2^s=v at *;generalize (if s=0 then 0 else x/2^(s-1)%2)=r at *;simp! [yr,c0,c1,c2,t];rfl
 .have c0:yD .eq (.str "down") (.str "left")=AA (.bl AC):=by ac_rfl
  have c1:yD .eq (.str "down") (.str "roll")=AA (.bl AC):=by ac_rfl
  have c2:yD .eq (.str "down") (.str "down")=AA (.bl AB):=by ac_rfl
  have e1:yc T (k+2) zdb [.int x,.int K] []=.ok (.int (sgd (2^K) x)) []:=signed k x K (by lia) [];erw[nmS,wS,uS];rw[show k+3=k+2+1 by lia,zc hT' rfl rfl rfl];have t:=tl (AF "down") (sgd (2^K) x) [];dsimp only;rw[hb];generalize gT=F at *;generalize sgd (2^K) x=u at *;generalize u/2^s=v at *;generalize (if s=0 then 0 else u/2^(s-1)%2)=r at *;simp! [yr,c0,c1,c2,e1,t];rfl
 .have h:=zlB (k+2) (nm:=nmS AB AC) (s:=s) (K:=K) (x:=x) (d:=(K:Int)-s) (p:=2^(K-s)) (by ac_rfl) rfl rfl rfl (λh st=>by
   erw[AK,decide_eq_true_eq]at h;rw[show (K:Int)-s=((K-s:Nat):Int)by lia];exact T2 (K-s) (by lia) st) (dvd x _ (by lia)) (T2 s hs) (zaA hx64) zkM st
  have e:(if (decide ((0:Int)<s)&&decide ((s:Int)<=K))=AB then x/2^(K-s)%2 else 0)=if 0<s/\s<=K then x/2^(K-s)%2 else 0:=by
   by_cases h1:0<s/\s<=K
   .rw[if_pos h1,decide_eq_true (by lia),decide_eq_true (by lia)];rfl
   .rw[if_neg h1,if_neg (by erw[AK,decide_eq_true_eq];lia)]
  rw[e]at h;exact h
 .have hp:s%K<K:=ED _ (by lia);have q0:yq .mod (.int (s:Int)) (.int (K:Int))=AA (.int ((s%K:Nat):Int)):=by
   rw[Cm];exact zfE (by lia)
  exact zml (k+2) (by ac_rfl) (by ac_rfl) q0 (show (K:Int)-((s%K:Nat):Int)=((K-s%K:Nat):Int)by lia) (T2 _ (by lia)) (T2 _ (by lia)) (zaA hx64) (dvd x _ (by lia)) st
noncomputable def yby:Ce:=match yZ.body with
 |.cons _ (.cons (.while c _) _)=>c
 |_=>.nope
noncomputable def ybO:Css:=match yZ.body with
 |.cons _ (.cons (.while _ b) _)=>b
 |_=>.nil
theorem zii{c:Cl}{n:Nat}{ns:List Int}{a p m t:Int}{f:Bool}{u:Option PV}{st:SO}(h:st[n]?=AA (.lst [.lst (ns.map .int),.int a,.int p,.bl f])):
  ∃B,ev c [AA (.loc n),AA (.int m),AA (.int t),u] st yby=.ok (.bl B) st/\(B=AB->t<64):=by
 by_cases h1:t<64
 .by_cases h2:p=0
  .refine⟨AB,?_,λ_=>h1⟩;erw[yby,yZ,IC.ve1,IC.ve2,IC.ve3,IC.ve6,IC.ve7,IC.ve8,IC.ve16,R.bind,AN,AM,h,idxV,ya5,at?,ixI,yq,binI,yaB,toR,yD,ybC,onBl];simp[h1,h2,zdi,peq]
  .have h2:(p==0)=false:=by simp[h2]
   cases f
   .refine⟨AC,?_,λ_=>h1⟩;erw[yby,yZ,IC.ve1,IC.ve2,IC.ve3,IC.ve6,IC.ve7,IC.ve8,IC.ve16,R.bind,AN,AM,h,idxV,ya5,at?,ixI,yq,binI,yaB,toR,yD,ybC,onBl];simp[h,h1,h2,zdi,peq]
   .refine⟨decide (p<m*4096),?_,λ_=>h1⟩;erw[yby,yZ,IC.ve1,IC.ve2,IC.ve3,IC.ve6,IC.ve7,IC.ve8,IC.ve16,R.bind,AN,AM,h,idxV,ya5,at?,ixI,yq,binI,yaB,toR,yD,ybC,onBl];simp[h,h1,h2,zdi,peq]
 .refine⟨AC,?_,λz=>by cases z⟩;erw[yby,yZ,IC.ve1,IC.ve2,IC.ve3,IC.ve6,IC.ve7,IC.ve8,IC.ve16,R.bind,AN,AM,h,idxV,ya5,at?,ixI,yq,binI,yaB,toR,yD,ybC,onBl];simp[h1]
theorem zh9(k:Nat){n:Nat}{ns:List Int}(hns:ns.length<=1000){a p m t:Int}(ha:0<=a){f:Bool}{u:Option PV}{st:SO}(h:st[n]?=AA (.lst [.lst (ns.map .int),.int a,.int p,.bl f])):
  ∃p' f',exs (yc T (k+2)) [AA (.loc n),AA (.int m),AA (.int t),u] st ybO=.nx [AA (.loc n),AA (.int m),AA (.int (t+1)),u] (st.set n (.lst [.lst (ns.map .int),.int (a+1),.int p',.bl f'])):=by
 let⟨q,g,hq⟩:=fill k n ns hns a p ha f st h;have hm:(1+q%4093).natAbs<18446744073709551616:=by lia
 have hau:∀st,ex (yc T (k+2)) [AA (.loc n),AA (.int m),AA (.int t),u] st (.aug 2 .add (.cst (.int 1)))=.nx [AA (.loc n),AA (.int m),AA (.int (t+1)),u] st:=λst=>by
  rw[zpi (x:=.int t) rfl];simp[IC.ve1,R.fl,ybP,yq,binI,nxO]
 cases g
 .refine⟨q,AC,?_⟩;erw[ybO,yZ,xs_cons,xs_nil,x_expr,x_ite,x_six,hau,yax,nxO,IC.ve1,IC.ve2,IC.ve3,IC.ve6,IC.ve8,IC.ve16,IC.ve18,evs,R.fl,R.bind,hq,ybP,yq,binI,D8,A5,A6,AN,AM,rdS h,idxV,ya5,at?,ixI,yaB,toR,yD,ybC,onBl,onF,yaM];simp[rdS h]
 .by_cases hl:q<m*4096
  .refine⟨q+m*4096*(1+q%4093),AB,?_⟩;erw[ybO,yZ,xs_cons,xs_nil,x_expr,x_ite,x_six,hau,yax,nxO,IC.ve1,IC.ve2,IC.ve3,IC.ve6,IC.ve8,IC.ve16,IC.ve18,evs,R.fl,R.bind,hq,ybP,yq,binI,D8,A5,A6,AN,AM,rdS h,idxV,ya5,at?,ixI,yaB,toR,yD,ybC,onBl,onF,yaM,stO,ybB];simp[rdS h,hl,hm]
  .refine⟨q,AB,?_⟩;erw[ybO,yZ,xs_cons,xs_nil,x_expr,x_ite,x_six,hau,yax,nxO,IC.ve1,IC.ve2,IC.ve3,IC.ve6,IC.ve8,IC.ve16,IC.ve18,evs,R.fl,R.bind,hq,ybP,yq,binI,D8,A5,A6,AN,AM,rdS h,idxV,ya5,at?,ixI,yaB,toR,yD,ybC,onBl,onF,yaM];simp[rdS h,hl]
theorem ze5(k:Nat){n:Nat}{ns:List Int}(hns:ns.length<=1000){m:Int}{u:Option PV}:∀(r N:Nat) (t a p:Int) (f:Bool) (st:SO),r<=N->64-t<=r->0<=a->st[n]?=AA (.lst [.lst (ns.map .int),.int a,.int p,.bl f]) ->
  ∃t' a' p' f',0<=a'/\yaT (yc T (k+2)) yby ybO (N+1) [AA (.loc n),AA (.int m),AA (.int t),u] st=.nx [AA (.loc n),AA (.int m),AA (.int t'),u] (st.set n (.lst [.lst (ns.map .int),.int a',.int p',.bl f']))
 |r,N,t,a,p,f,st,hN,ht,ha,h=>by
  let⟨B,hB,hb⟩:=zii (c:=yc T (k+2)) (m:=m) (t:=t) (u:=u) h;have hs:st.set n (.lst [.lst (ns.map .int),.int a,.int p,.bl f])=st:=by
   refine ER λi=>?_;rw[C9];split
   .rename_i e;subst e;split
    .exact h.symm
    .rename_i z;rw[BU (by lia)]at h
     cases h
   .rfl
  cases B with
  |false=>exact⟨t,a,p,f,ha,by rw[zfs hB rfl,hs]⟩
  |true=>
   have h64:=hb rfl
   match r,N with
   |0,_=>exact absurd ht (by lia)
   |r+1,N+1=>
    let⟨p1,f1,hx⟩:=zh9 k hns (m:=m) (t:=t) ha (u:=u) h;let⟨t',a',p',f',h0,h2⟩:=ze5 k hns (m:=m) (u:=u) r N (t+1) (a+1) p1 f1 _ (by lia) (by lia) (by lia) (rdS h);refine⟨t',a',p',f',h0,?_⟩;rw[zhc hB rfl hx,h2,DL]
theorem take(k n:Nat)(ns:List Int)(hns:ns.length<=1000)(a p m:Int)(ha:0<=a)(hm:0<m)(hm2:m<10000000000000000000000000000000000000000000000000000000000000000000000)(f:Bool)(st:SO)(h:st[n]?=AA (.lst [.lst (ns.map .int),.int a,.int p,.bl f])):
  ∃d a' p' f',0<=d/\d<m/\0<=a'/\yc T (k+3) zen [.loc n,.int m] st=.ok (.int d) (st.set n (.lst [.lst (ns.map .int),.int a',.int p',.bl f'])):=by
 let⟨t',a',p',f',h0,h2⟩:=ze5 k hns (m:=m) (u:=AD) 64 99999 0 a p f st (by lia) (by lia) ha h;refine⟨p'%m,a',p'/m,f',BF _ (by lia),An _ hm,h0,?_⟩;have hb:yZ.body=.cons (.asg (.n 2) (.cst (.int 0))) (.cons (.while yby ybO) (.cons (.asg (.n 3) (.bin .mod (.idx (.var 0) (.cst (.int 2))) (.var 1))) (.cons (.six (.var 0) (.cst (.int 2)) (.bin .fdiv (.idx (.var 0) (.cst (.int 2))) (.var 1))) (.cons (.ret (.var 3)) .nil)))):=rfl;have hT:T zen=AA ⟨2,4,AC,yZ.body⟩:=rfl;rw[yc,hT,hb];erw[AS,Ar,if_true,AL,Aa,Ba,Ae,Ab,As,xs_cons,xs_nil,x_asg,zk1,x_six,x_ret,yax,nxO,stO,IC.ve1,IC.ve2,IC.ve3,IC.ve16,R.fl,R.bind,yJ,A5,A6,AN,AM,h2,rdS h,idxV,ya5,at?,ixI,yq,binI,hm,hm2,and_self,toR,ybB];simp[rdS h,hm,hm2]
def Drw(ns:List Int)(n:Nat)(st:SO):Prop:=∃a p f,0<=a/\st[n]?=AA (.lst [.lst (ns.map .int),.int a,.int p,.bl f])
def Onl(ns:List Int)(n:Nat)(st st':SO):Prop:=∃a p f,0<=a/\st'=st.set n (.lst [.lst (ns.map .int),.int a,.int p,.bl f])
theorem Onl.drw{ns:List Int}{n:Nat}{st st':SO}(h:Drw ns n st)(o:Onl ns n st st'):Drw ns n st':=by
 let⟨a,p,f,ha,h⟩:=h;let⟨b,q,g,hb,rfl⟩:=o;exact⟨b,q,g,hb,rdS h⟩
theorem Onl.trans{ns:List Int}{n:Nat}{st st1 st2:SO}(o:Onl ns n st st1)(o2:Onl ns n st1 st2):Onl ns n st st2:=by
 let⟨b,q,g,hb,rfl⟩:=o;let⟨c,r,j,hc,rfl⟩:=o2;exact⟨c,r,j,hc,by rw[DL]⟩
theorem yaW(k:Nat){n:Nat}{ns:List Int}(hns:ns.length<=1000){m:Int}(hm:0<m)(hm2:m<10000000000000000000000000000000000000000000000000000000000000000000000){st:SO}(h:Drw ns n st):
  ∃d st',0<=d/\d<m/\Onl ns n st st'/\yc T (k+3) zen [.loc n,.int m] st=.ok (.int d) st':=by
 let⟨a,p,f,ha,h⟩:=h;let⟨d,a',p',f',h1,h2,h3,h4⟩:=take k n ns hns a p m ha hm hm2 f st h;exact⟨d,_,h1,h2,⟨_,_,_,h3,rfl⟩,h4⟩
theorem sizes(k:Nat){n:Nat}{ns:List Int}(hns:ns.length<=1000){m:Int}(hm:0<m)(hm2:m<=100){st:SO}(h:Drw ns n st):
  ∃w z st',4<=w/\w<=16/\1<=z/\z<=m/\Onl ns n st st'/\yc T (k+4) zej [.loc n,.int m] st=.ok (.tup [.int w,.int z]) st':=by
 let⟨d,s1,d1,d2,o1,e1⟩:=yaW k hns (m:=13) (by lia) (by lia) h;let⟨e,s2,d3,d4,o2,e2⟩:=yaW k hns (m:=m) hm (by lia) (o1.drw h);refine⟨4+d,1+e,s2,by lia,by lia,by lia,by lia,o1.trans o2,?_⟩;have hT:T zej=AA zcK:=rfl;rw[yc,hT];erw[zcK,AS,Ar,if_true,AL,Aa,Ba,Ae,Ab,As,xs_cons,xs_nil,x_ret,yax,IC.ve1,IC.ve2,IC.ve3,IC.ve11,IC.ve18,evs,R.fl,R.bind,AN,AM,e1,e2,yq,binI,toR];simp[sizeMax]
theorem fresh(k:Nat)(ns:List Int)(h:ns.length<=63)(st:SO):∃v,yc T (k+1) zem [.scr (ns.map .int)] st=.ok (.loc st.length) (st++[v])/\v=.lst [.lst (ns.map .int),.int 0,.int 0,.bl AC]:=by
 have hT:T zem=AA zcH:=rfl;refine⟨_,?_,rfl⟩;rw[yc,hT];erw[zcH,AS,Ar,if_true,AL,Aa,Ba,Ae,Ab,As,xs_cons,xs_nil,x_ret,yax,ev,evs,R.fl,R.bind,AN,toR];have hc:ycs (.scr (ns.map PV.int)) AD (.int 63)=AA (.lst (ns.map .int)):=by
  have hk:ybn ns.length 63=ns.length:=by
   show min 63 ns.length=ns.length;lia
  simp[ycs,yb2,ycz,cut,ycE,yc0,hk]
  try rw[<-BD (f:=PV.int),GS]
 simp[yb2,onP,hc,sizeMax]
theorem dbl{call:Cl}{i j:Nat}(hij:i≠j):∀(N:Nat) (a:Int) (ρ:IC.Env) (v:Int) (st:SO),ρ[i]?=AA (AA (.int v)) ->
  ∃u,yaU call (.n j) (.cons (.asg (.n i) (.bin .mul (.cst (.int 2)) (.var i))) .nil) (yp N a 1) ρ st=.nx ((ρ.set i (AA (.int (2^N*v)))).set j u) st/\(N=0->ρ[j]?=AA u \/ ρ.length<=j)
 |0,a,ρ,v,st,h=>by
  have hi:ρ.set i (AA (.int v))=ρ:=by
   refine ER λz=>?_;rw[C9];split
   .rename_i e;subst e;split
    .exact h.symm
    .rw[BU (by lia)]at h
     cases h
   .rfl
  rcases C3 j ρ.length with hj|hj
  .refine⟨ρ[j],?_,λ_=>.inl (Cu hj)⟩;rw[yp,zw,C4,CZ,hi,List.set_getElem_self]
  .refine⟨AD,?_,λ_=>.inr hj⟩;rw[yp,zw,C4,CZ,hi,List.set_eq_of_length_le hj]
 |N+1,a,ρ,v,st,h=>by
  have h1:(ρ.set j (AA (.int a)))[i]?=AA (AA (.int v)):=by
   rw[AO (BL hij)];exact h
  have hil:i<ρ.length:=by
   rcases C3 i ρ.length with z|z
   .exact z
   .rw[BU z]at h;cases h
  have h2:exs call (ρ.set j (AA (.int a))) st (.cons (.asg (.n i) (.bin .mul (.cst (.int 2)) (.var i))) .nil)=.nx ((ρ.set j (AA (.int a))).set i (AA (.int (2*v)))) st:=by
   erw[xs_nil,xs_cons,x_asg,yax,nxO,IC.ve1,IC.ve2,IC.ve3,R.bind,R.fl,h1,yJ,yq,binI,yaB,toR];simp
  let⟨u,h3,_⟩:=dbl (call:=call) hij N (a+1) ((ρ.set j (AA (.int a))).set i (AA (.int (2*v)))) (2*v) st (by rw[A9 (by rw[B1];exact hil)]);refine⟨u,?_,λz=>by cases z⟩;rw[yp,zk (ρ1:=ρ.set j (AA (.int a))) rfl,h2];show yaU call _ _ _ _ _=_;rw[h3,DL,Gq _ _ (BL hij),DL,Ad,Ay]
theorem zd5(K:Nat):(0:Int)<2^K:=A7 (by lia)
noncomputable def yI:Css:=match yU.body with
 |.cons _ (.cons _ (.cons _ r))=>r
 |_=>.nil
noncomputable def wT2:Css:=match yI with
 |.cons _ (.cons _ (r))=>r
 |_=>.nil
theorem wE2:yI=(match yI with
 |.cons q0 (.cons q1 (_))=>.cons q0 (.cons q1 (wT2))
 |_=>.nil):=rfl
noncomputable def wT4:Css:=match yI with
 |.cons _ (.cons _ (.cons _ (.cons _ (r))))=>r
 |_=>.nil
theorem wE4:yI=(match yI with
 |.cons q0 (.cons q1 (.cons q2 (.cons q3 (_))))=>.cons q0 (.cons q1 (.cons q2 (.cons q3 (wT4))))
 |_=>.nil):=rfl
noncomputable def wT5:Css:=match yI with
 |.cons _ (.cons _ (.cons _ (.cons _ (.cons _ (r)))))=>r
 |_=>.nil
theorem wE5:yI=(match yI with
 |.cons q0 (.cons q1 (.cons q2 (.cons q3 (.cons q4 (_)))))=>.cons q0 (.cons q1 (.cons q2 (.cons q3 (.cons q4 (wT5)))))
 |_=>.nil):=rfl
noncomputable def wT6:Css:=match yI with
 |.cons _ (.cons _ (.cons _ (.cons _ (.cons _ (.cons _ (r))))))=>r
 |_=>.nil
theorem wE6:yI=(match yI with
 |.cons q0 (.cons q1 (.cons q2 (.cons q3 (.cons q4 (.cons q5 (_))))))=>.cons q0 (.cons q1 (.cons q2 (.cons q3 (.cons q4 (.cons q5 (wT6))))))
 |_=>.nil):=rfl
theorem zgw{c:Cl}{n:Nat}{w z kd m:Int}{u5 u6 u7 u8 u9 u10 u11 u12:Option PV}{st:SO}(h0:0<=kd)(h6:kd<6)(hm:16<=m):
  ∃x,0<=x/\x<m/\exs c [AA (.loc n),AA (.int w),AA (.int z),AA (.int kd),AA (.int m),u5,u6,u7,u8,u9,u10,u11,u12] st yI=.rt (.int x) st:=by
 obtain⟨x,x0,x1,hv⟩:∃x:Int,0<=x/\x<m/\∀st,idxV st (.tup [.int 0,.int 1,.int (m-1),.int (m/2),.int (m/2-1),.int (m-2)]) (.int kd)=AA (.int x):=by
  rcases (by lia:kd=0 \/ kd=1 \/ kd=2 \/ kd=3 \/ kd=4 \/ kd=5)with rfl|rfl|rfl|rfl|rfl|rfl
  .exact⟨0,by lia,by lia,λ_=>rfl⟩
  .exact⟨1,by lia,by lia,λ_=>rfl⟩
  .exact⟨m-1,by lia,by lia,λ_=>rfl⟩
  .exact⟨m/2,by lia,by lia,λ_=>rfl⟩
  .exact⟨m/2-1,by lia,by lia,λ_=>rfl⟩
  .exact⟨m-2,by lia,by lia,λ_=>rfl⟩
 refine⟨x,x0,x1,?_⟩;rw[wE2];erw[yI,yU,AS,Ar,BW,Bj,if_true,xs_cons,xs_nil,x_asg,x_ite,x_ret,IC.ve1,IC.ve2,IC.ve3,IC.ve8,IC.ve11,IC.ve16,IC.ve18,evs,AN,AM,bd_ok,fl_ok,toR_some,bT_n,nxO_some,th_nx,th_rt,A5,A6,t_bl,on_t,sizeMax,CV,b_sub,b_div2,c_lt,c_eq,c_gt,cond_true,cond_false,hv,h6,decide_true]
theorem zhd(k:Nat){n:Nat}{ns:List Int}(hns:ns.length<=1000){w z kd m:Int}{u5 u6 u7 u8 u9 u10 u11 u12:Option PV}{st:SO}(h:Drw ns n st)(h9:9<kd)(hm:16<=m)(hm2:m<=18446744073709551616):
  ∃x st',0<=x/\x<m/\Onl ns n st st'/\exs (yc T (k+3)) [AA (.loc n),AA (.int w),AA (.int z),AA (.int kd),AA (.int m),u5,u6,u7,u8,u9,u10,u11,u12] st yI=.rt (.int x) st':=by
 let⟨d,s1,d1,d2,o1,e1⟩:=yaW k hns (m:=m) (by lia) (by lia) h;refine⟨d,s1,d1,d2,o1,?_⟩;have k1:decide (kd<6)=false:=decide_eq_false (by lia);have k2:(kd==6)=false:=beq_eq_false_iff_ne.2 (by lia);have k3:(kd==7)=false:=beq_eq_false_iff_ne.2 (by lia);rw[wE6];erw[yI,yU,AS,Ar,BW,Bj,if_true,xs_cons,xs_nil,x_asg,x_ite,x_ret,IC.ve1,IC.ve2,IC.ve3,IC.ve8,IC.ve11,IC.ve16,IC.ve18,evs,AN,AM,bd_ok,fl_ok,toR_some,bT_n,nxO_some,th_nx,th_rt,A5,A6,t_bl,on_t,sizeMax,CV,b_sub,b_div2,c_lt,c_eq,c_gt,cond_true,cond_false,e1,h9,decide_true,k1,k2,k3]
theorem zgJ(k:Nat){n:Nat}{ns:List Int}(hns:ns.length<=1000){w z kd m:Int}{u5 u6 u7 u8 u9 u10 u11 u12:Option PV}{st:SO}(h:Drw ns n st)(hk:kd=6 \/ kd=7)(hw:4<=w)(hw2:w<=16)(hz:1<=z)(hz2:z<=4)(hm:m=2^(w*z).toNat):
  ∃x st',0<=x/\x<m/\Onl ns n st st'/\exs (yc T (k+3)) [AA (.loc n),AA (.int w),AA (.int z),AA (.int kd),AA (.int m),u5,u6,u7,u8,u9,u10,u11,u12] st yI=.rt (.int x) st':=by
 have hwz:4<=w*z:=by
  have:=Gm hw hz (by lia) (by lia);lia
 have hwz2:w*z<=64:=by
  have:=Gm hw2 hz2 (by lia) (by lia);lia
 have hm1:0<m:=hm ▸ zd5 _;have hm2:m<=18446744073709551616:=by
  have h64:(2:Nat)^(w*z).toNat<=2^64:=Ai (by lia) (by lia);have h65:((2^(w*z).toNat:Nat):Int)=2^(w*z).toNat:=by simp
  rw[hm,<-h65];lia
 let⟨d,s1,d1,d2,o1,e1⟩:=yaW k hns (m:=m) (by lia) (by lia) h;let⟨e,s2,d3,d4,o2,e2⟩:=yaW k hns (m:=w*z) (by lia) (by lia) (o1.drw h);have hj:(2:Int)^e.toNat<m:=by
  rw[hm];exact Int.pow_lt_pow_of_lt (by lia) (by lia)
 have hj1:=zd5 e.toNat;have hj2:(2:Int)^e.toNat<10000000000000000000000000000000000000000000000000000000000000000000000:=by lia
 have hj3:((2:Int)^e.toNat).natAbs<18446744073709551616:=by lia
 have hj4:(2:Nat)^e.toNat<18446744073709551616:=by
  have h65:((2^e.toNat:Nat):Int)=2^e.toNat:=by simp
  lia
 have hwa:w.natAbs<18446744073709551616:=by lia
 have hea:e.natAbs<1000000000:=by lia
 have hr:ybL (.int e)=AA (yp e.toNat 0 1):=by erw[ybL,hea,if_true]
 have q1:=zg0 (i:=d) hj1 (by lia);have q2:yq .mul (.int (d/2^e.toNat)) (.int (2^e.toNat))=AA (.int (d/2^e.toNat*2^e.toNat)):=zcT hj3;have q3:yq .mul (.int w) (.int z)=AA (.int (w*z)):=zaA hwa
 clear hj2 hj4 hea hwa hj3 hwz hwz2
 rcases hk with rfl|rfl
 .let⟨u,hd,_⟩:=dbl (call:=yc T (k+3)) (i:=8) (j:=5) (by lia) e.toNat 0 [AA (.loc n),AA (.int w),AA (.int z),AA (.int 6),AA (.int m),u5,AA (.tup [.int 0,.int 1,.int (m-1),.int (m/2),.int (m/2-1),.int (m-2)]),AA (.int d),AA (.int 1),u9,u10,u11,u12] 1 s2 rfl;refine⟨d/2^e.toNat*2^e.toNat,s2,Ch (C7 d1 (by lia)) (by lia),Fe (Int.ediv_mul_le d (by lia)) d2,o1.trans o2,?_⟩;have k1:decide ((6:Int)<6)=false:=rfl;have k2:((6:Int)==6)=true:=rfl;rw[CW]at hd;rw[wE4];generalize wT4=F at *;generalize (2:Int)^e.toNat=P at *;erw[IC.PV.tup]at hd;simp! [yI,yU,e1,k1,k2,q3,e2,hr,hd,q1,q2]
 .let⟨u,hd,_⟩:=dbl (call:=yc T (k+3)) (i:=8) (j:=5) (by lia) e.toNat 0 [AA (.loc n),AA (.int w),AA (.int z),AA (.int 7),AA (.int m),u5,AA (.tup [.int 0,.int 1,.int (m-1),.int (m/2),.int (m/2-1),.int (m-2)]),AA (.int d),AA (.int 1),u9,u10,u11,u12] 1 s2 rfl;refine⟨m-2^e.toNat,s2,by lia,by lia,o1.trans o2,?_⟩;have k1:decide ((7:Int)<6)=false:=rfl;have k2:((7:Int)==6)=false:=rfl;have k3:((7:Int)==7)=true:=rfl;rw[CW]at hd;rw[wE5];generalize wT5=F at *;generalize (2:Int)^e.toNat=P at *;erw[IC.PV.tup]at hd;simp! [yI,yU,e1,k1,k2,k3,q3,e2,hr,hd]
theorem Drw.refl{ns:List Int}{n:Nat}{st:SO}(h:Drw ns n st):Onl ns n st st:=by
 let⟨a,p,f,ha,h⟩:=h;exact⟨a,p,f,ha,zj6 h⟩
noncomputable def ybI:Css:=match yI with
 |.cons _ (.cons _ (.cons _ (.cons _ (.cons _ (.cons _ (.cons _ (.cons _ (.cons _ (.cons (.for _ _ b) _)))))))))=>b
 |_=>.nil
theorem zgD(k:Nat){n:Nat}{ns:List Int}(hns:ns.length<=1000){p1 p2 p3 p4 p6 p8 u11 u12:Option PV}{d W acc a:Int}{st:SO}(h:Drw ns n st)(ha:0<=a)(ha2:a<1000)(hW:4<=W)(hW2:W<18446744073709551616):
  ∃e st' v11 v12,0<=e/\e<W/\Onl ns n st st'/\exs (yc T (k+3)) [AA (.loc n),p1,p2,p3,p4,AA (.int a),p6,AA (.int d),p8,AA (.int W),AA (.int acc),u11,u12] st ybI=.nx [AA (.loc n),p1,p2,p3,p4,AA (.int a),p6,AA (.int d),p8,AA (.int W),AA (.int (acc*W+e)),v11,v12] st':=by
 let⟨t,s1,d1,d2,o1,e1⟩:=yaW k hns (m:=5) (by lia) (by lia) h;have hW0:0<W:=by lia
 have hWm:W.natAbs<18446744073709551616:=by lia
 have ha3:0<a+1:=by lia
 have ha4:a+1<18446744073709551616*18446744073709551616:=by lia
 have q0:=BF (d/(a+1)) (show W≠0 by lia);have q1:=An (d/(a+1)) hW0;obtain⟨e,x0,x1,hv⟩:∃e:Int,0<=e/\e<W/\∀st,idxV st (.tp AC [.int 0,.int 1,.int (W-1),.int (W/2),.int (d/(a+1)%W)]) (.int t)=AA (.int e):=by
  rcases (by lia:t=0 \/ t=1 \/ t=2 \/ t=3 \/ t=4)with rfl|rfl|rfl|rfl|rfl
  .exact⟨0,by lia,by lia,λ_=>rfl⟩
  .exact⟨1,by lia,by lia,λ_=>rfl⟩
  .exact⟨W-1,by lia,by lia,λ_=>rfl⟩
  .exact⟨W/2,by lia,by lia,λ_=>rfl⟩
  .exact⟨d/(a+1)%W,q0,q1,λ_=>rfl⟩
 refine⟨e,s1,AA (.int (d/(a+1)%W)),AA (.tp AC [.int 0,.int 1,.int (W-1),.int (W/2),.int (d/(a+1)%W)]),x0,x1,o1,?_⟩;erw[ybI,yI,yU,xs_cons,xs_nil,x_asg,IC.ve1,IC.ve2,IC.ve3,IC.ve11,IC.ve16,IC.ve18,evs,AN,AM,bd_ok,fl_ok,toR_some,bT_n,nxO_some,th_nx,A5,A6,b_add,b_sub,zg0 ha3 ha4,zfE hW0,b_div2,zcT hWm,e1,PV.tup,hv,AS,Ar,BW,Bj,sizeMax,CV,if_true]
theorem zdL(k:Nat){n:Nat}{ns:List Int}(hns:ns.length<=1000){p1 p2 p3 p4 p6 p8:Option PV}{d W:Int}(hW:4<=W)(hW2:W<18446744073709551616):∀(r i:Nat) (a acc:Int) (u5 u11 u12:Option PV) (st:SO),0<=a->a+r<1000->0<=acc->acc<W^i->Drw ns n st ->
  ∃acc' st' v5 v11 v12,0<=acc'/\acc' < W^(i+r)/\Onl ns n st st'/\yaU (yc T (k+3)) (.n 5) ybI (yp r a 1) [AA (.loc n),p1,p2,p3,p4,u5,p6,AA (.int d),p8,AA (.int W),AA (.int acc),u11,u12] st=.nx [AA (.loc n),p1,p2,p3,p4,v5,p6,AA (.int d),p8,AA (.int W),AA (.int acc'),v11,v12] st'
 |0,i,a,acc,u5,u11,u12,st,_,_,h0,h1,h=>⟨acc,st,u5,u11,u12,h0,h1,h.refl,by rw[yp,zw]⟩
 |r+1,i,a,acc,u5,u11,u12,st,ha,hr,h0,h1,h=>by
  let⟨e,s1,v11,v12,e0,e1,o1,hs⟩:=zgD k hns (p1:=p1) (p2:=p2) (p3:=p3) (p4:=p4) (p6:=p6) (p8:=p8) (u11:=u11) (u12:=u12) (d:=d) (acc:=acc) h ha (by lia) hW hW2;have hb:acc*W+e<W^(i+1):=by
   have:=B3 (show acc<=W^i-1 by lia) (show 0<=W by lia);rw[ES,CZ]at this;rw[Ad];lia
  have hb0:0<=acc*W:=Ch h0 (by lia);let⟨acc',s2,w5,w11,w12,f0,f1,o2,hf⟩:=zdL k hns (p1:=p1) (p2:=p2) (p3:=p3) (p4:=p4) (p6:=p6) (p8:=p8) (d:=d) hW hW2 r (i+1) (a+1) (acc*W+e) (AA (.int a)) v11 v12 s1 (by lia) (by lia) (by lia) hb (o1.drw h);refine⟨acc',s2,w5,w11,w12,f0,by rw[show i+(r+1)=i+1+r by lia];exact f1,o1.trans o2,?_⟩;rw[yp,zk (ρ1:=[AA (.loc n),p1,p2,p3,p4,AA (.int a),p6,AA (.int d),p8,AA (.int W),AA (.int acc),u11,u12]) rfl,hs];exact hf
theorem zfo(k:Nat){n:Nat}{ns:List Int}(hns:ns.length<=1000){w z:Nat}{kd m:Int}{u5 u6 u7 u8 u9 u10 u11 u12:Option PV}{st:SO}(h:Drw ns n st)(hk:kd=8 \/ kd=9)(hw:4<=w)(hw2:w<=16)(hz:1<=z)(hz2:z<=4)(hm:m=2^(w*z)):
  ∃x st',0<=x/\x<m/\Onl ns n st st'/\exs (yc T (k+3)) [AA (.loc n),AA (.int w),AA (.int z),AA (.int kd),AA (.int m),u5,u6,u7,u8,u9,u10,u11,u12] st yI=.rt (.int x) st':=by
 have hwz2:w*z<=64:=BH hw2 hz2;have hm1:0<m:=hm ▸ zd5 _;have hm2:m<=18446744073709551616:=by
  have h64:(2:Nat)^(w*z)<=2^64:=Ai (by lia) hwz2;rw[hm,<-pw];lia
 let⟨d,s1,d1,d2,o1,e1⟩:=yaW k hns (m:=m) (by lia) (by lia) h;have hW4:(4:Int)<=2^w:=by
  have h:(2:Nat)^2<=2^w:=Ai (by lia) (by lia);have h2:=pw w;lia
 have hWl:(2:Int)^w<18446744073709551616:=by
  have h:(2:Nat)^w<=2^16:=Ai (by lia) hw2;have h2:=pw w;lia
 have r1:ybL (.int (w:Int))=AA (yp w 0 1):=zbp w (by lia);have r2:ybL (.int (z:Int))=AA (yp z 0 1):=zbp z (by lia);have k1:¬kd<6:=by lia
 have k2:(kd==6)=false:=by simp;lia
 have k3:(kd==7)=false:=by simp;lia
 have k4:¬9<kd:=by lia
 let⟨u,hd,_⟩:=dbl (call:=yc T (k+3)) (i:=9) (j:=5) (by lia) w 0 [AA (.loc n),AA (.int w),AA (.int z),AA (.int kd),AA (.int m),u5,AA (.tup [.int 0,.int 1,.int (m-1),.int (m/2),.int (m/2-1),.int (m-2)]),AA (.int d),u8,AA (.int 1),u10,u11,u12] 1 s1 rfl;erw[A5,A6,CW]at hd;let⟨acc',s2,w5,w11,w12,f0,f1,o2,hf⟩:=zdL k hns (p1:=AA (.int w)) (p2:=AA (.int z)) (p3:=AA (.int kd)) (p4:=AA (.int m)) (p6:=AA (.tup [.int 0,.int 1,.int (m-1),.int (m/2),.int (m/2-1),.int (m-2)])) (p8:=u8) (d:=d) (W:=2^w) hW4 hWl z 0 0 0 u u11 u12 s1 (by lia) (by lia) (by lia) (by simp) (o1.drw h);rw[BW,<-Ci,<-hm]at f1;refine⟨acc',s2,f0,f1,o1.trans o2,?_⟩
 have hR:yI=.cons (.asg (.n 6) (.tup (.cons (.cst (.int 0)) (.cons (.cst (.int 1)) (.cons (.bin .sub (.var 4) (.cst (.int 1))) (.cons (.bin .fdiv (.var 4) (.cst (.int 2))) (.cons (.bin .sub (.bin .fdiv (.var 4) (.cst (.int 2))) (.cst (.int 1))) (.cons (.bin .sub (.var 4) (.cst (.int 2))) .nil)))))))) (match yI with
  |.cons _ (.cons a (.cons b (.cons c (.cons d (.cons e (.cons f (.cons g (.cons h (.cons (.for t i _) r)))))))))=>.cons a (.cons b (.cons c (.cons d (.cons e (.cons f (.cons g (.cons h (.cons (.for t i ybI) r))))))))
  |_=>.nil):=rfl
 rw[hR];erw[yI,yU,xs_cons,xs_nil,x_asg,x_ite,x_ret,x_for,evi,r1,r2,toL,IC.ve1,IC.ve2,IC.ve3,IC.ve8,IC.ve11,IC.ve16,IC.ve18,evs,bd_ok,fl_ok,toR_some,bT_n,nxO_some,th_nx,th_rt,A5,A6,AN,AM,b_sub,b_div2,c_lt,c_eq,c_gt,on_t,t_bl,k1,k2,k3,k4,decide_false,cond_false,e1,hd,hf,AS,Ar,BW,Bj,sizeMax,CV,if_true]
theorem worth(k:Nat){n:Nat}{ns:List Int}(hns:ns.length<=1000)(w z:Nat)(hw:4<=w)(hw2:w<=16)(hz:1<=z)(hz2:z<=4){st:SO}(h:Drw ns n st):
  ∃x st',0<=x/\x<2^(w*z)/\Onl ns n st st'/\yc T (k+4) zeq [.loc n,.int w,.int z] st=.ok (.int x) st':=by
 let⟨kd,s1,d1,d2,o1,e1⟩:=yaW k hns (m:=12) (by lia) (by lia) h;have h1:=o1.drw h;have hwz2:w*z<=64:=BH hw2 hz2;have hwz:4<=w*z:=BH hw hz;have hm:(16:Int)<=2^(w*z):=by
  have h:(2:Nat)^4<=2^(w*z):=Ai (by lia) hwz;have h2:=pw (w*z);lia
 have hm2:(2:Int)^(w*z)<=18446744073709551616:=by
  have h:(2:Nat)^(w*z)<=2^64:=Ai (by lia) hwz2;have h2:=pw (w*z);lia
 have hwa:(w:Int).natAbs<18446744073709551616:=by lia
 have hwm:(w:Int)*(z:Int)=((w*z:Nat):Int):=by simp
 have r1:ybL (.int ((w*z:Nat):Int))=AA (yp (w*z) 0 1):=zbp _ (by lia);let⟨u,hd,_⟩:=dbl (call:=yc T (k+3)) (i:=4) (j:=5) (by lia) (w*z) 0 [AA (.loc n),AA (.int w),AA (.int z),AA (.int kd),AA (.int 1),AD,AD,AD,AD,AD,AD,AD,AD] 1 s1 rfl;erw[A5,A6,CW]at hd;have key:∃x st',0<=x/\x<2^(w*z)/\Onl ns n s1 st'/\exs (yc T (k+3)) [AA (.loc n),AA (.int w),AA (.int z),AA (.int kd),AA (.int (2^(w*z))),u,AD,AD,AD,AD,AD,AD,AD] s1 yI=.rt (.int x) st':=by
  rcases (by lia:kd<6 \/ (kd=6 \/ kd=7) \/ (kd=8 \/ kd=9) \/ 9<kd)with q|q|q|q
  .let⟨x,a,b,e⟩:=zgw (c:=yc T (k+3)) (n:=n) (w:=w) (z:=z) (st:=s1) (u5:=u) (u6:=AD) (u7:=AD) (u8:=AD) (u9:=AD) (u10:=AD) (u11:=AD) (u12:=AD) d1 q hm;exact⟨x,s1,a,b,h1.refl,e⟩
  .exact zgJ k hns h1 q (by lia) (by lia) (by lia) (by lia) (by rw[hwm,CK])
  .exact zfo k hns h1 q hw hw2 hz hz2 rfl
  .exact zhd k hns h1 q hm hm2
 let⟨x,s2,a,b,o2,e2⟩:=key;refine⟨x,s2,a,b,o1.trans o2,?_⟩;have hT:T zeq=AA ⟨3,13,AC,yU.body⟩:=rfl;have hb:yU.body=.cons (.asg (.n 3) (.call 105 (.cons (.var 0) (.cons (.cst (.int 12)) .nil)))) (.cons (.asg (.n 4) (.cst (.int 1))) (.cons (.for (.n 5) (.range1 (.bin .mul (.var 1) (.var 2))) (.cons (.asg (.n 4) (.bin .mul (.cst (.int 2)) (.var 4))) .nil)) yI)):=rfl;rw[yc,hT,hb];erw[AS,Ar,BW,Bj,if_true,BA,if_false,AL,Aa,Ba,Ae,Ab,As];rw[xs_cons,x_asg];erw[IC.ve18,IC.ve1,IC.ve2,evs,AN,AM,bd_ok,fl_ok,e1,bT_n,nxO_some,th_nx,A5,A6];rw[xs_cons,x_asg];erw[IC.ve1,bd_ok,fl_ok,bT_n,nxO_some,th_nx,A5,A6];rw[xs_cons,x_for];erw[evi,IC.ve2,IC.ve3,AN,AM,bd_ok,fl_ok,zaA hwa,hwm,r1,toL,toR_some,hd,th_nx,e2]
theorem places(k:Nat){n:Nat}{ns:List Int}(hns:ns.length<=1000)(w z:Nat)(hw:4<=w)(hw2:w<=16)(hz:1<=z)(hz2:z<=4){st:SO}(h:Drw ns n st):
  ∃(s:Nat) (st':SO),s<=100/\Onl ns n st st'/\yc T (k+4) zc7 [.loc n,.int w,.int z] st=.ok (.int s) st':=by
 let⟨d,s1,d1,d2,o1,e1⟩:=yaW k hns (m:=12) (by lia) (by lia) h;have hwm:(w:Int)*(z:Int)=((w*z:Nat):Int):=by simp
 have hwa:(w:Int).natAbs<18446744073709551616:=by lia
 have hK:4<=w*z:=BH hw hz;have hT:T zc7=AA za7:=rfl
 by_cases h8:d<8
 .have hv:∃v:Int,0<=v/\(∀st,idxV st (.tup [.int 0,.int 1,.int ((w:Int)-1),.int w,.int ((w:Int)+1),.int (((w*z:Nat):Int)-1),.int ((w*z:Nat):Int),.int (((w*z:Nat):Int)+1)]) (.int d)=AA (.int v)):=by
   rcases (by lia:d=0 \/ d=1 \/ d=2 \/ d=3 \/ d=4 \/ d=5 \/ d=6 \/ d=7)with rfl|rfl|rfl|rfl|rfl|rfl|rfl|rfl
   .exact⟨_,by lia,λ_=>rfl⟩
   .exact⟨_,by lia,λ_=>rfl⟩
   .exact⟨(w:Int)-1,by lia,λ_=>rfl⟩
   .exact⟨(w:Int),by lia,λ_=>rfl⟩
   .exact⟨(w:Int)+1,by lia,λ_=>rfl⟩
   .exact⟨((w*z:Nat):Int)-1,by lia,λ_=>rfl⟩
   .exact⟨((w*z:Nat):Int),by lia,λ_=>rfl⟩
   .exact⟨((w*z:Nat):Int)+1,by lia,λ_=>rfl⟩
  let⟨v,v0,hv⟩:=hv;refine⟨(if v<100 then v else 100).toNat,s1,by split<;>lia,o1,?_⟩;have hmin:∀st,yar .min st [.int 100,.int v]=AA (.int (((if v<100 then v else 100).toNat:Nat):Int)):=λst=>by
   erw[yar,yd3]
   congr 2
   split<;>lia
  rw[yc,hT];erw[za7,AS,Ar,BW,Bj,if_true,BA,if_false,AL,Aa,Ba,Ae,Ab,As,xs_cons,xs_nil,x_asg,x_ite,x_ret,IC.ve18,IC.ve1,IC.ve2,IC.ve3,IC.ve8,IC.ve11,IC.ve16,IC.ve19,evs,AN,AM,bd_ok,fl_ok,toR_some,bT_n,nxO_some,th_nx,th_rt,A5,A6,zaA hwa,hwm,e1,c_lt,h8,decide_true,t_bl,on_t,cond_true,b_sub,b_add,sizeMax,CV,hv,hmin]
 .let⟨f,s2,f1,f2,o2,e2⟩:=yaW k hns (m:=101) (by lia) (by lia) (o1.drw h);let⟨s,rfl⟩:=zbz f1;refine⟨s,s2,by lia,o1.trans o2,?_⟩;rw[yc,hT];erw[za7,AS,Ar,BW,Bj,if_true,BA,if_false,AL,Aa,Ba,Ae,Ab,As,xs_cons,xs_nil,x_asg,x_ite,x_ret,IC.ve18,IC.ve1,IC.ve2,IC.ve3,IC.ve8,evs,AN,AM,bd_ok,fl_ok,toR_some,bT_n,nxO_some,th_nx,th_rt,A5,A6,zaA hwa,hwm,e1,e2,c_lt,h8,decide_false,t_bl,on_t,cond_false]
noncomputable def lB:Css:=match ybc.body with
 |.cons _ (.cons (.for _ _ b) _)=>b
 |x=>x
noncomputable def fB:Css:=match lB with
 |.cons _ (.cons _ (.cons _ (.cons _ (.cons _ (.cons _ (.cons _ (.cons (.for _ _ b) _)))))))=>b
 |x=>x
noncomputable abbrev wd4:PV:=.tp AC [.str "left",.str "right",.str "down",.str "roll"]
theorem zpr{d:Int}(d0:0<=d)(d1:d<4):∃up top,∀st,idxV st wd4 (.int d)=AA (.str (nmS up top)):=by
 rcases (by lia:d=0 \/ d=1 \/ d=2 \/ d=3)with rfl|rfl|rfl|rfl
 .exact⟨AB,AC,λ_=>rfl⟩
 .exact⟨AC,AC,λ_=>rfl⟩
 .exact⟨AC,AB,λ_=>rfl⟩
 .exact⟨AB,AB,λ_=>rfl⟩
theorem ziw(l:List Int):ybg (l.map .int) (l.map .int)=true:=by
 induction l with
 |nil=>simp[ybg]
 |cons a l ih=>simp[ybg,peq,ih]
theorem ziF(n:Nat)(l:List Int):ybr n (l.map .int)=true:=by
 induction l with
 |nil=>simp[ybr]
 |cons a l ih=>simp[ybr,shd,ih]
theorem zpj(ws:List Int)(a b c d:Int):yD .ne (dv ws a b c d) (dv ws a b c d)=AA (.bl AC):=by
 simp[yD,shd,ybr,peq,ybg,ziw,ziF]
theorem zmD(up top:Bool)(K s:Nat)(x:Int):-1<=uS up top K s x/\uS up top K s x<=1:=by
 cases up<;>cases top<;>erw[uS]<;>(try split)<;>lia
theorem zdV{m:Nat}{ns:List Int}(hns:ns.length<=1000){p0:Option PV}{st:SO}(h:Drw ns m st)(q2 q3 q4 q5 q6 q7 q8 q9 q10 q11:Option PV):
  ∃st' r3 r4 r5 r6 r7 r8 r9 r10 r11,Drw ns m st'/\exs (yc T 23) [p0,AA (.loc m),q2,q3,q4,q5,q6,q7,q8,q9,q10,q11] st lB=.nx [p0,AA (.loc m),q2,r3,r4,r5,r6,r7,r8,r9,r10,r11] st':=by
 let⟨d,s1,d0,d1,o1,e1⟩:=yaW 20 hns (m:=4) (by lia) (by lia) h;let⟨up,top,ix⟩:=zpr d0 d1;have h1:=o1.drw h;let⟨wi,zi,s2,a1,a2,a3,a4,o2,e2⟩:=sizes 19 hns (m:=4) (by lia) (by lia) h1;let⟨w,rfl⟩:=zbz (show 0<=wi by lia);let⟨n,rfl⟩:=zbz (show 0<=zi by lia);have h2:=o2.drw h1;have hw:4<=w:=by lia
 have hw2:w<=16:=by lia
 have hn:1<=n:=by lia
 have hn2:n<=4:=by lia
 let⟨s,s3,hs,o3,e3⟩:=places 19 hns w n hw hw2 hn hn2 h2;have h3:=o3.drw h2;let⟨x,s4,x0,x1,o4,e4⟩:=worth 19 hns w n hw hw2 hn hn2 h3;have h4:=o4.drw h3;have hK:1<=w*n:=by have:=BH hw hn;lia
 have hK2:w*n<=64:=BH hw2 hn2;have hW:(0:Int)<2^w:=A7 (by lia);have hP0:(0:Int)<2^(w*n):=A7 (by decide);have g:=gone 20 up top hs hK hK2 x0 x1 s4;have m1:=zf7 w n (by lia);have e5:yc T 23 zI [.int ((w*n:Nat):Int)] s4=_:=zdK 22 (w*n) (by lia) s4;have m2:yq .mod (.int (wS up top (w*n) s x)) (.int (2^(w*n)))=AA (.int (wS up top (w*n) s x%2^(w*n))):=zfE hP0;have e6:yc T 23 zee [.int (wS up top (w*n) s x%2^(w*n)),.int w,.int n] s4=.ok (.tp AC ((yj (2^w) n (wS up top (w*n) s x%2^(w*n))).map .int)) s4:=words 21 _ w n hw2 (by lia) s4;have e7:yc T 23 zfD [.int (wS up top (w*n) s x%2^(w*n)),.int ((w*n:Nat):Int)] s4=.ok (.tp AC [.int (bi (wS up top (w*n) s x%2^(w*n)==0)),.int (bi (decide ((2:Int)^(w*n)<=2*(wS up top (w*n) s x%2^(w*n)))))]) s4:=ends 21 _ (w*n) (by lia) s4;have C:=λt=>ydb 1 up top hs hw hw2 hn hn2 x0 x1 t;have R:=λt=>ygL 1 up top hs hw hw2 hn hn2 x0 x1 t;have A:∀t,yc T 23 zcQ [yaF up top w n s x,.int w] t=.ok (.bl AB) t:=λt=>
  ycI 20 hw2 (by rw[zY];lia) (zao hW _ _) (zmD up top _ _ _) (by decide) (ye2 _) (ye2 _) t
 have N:yD .ne (yaF up top w n s x) (yaF up top w n s x)=AA (.bl AC):=zpj _ _ _ _ _;have one:∀(a b c d e f g i:Option PV) (st:SO),exs (yc T 23) [p0,a,b,c,AA (.int w),d,e,f,g,i,AA (yaF up top w n s x),AA (yaF up top w n s x)] st fB=.nx [p0,a,b,c,AA (.int w),d,e,f,g,i,AA (yaF up top w n s x),AA (yaF up top w n s x)] st:=λa b c d e f g i st=>by
  generalize yaF up top w n s x=V at *;simp! [fB,lB,ybc,A,N]
 have ag:∀(ρ:IC.Env) (s:SO) (k:IC.Env->SO->Fl),yaq (.nx ρ s) k=k ρ s:=λ_ _ _=>rfl;have lp:∀(a b c d e f g i j:Option PV) (st:SO),yaU (yc T 23) (.n 11) fB [yaF up top w n s x,yaF up top w n s x,yaF up top w n s x] [p0,a,b,c,AA (.int w),d,e,f,g,i,AA (yaF up top w n s x),j] st=.nx [p0,a,b,c,AA (.int w),d,e,f,g,i,AA (yaF up top w n s x),AA (yaF up top w n s x)] st:=λa b c d e f g i j st=>by
  rw[zk (ρ1:=[p0,a,b,c,AA (.int w),d,e,f,g,i,AA (yaF up top w n s x),AA (yaF up top w n s x)]) rfl,one,ag,zk (ρ1:=[p0,a,b,c,AA (.int w),d,e,f,g,i,AA (yaF up top w n s x),AA (yaF up top w n s x)]) rfl,one,ag,zk (ρ1:=[p0,a,b,c,AA (.int w),d,e,f,g,i,AA (yaF up top w n s x),AA (yaF up top w n s x)]) rfl,one,ag,zw]
 have hb:lB=(match lB with
  |.cons a (.cons b (.cons c (.cons d (.cons e (.cons f (.cons g (.cons (.for t i _) r)))))))=>.cons a (.cons b (.cons c (.cons d (.cons e (.cons f (.cons g (.cons (.for t i fB) r)))))))
  |x=>x):=rfl
 have bt:∀(i j:Nat) (a b:PV) (ρ:IC.Env),yJ (.t [i,j]) (.tp AC [a,b]) ρ=AA ((ρ.set i (AA a)).set j (AA b)):=λ_ _ _ _ _=>rfl;have ad:∀a b c d:PV,yq .add (.tp AC [a,b]) (.tp AC [c,d])=AA (.tp AC [a,b,c,d]):=λ_ _ _ _=>rfl;have E1:yc T 23 zen [.loc m,.int 4] st=.ok (.int d) s1:=e1;have E2:yc T 23 zej [.loc m,.int 4] s1=_:=e2;have E3:yc T 23 zc7 [.loc m,.int w,.int n] s2=_:=e3;have E4:yc T 23 zeq [.loc m,.int w,.int n] s3=_:=e4;have G:yc T 23 zW _ s4=_:=g;have C:∀t,yc T 23 zd1 [.tp AC [.str (nmS up top),.int s],.int w,.int n,.int x,.int 0] t=.ok (yaF up top w n s x) t:=C;have R:∀t,yc T 23 zjH [.tp AC [.str (nmS up top),.int s],.int w,.int n,.int x,.int 0] t=.ok (yaF up top w n s x) t:=R;have hD:yaF up top w n s x=.tp AC [.tp AC ((yj (2^w) n (wS up top (w*n) s x%2^(w*n))).map .int),.tp AC [],.tp AC [.int (uS up top (w*n) s x),.int 0,.int (bi (wS up top (w*n) s x%2^(w*n)==0)),.int (bi (decide ((2:Int)^(w*n)<=2*(wS up top (w*n) s x%2^(w*n)))))]]:=rfl;refine⟨s4,AA (.str (nmS up top)),AA (.int w),AA (.int n),AA (.int s),AA (.int x),AA (.int (wS up top (w*n) s x%2^(w*n))),AA (.int (uS up top (w*n) s x)),AA (yaF up top w n s x),AA (yaF up top w n s x),h4,?_⟩;rw[hb]
 clear hb A N one e1 e2 e3 e4 g
 generalize yaF up top w n s x=V at *;generalize PV.tp AC ((yj (2^w) n (wS up top (w*n) s x%2^(w*n))).map .int)=ws at *;generalize bi (wS up top (w*n) s x%2^(w*n)==0)=z1 at *;generalize bi (decide ((2:Int)^(w*n)<=2*(wS up top (w*n) s x%2^(w*n))))=z2 at *;generalize wS up top (w*n) s x%2^(w*n)=v at *;generalize wS up top (w*n) s x=u at *;generalize uS up top (w*n) s x=o at *;generalize (2:Int)^(w*n)=P at *;generalize ((w*n:Nat):Int)=K at *;simp! [lB,ybc,E1,ix,E2,bt,E3,E4,m1,G,e5,m2,e6,e7,ad,<-hD,C,R,lp]
theorem zgG(l:List Int):nLs [PV.scr (l.map .int)]=true:=by simp[nLs,nL,noLocs_ints]
theorem zjD(ns:List Int)(hns:ns.length<=63):yc T 24 zi4 [.scr (ns.map .int)] []=.ok (.bl AB) []:=by
 let⟨o,e1,ho⟩:=fresh 22 ns hns [];have h0:Drw ns 0 [o]:=⟨0,0,AC,by lia,by rw[ho];rfl⟩;have e1:yc T 23 zem [.scr (ns.map .int)] []=.ok (.loc 0) [o]:=e1;have hl:ns.length<=1000:=by lia
 have ag:∀(ρ:IC.Env) (s:SO) (k:IC.Env->SO->Fl),yaq (.nx ρ s) k=k ρ s:=λ_ _ _=>rfl;let⟨s1,a3,a4,a5,a6,a7,a8,a9,a10,a11,h1,f1⟩:=zdV hl (p0:=AA (.scr (ns.map .int))) h0 (AA (.int 0)) AD AD AD AD AD AD AD AD AD;let⟨s2,b3,b4,b5,b6,b7,b8,b9,b10,b11,h2,f2⟩:=zdV hl (p0:=AA (.scr (ns.map .int))) h1 (AA (.int 1)) a3 a4 a5 a6 a7 a8 a9 a10 a11;let⟨s3,c3,c4,c5,c6,c7,c8,c9,c10,c11,h3,f3⟩:=zdV hl (p0:=AA (.scr (ns.map .int))) h2 (AA (.int 2)) b3 b4 b5 b6 b7 b8 b9 b10 b11;have hr:ybL (.int 3)=AA [.int 0,.int 1,.int 2]:=rfl;have lp:yaU (yc T 23) (.n 2) lB [.int 0,.int 1,.int 2] [AA (.scr (ns.map .int)),AA (.loc 0),AD,AD,AD,AD,AD,AD,AD,AD,AD,AD] [o]=.nx [AA (.scr (ns.map .int)),AA (.loc 0),AA (.int 2),c3,c4,c5,c6,c7,c8,c9,c10,c11] s3:=by
  rw[zk (ρ1:=[AA (.scr (ns.map .int)),AA (.loc 0),AA (.int 0),AD,AD,AD,AD,AD,AD,AD,AD,AD]) rfl,f1,ag,zk (ρ1:=[AA (.scr (ns.map .int)),AA (.loc 0),AA (.int 1),a3,a4,a5,a6,a7,a8,a9,a10,a11]) rfl,f2,ag,zk (ρ1:=[AA (.scr (ns.map .int)),AA (.loc 0),AA (.int 2),b3,b4,b5,b6,b7,b8,b9,b10,b11]) rfl,f3,ag,zw]
 have hT:T zi4=AA ⟨1,12,AB,ybc.body⟩:=rfl
 have hb:ybc.body=(match ybc.body with
  |.cons a (.cons (.for t i _) r)=>.cons a (.cons (.for t i lB) r)
  |x=>x):=rfl
 rw[zc hT rfl rfl (zgG ns)];dsimp only;rw[hb];simp! [ybc,e1,hr,lp,znQ]
end WK
namespace WK
open PySem L2 IC
theorem walk{l:Ef}{q:A8}{loose:List AQ}{XP:(AQ->Option AG)->BB->Prop}{YP:Aj->BB->Prop}{d:DefRec}{K:Params->AE}(hn:l.most=AA 63)(hdf:d.params.defaults=[])
  (hY:∀(w:Aj) (h:BB),YP w h->(K w.params).In h)
  (F:∀(w:Aj) (mg:AQ->Option AG) (fa:AI) (h:BB),(K w.params).In h->h.Ns mainGlobals mg->mg d.name=AA (.ref fa) ->
   ∃fd:BC,(∀(s:AJ) (u:AG),FP s fd ⟨[u],[]⟩ [("_law_script",u)])/\∀base:BB,(K w.params).In base->base.Ns mainGlobals mg->yaJ l.prog w (K w.params) mg base (CX1 l.prog w) (2*24) fa fd ["_law_script"] (spX (K w.params) (yc T 24) zi4)):
  G8 q loose XP YP l.row.toRowW d [] (λf vs=>Gh f vs):=
 L2.walk_of (n:=63) (k:=2*24) (x:="_law_script") (CX:=λw=>CX1 l.prog w) (sp:=λw=>spX (K w.params) (yc T 24) zi4) hn (by decide) hdf ⟨rfl,by decide,by decide⟩ hY F (λw H a ns hl _ hS=>ziB zjD hl hS) λ_ _ _ _ _ z=>zmV z
end WK
end
open PySem PySem.W PyProof.Rows
theorem PySem.Challenge.cw_widewords_k26_shifts_reckoned_holds : PySem.Challenge.rw_widewords_k26_shifts_reckoned.Holds := by
 refine hh.hd (by rfl) (by rfl) (by rfl) ?_
 k_fill
 refine WK.walk (l:=PySem.Challenge.rw_widewords_k26_shifts_reckoned) rfl rfl (λw h Y=>Y) ?F
 case F =>
  intro w mg fa h KX G hmg
  refine' L2.all_mk2 (t:=WK.tbQ) KX G hmg ?R ?B ?D WK.kb_all ?Ml WK.ok_all WK.T_ok (L:=118) rfl 24
  case R =>
   repeat' (first|exact trivial|apply And.intro|(refine' L2.rowFn ?a9 ?l9 ?c9 ?p9 ?b9;(case a9|l9|c9|p9=>k_is);(case b9=>((repeat intro _);first|rfl|kernel_rfl)))|(refine' L2.rowMe ?z9 ?a9 ?i9 ?l9 ?c9 ?p9 ?b9;(case z9=>((first|rw[WK.cn_20]|rw[WK.cn_21]);k_is));(case a9|i9|l9|c9|p9=>k_is);(case b9=>((repeat intro _);first|rfl|kernel_rfl)))|(refine' L2.rowIni ?z9 ?a9 ?i9 ?l9 ?c9 ?p9 ?b9 ?m9 ?k9;(case z9=>((first|rw[WK.cn_20]|rw[WK.cn_21]);k_is));(case a9|i9|l9|c9|p9=>k_is);(case b9=>((repeat intro _);first|rfl|kernel_rfl));(case m9|k9=>k_is))|(refine' L2.rowFd ?a9 ?l9 ?c9 ?p9 ?d9 ?e9 ?v9;(case a9|l9|c9|p9|d9=>k_is);(case e9=>rfl);(case v9=>(repeat first|exact .nil|refine .cons ⟨_,rfl⟩ ?_))))
  case B=>kernel_rfl
  case D =>
   repeat' (first|exact trivial|apply And.intro|intro _|(refine' L2.gd_mk KX G ?a9 ?l9 ?s9 ?r9 ?n9;(case a9|l9=>k_is);(case s9=>rfl);(case r9=>(repeat first|exact .nil|refine L2.con_row (by kernel_rfl) ?_));(case n9=>decide +kernel)))
  case Ml =>
   repeat' (first|exact trivial|apply And.intro|(refine' L2.gdf_mk KX G ?a9 ?l9 ?r9 ?n9;(case a9|l9=>k_is);(case r9=>(repeat first|exact .nil|refine L2.frow_cons (by kernel_rfl) ?_));(case n9=>decide +kernel)))
