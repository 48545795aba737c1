import PyProof.Rows.All
import OpenK.KLine
import Open.Tops
import Wide.FinOn
import KE.KRevSl
import KE.KItem
import KE.KxWritten
import KE.KFromBytes
import KE.LcSums
import KE.KBits
import KE.KTryMore
import PySem.Challenge.RW_widewords_k49_led_reckoned
set_option Elab.async false
set_option linter.all false
set_option maxRecDepth 100000
set_option maxHeartbeats 0
set_option genSizeOf false in
set_option genInjectivity false in
structure PySem.W.Fast:Prop where(tw17352856536485648358 tw17501445035159614353 tw12433933510806298598 tw14131913689351635031 tw17722986984586103475 tw13573649647317781166 tw2724214404468995349 tw5438420506860424400 tw6418093866988244070 tw16840424161416107977 tw6373803419043199112 tw9020057485146375715 tw2433253121808772699 tw3597972740582964924 tw4465001371569168724 tw2010815383324722238 tw14458858951586447837 tw2815794414308850309 tw2289227165527845286 tw4316932895074977216 tw13577986803701177882 tw1522082557516990712 tw2696064377121447119 tw9175941719166009667 tw5089999063709493707 tw16764509060719900824 tw13597470158578976935 tw8989679771776387310 tw15964041948721312375 tw10213471607673486355 tw12323080486271916005 tw5312017536638525810 tw1341505363756704417 tw2351708991910388137 tw3717779660887542868 tw16436329227984925024 tw11716195134796020282 tw9362677646030349790 tw6352262416112046846 tw6740807744745831750 tw15537014073437369996 tw2127116463357391654 tw12308580808199778945 tw7552581025367750120 tw10354263622649633236 tw15070578781303725574 tw15697459081812743325 tw750605505254173074 tw6745652045969501361 tw448990400732263069 tw16061454563314523600 tw12187138681234678798 tw18147923242224507009 tw5129217402254772574 tw6101794914781145873 tw15645147349408745078 tw1532961823045090830 tw9680107251214424674 tw11779378607533905691 tw8626312067022777976 tw6168491156848564842 tw2310272613068765105 tw16122108536607304551 tw14091262711897946140 tw654055398921710415 tw752438664001856161 tw11082812747291037333 tw17720613791313187736 tw5185982266611357009 tw4923779845908541559 tw9790649181096081399 tw6734849453552688564 tw9267568783840577065 tw8436868531053796497 tw5011930110546313330 tw8562205623962804692 tw15259509715645699510 tw3126575167722991183 tw1905772203481599526 tw16521228487361109960 tw9466978497050625272 tw17297750520304798702 tw6561076195511282648 tw11329907618339855656 tw7973466089612851703 tw14067956104923610961 tw15283259542579778483 tw5573054129394731108 tw2580330301676670286 tw7970886147393467727 tw8192583951263878293 tw8091528771294299083 tw593154161239807349 tw15925884774848638539 tw13605959877037247101 tw5708248302522452901 tw9880144863136665317 tw13703530262398524310 tw15312110128046668232 tw11157865615647520782 tw17167420918584729690 tw12815578351764122133 tw9182206099413781431 tw10466694501327556581 tw5561274596613702746 tw6675604519141323197 tw9345118766124063310 tw5889941615753360478 tw11817492848182363798 tw17410421224534750018 tw7223095733880219677 tw14640650900510780824 tw5567724515687483806 tw3542792289930221973 tw5739863396237439856 tw10717977555466424854 tw8995123519885258671 tw5049869711987376827 tw2441447004000104453 tw8342172876442170773 tw7028225589164417458 tw12303165638208747336 tw16198177631839167884 tw4996844450624648172 tw10436990433708714241 tw5390563228312902539 tw5952483381859902644 tw3852633777274326999 tw9039307958484224623 tw15162826718409981836 tw3302306539294976881 tw14580111125152651796 tw11417629631682569598 tw16698689882059351459 tw15150759425779355464 tw18035930347264632125 tw13255872071489105159 tw1618409403174988130 tw12228868706382062411 tw6624904034936694174 tw17735916753482363243 tw54808207327172279 tw17163543078423377260 tw4120436156372486140 tw17476884725684326406 tw13335893356662817074 tw4444971835621942301 tw789734580427512384 tw14569029988729114219 tw15647769117918999185 tw14331983658757590299 tw3651800198494138915 tw9416002814540056859 tw7780312629314296965 tw17909291492413470969 tw4168269683669014455 tw17112510534939434542 tw16442550531236264377 tw18131391131952023913 tw17797426056391692211 tw1752967457713245757 tw14457428904612349136 tw10826732444876824988 tw3957207093464744032 tw2978628016885725288 tw10654058358423391425 tw1242905382749578199 tw7348922380460221092 tw10918529252159416827 tw9389706305465542553 tw2965109861153113570 tw4157262802141006972 tw2819549192751068288 tw16581308347557603854 tw5773814013873212246 tw802645413960178138 tw1582173516228871956 tw13481020170127973795 tw3222086975871703386 tw1550230210963305730 tw2269138047626845249 tw8200293459175095921 tw6149423695415421339 tw17130843029531595728 tw10803423037944932682 tw14807498947087199244 tw10672002925225789591 tw4307902166805345004 tw13693096086628781159 tw5380664027610943987 tw3778500213534664882 tw17340066273884552816 tw18346615992657287051 tw14794936708631394782 tw3031286205281384764 tw15845214038335919750 tw3174924361409397397 tw14877714404705655619 tw15534396628898157171 tw6544737245984256064 tw9200846388616832367 tw5492422498956753010 tw11320194814380737366 tw1563789891762635815 tw1233770109334016127 tw8483105620745892392 tw11448742890223683347 tw14241848420371668517 tw17507761682557355746 tw5316410255880775840 tw7030332369262788751 tw16175285714597692907 tw16850455087879383335 tw8786051613248936359 tw6143335100185422240 tw16206952661805767202 tw9567145047579820409 tw6698644802712306537 tw15934789435634450509 tw12491141326765347019 tw1696097441216801948 tw13699463533208147161 tw5966873598933442182 tw1961110225800038482 tw11216164752880912310 tw12981955486561307926 tw1753935816099273879 tw9210964851012538783 tw9592567562754665029 tw311685879581416826 tw1626557823902672064 tw6072308606490191277 tw13670082781186655400 tw6622135302517430502 tw14366920098906632382 tw9350451523308087087 tw16901242856889324691 tw17105822191235576735 tw18235836915696374897 tw1599176971146858501 tw2365579239093697023 tw9847704575213224892 tw15263485436315485370 tw11444394566561475251 tw2031733214490579378 tw16948088088956647958 tw9720650203602067064 tw6527323338155185875 tw13832087547014170943 tw15878027575133335653 tw12056346347880187432 tw9855350169036440549 tw12191630553014149410 tw1088313200485623686 tw2751677275665357524 tw17925231626165231585 tw6850743926296346967 tw247964298705867921 tw14563211494612403951 tw1571919408373382669 tw12647136579125757682 tw3339497799937809942 tw3902757761024004683 tw12100707499548617414 tw3780001855444076050 tw5271571001299944920 tw13075231638252992524 tw11048864268651714548 tw8319440787142542629 tw6075837542192655294 tw8733449582169917568 tw5886654833632751735 tw15595214026066185074 tw2688406772043981825 tw5788204473223973208 tw2236457466782828971 tw2206674617340209263 tw2840551374051877113 tw4805237275735891490 tw13709217359018609313 tw4113497991575161617 tw1990718616686432936 tw12101534726851801115 tw4478501002940122948 tw12159736508886246573 tw8669833893086449374 tw11655251739350833773 tw8107612540687217688 tw12841172806580316672 tw11511328046840713216 tw788645269016334503 tw11518184940302987229 tw9970758901812704430 tw6056348806938525801 tw2178312665283535936 tw17382162041939834524 tw15860773704497068418 tw10557618931979500805 tw1495440921198893027 tw4432842909774592832 tw8184227298896362405 tw9862643604784865581 tw12591378939658819524 tw2536328534915427841 tw12870755326679053758 tw3697459633978537656 tw9657990727503916987 tw10139332169275260791 tw2548459444309003736 tw192782855261624807 tw8906496763717830966 tw10369230246760778827 tw1986469305205400209 tw14204416950415352490 tw14087302887064553529 tw11661759595263590503 tw11084091466217188352 tw14877492334221894189 tw10351155561615048713 tw15418686099946527272 tw4194595099649945054 tw13185650025629854529 tw2027433577321639647 tw13158628905532856353 tw17505471252570692260 tw8291627525567407867 tw8556598211421083445 tw17562069310855413630 tw7780328878939157708 tw14181293976253644971 tw12026095654445335744 tw13808512491548369684 tw114494308963946295 tw10895429292365701931 tw9574163251441335199 tw15176837279524226489 tw7029876209317467555 tw1070984420159437405 tw1553744872754693433 tw12505265449848823975 tw9355585569579117136 tw5329088867876635310 tw15462369890803881173 tw4993315282978365698 tw13133524973307406208 tw4179450522300942431 tw18140093861370545971 tw12496842997366738230 tw12983956399234724022 tw12805629457819941286 tw5205002636088153263 tw4134312798566120486 tw2826004078001563337 tw3466651090730796887 tw9655511707991044424 tw2287444693944994165 tw11117445812460620440 tw17439486622910256897 tw8342078435294606419 tw8797653637786853076 tw15007136737142558984 tw11900432044341057930 tw11297272167002741671 tw5080145144606549071 tw12911447877560959206 tw8110156208424419339 tw953520647093614944 tw3834165070575898882 tw8063789356271210502 tw1628942388047441662 tw2000785555065253899 tw48686695794242575 tw3055981537312078362 tw13558610743512336296 tw7526939644096181624 tw18201312107227816613 tw13627279357824365725 tw9372932121139205581 tw14149860016501139818 tw15843341650585301690 tw10619658491184011225 tw13424154604234673714 tw13248288177647199948 tw5958776299810992909 tw12809068782939836718 tw1801267412234140250 tw12323035755679043967 tw13739450958315606862 tw12695731556846408718 tw15484406154805325491 tw14342364008174229740 tw14871563320223006402 tw5108597979869597774 tw5249146909258538878 tw8023734693028618120 tw16829380089801686066 tw14480262190888499210 tw18346478467203656120 tw495084152580788794 tw2953007921181985512 tw3148208126549204277 tw8401443395822054238 tw615072531727571636 tw590490439289554800 tw12833540614973978253 tw13319705876821082479 tw5071804333351567996 tw15673563534577402498 tw13815071778248329743 tw2981791288886506484 tw1572595743844150106 tw7685949232245152115 tw17257781062815145199 tw2310827451806575318 tw684760755586064656 tw2315543651219258063 tw9965289285993471977 tw1774147614146457137 tw8064990407692974833 tw12993437470260510503 tw11076441677482103539 tw11810136509266377749 tw3276794581000279552 tw3360260801725609871 tw16646931701522205284 tw13787258160693333035 tw3077007119512994227 tw5354360498881411202 tw5895218923721334061 tw2693472212334097190 tw409655349709699299 tw9498228343905060117 tw4988321115109940107 tw6384643481901947826 tw10735665296796880959 tw7545453670624027617 tw6589938440655935823 tw12974312583582906245 tw13323629282059488981 tw7626756780258101141 tw7785726707611269786 tw4835466771722829248 tw16116952104249711310 tw16163680277015801030 tw15536513308208734960 tw14038005908512170088 tw7991207017794194025 tw14184467701137436587 tw16417890638488893870 tw13325124806682116295 tw1142392611777735346 tw13294722493017337602 tw8918959600964062374 tw15192841313889262746 tw16170138128854746636 tw16174307025181202980 tw11707943371807345274 tw8622686061594521380 tw3665380614478142829 tw4361125656219466673 tw7321418960309904515 tw13780136072775827855 tw1594793893503453893 tw10914371828126310825 tw12232619621915467131 tw7628263935256989038 tw153616830396596192 tw11559836935408913907 tw17220816654056083905 tw3897016617105980380 tw15953724855770509438 tw9882759102045041311 tw14574512368588812840 tw9723556022253648703 tw769462280273178572 tw17788880172792000847 tw16499760573479857330 tw2694295022185681190 tw11338365945279348717 tw8759058849333832633 tw11226463906135622587 tw7599680823732512326 tw1209099094962795637 tw8201920753262730850 tw5050019773167095594 tw13309923623493761440 tw18147806824838689118 tw15183058526264325909 tw2173911856237870971 tw9581821186569962662 tw17130723171895824914 tw12647420264635992537 tw9429656051502448864 tw10928819208392832350 tw1212358857001135629 tw12776853969898225152 tw2934404023404333527 tw16507742586757394042 tw15436511101348624380 tw5253166122939080296 tw10988162821091254761 tw13062425998050885610 tw16039442686953556366 tw13861036035183539285 tw6729012981783299524 tw5912449074760382424 tw3304138260518288489 tw15236873973230520739 tw9422447191466986781 tw11762903752503825370 tw6424146947358513451 tw11358156524562219764 tw6168648272645303290 tw16113969319296386708 tw12836485860765926064 tw2264411206990649955 tw7875118161524022348 tw1771999808940819151 tw899298151665813705 tw12244209466030377387 tw8970680763130457906 tw485427122105910430 tw10476123971517727477 tw14886667108376315155 tw15178945573846111014 tw18008690824570642681 tw1352095284795310827 tw5997686088359673567 tw13392419701798297154 tw3068651747445644057 tw16090522807595980147 tw2962628025727858866 tw9891095733477041174 tw3799253556456285047 tw14951384679242750910 tw3572306983029775310 tw15124482423286596787 tw4257897678770508143 tw7425620948144890771 tw4556685651435346171 tw2179463915664975525 tw2685709643822260524 tw9790113313602042497 tw1269155832154509893 tw5380295692105358877 tw13332852338373324403 tw5897004601692437730 tw12990848547247109262 tw15240260594594781325 tw5366060531880530977 tw10706299506708812363 tw4726845213716658285 tw9733475938564482410 tw17472204111622721608 tw4615751886673686786 tw15984727769151618524 tw4863013417024947779 tw12901475559525320308 tw11378199213595004224 tw4490716955266159199 tw8903671681460929185 tw8520480858943002094 tw16742610520011708688 tw3872071015157041649 tw6140709812094054868 tw8993314577990311716 tw16098313094250600158 tw16313131488411888676 tw14571789200251484566 tw6470812695918324923 tw17547462977038186487 tw4883397531845720033 tw9785605064944598279 tw7733160769546639675 tw3352916689684897803 tw8517891463458528822 tw12700217749943612174 tw16652872119723111661 tw4786264732434104848 tw7037146364892385933 tw14965911987137199636 tw6140807837865115794 tw2269703533574537617 tw10544967330592067922 tw9758309417128867488 tw10512740645049168241 tw9267382499068768574 tw6385237720950883033 tw7936297626153366115 tw4009380575958938474 tw1371306722597778059 tw16994207478885323284 tw10948467542879980505 tw4744832317640038553 tw17247679821589169343 tw15149481917302591594 tw4664770484603832080 tw5430659896398644492 tw3812734020532002039 tw16126748573178260963 tw1979418410175495249 tw9490996849847900260 tw2669255403639617151 tw10187726310770499430 tw1941992381251354050 tw3537941682728066994 tw9990712039368613409 tw18202541937634533989 tw11486047542450841637 tw2297663232014250521 tw14412635021168483880 tw2359259168582285404 tw16466979686895061734 tw8407226501021743375 tw17561122773858037702 tw3216117607194981906 tw8289064032994899405 tw3949742381740985518 tw13773941317152624878 tw13769493727825573419 tw4674775060864841063 tw12495027362111783010 tw8289893106801500250 tw7080582312378537577 tw9622134571904548649 tw411486824623413042 tw5360091588959723825 tw1721925581538952452 tw10287223331200586665 tw18369215970256586962 tw1272037377990707109 tw5675290922758077973 tw12341125843199951559 tw17830223648618266926 tw7771520154507781997 tw3954762661889685913 tw12737114500870076649 tw10922182629180306967 tw13434884827762916885 tw8097811588498672230 tw16797651755852004649 tw10791596132746189423 tw394707929166619212 tw1690310639500029519 tw7286652661450194218 tw5730617389397354232 tw4871582847746283424 tw298819542266534292 tw338128054812225888 tw15068163418233887341 tw12661049965392215617 tw11626700428221884447 tw16102801825892333933 tw11458336211091491564 tw5177853912573796 tw3537295947545787491 tw16224285814017989099 tw5295766541248057210 tw13574551886524554995 tw11188340022127115815 tw10401990680948055906 tw4174675861434561607 tw10043922486801256841 tw1852180008994642156 tw14325795101811694374 tw6462873909461446173 tw15790295967233989196 tw5991407459675628831 tw7048054224402419457 tw9612399627751878911 tw1636555641455145908 tw16092334476325001287 tw4001661024397752410 tw7858248300330700789 tw7494392444694859472 tw7113910694163164697 tw9373800293827972440 tw14813036060351143438 tw2155630955460782090 tw6005774060096816464 tw15780276445439596406 tw11985229385414746011 tw9758578032657147971 tw584141817893985664 tw6098486934983190613 tw2750013220140242729 tw4721258233759344837 tw2690352079084590806 tw2043354815107335700 tw16448785977455733165 tw7925869950876056759 tw4958526827577763543 tw17195017686347265218 tw16358302246925629902 tw1936041089104976406 tw1544738172018053173 tw1552659550842923767 tw6836888416215140252 tw16444194056437649628 tw6172877883635828805 tw12944040450646350177 tw11492538793682245395 tw16661222208137025776 tw4683407088167996470 tw6267392039186307189 tw8672060155140077182 tw7302787244381815381 tw7060475149471807042 tw13074126413205101082 tw13929417247743030699 tw12820148952365223027 tw4343686324605165917 tw16895718298988567443 tw3184055084203843130 tw9358149877904981467 tw1365643252937495164 tw6956769527198923286 tw14648718757113805069 tw16168460549849317816 tw14664794304714113161 tw10134832283622773399 tw4080950183592519999 tw3288450119969101130 tw11589857238396545099 tw4987987055392027932 tw13676170047981001363 tw10303814130432727769:True)
open_shared sh for PySem.Challenge.pw_widewords_k49_led_reckoned leaving 0
namespace hh
open PySem PySem.W PySem.Calls PyProof.Rows
noncomputable abbrev p:=PySem.Challenge.pw_widewords_k49_led_reckoned
abbrev z:Pos:=⟨0,0,0,0⟩
abbrev an:Option Value:=some (.ref 6)
noncomputable abbrev bE:=behindTheImports p
noncomputable abbrev cE:Code:=.body bE sh.env_1
noncomputable abbrev H1(P:Params):Heap:=absHeap (sh.tree_1410 P) 1329 {}
noncomputable abbrev S0(w:World)(os:OsState):Shared:=⟨boot_heap w.params,⟨[]⟩,boot_drawn,boot_toks,os⟩
noncomputable abbrev Sb(w:World)(os:OsState):Shared:=SharedT.abs ⟨sh.tree_4 w.params,15,{},⟨[]⟩,{},187,os⟩
noncomputable abbrev Sk(w:World)(os:OsState):Shared:=SharedT.abs ⟨sh.tree_1410 w.params,1329,{},⟨[]⟩,{},2160,os⟩
theorem pre(w os):topGo treeTable p w 11 an 12 (S0 w os) (topStub p)=some (Sb w os,⟨denote treeTable cE,cE,z,[topFrame z]⟩):=by kernel_rfl
theorem blk(w os):segRun treeTable p w 11 an 1 1 (Sb w os) (blockOf bE sh.env_1 cE z [topFrame z])=some (.next,Sb w os,cE,z):=by kernel_rfl
theorem fin(w os):topRun treeTable p w 11 an 2 (Sk w os) (restOf [] sh.env_1 cE ⟨735,0,749,15⟩ [topFrame z])=some (Sk w os):=by kernel_rfl
theorem bod:bE=sh.sts_4++(sh.sts_21++(sh.sts_37++(sh.sts_53++(sh.sts_69++(sh.sts_85++(sh.sts_101++(sh.sts_117++(sh.sts_164++(sh.sts_245++(sh.sts_317++(sh.sts_397++(sh.sts_475++(sh.sts_569++(sh.sts_607++(sh.sts_661++(sh.sts_716++(sh.sts_780++(sh.sts_856++(sh.sts_941++(sh.sts_1014++(sh.sts_1073++(sh.sts_1107++(sh.sts_1159++(sh.sts_1164++(sh.sts_1251++(sh.sts_1329++[])))))))))))))))))))))))))):=by kernel_rfl
theorem run(w os):topRun treeTable p w 11 an (12+(1+(196+(214+(214+(214+(214+(214+(214+(400+(371+(397+(383+(385+(398+(160+(400+(311+(426+(398+(389+(371+(277+(397+(307+(164+(522+(385+(384+2))))))))))))))))))))))))))))) (S0 w os) (topStub p)=some (Sk w os):=by
 refine go_top (pre w os) (piece_block (blk w os) ?_)
 have h:=sh.chain p bE w os [] 2 (Sk w os) (fin w os)
 rw[<-bod] at h
 exact h
noncomputable def q:Program:=view p [233]
noncomputable abbrev lo:List Str:=p.boundNames
theorem look(w:World):(fun os=>((staticsOk (importedModules p.main.body) (boot_heap w.params) (H1 w.params) && namesBound p (H1 w.params) && gensDone (Sk w os) && laidKept (boot_heap w.params) (H1 w.params)),openSeen q lo (importedModules p.main.body) (fun _=>true) true (Sk w os),(Sk w os).heap))=fun _=>(true,openGood q lo,H1 w.params):=by kernel_rfl
theorem left:LeftO p q lo (fun _=>true) Shared.heap (fun w=>H1 w.params) 17482:=.of_pieces (boot_open (by kernel_rfl) (by kernel_rfl) fun s=>by kernel_rfl) (fun w=>by kernel_rfl) run (by kernel_rfl) look
theorem inA{t:BT}{n:Nat}{f:Life}{K:Frag}(h1:K.all (fun x=>Nat.blt x.1 n)=true)(h2:K.map (fun x=>t.get x.1)=K.map fun x=>some x.2)(h3:K.map (fun x=>alive x.2)=K.map fun x=>some x.2):K.In (absHeap t n f):=by
 intro a o e
 induction K with
 | nil=>cases e
 | cons x r ih=>
  obtain ⟨b,y⟩:=x
  simp only[List.map_cons,List.cons.injEq,List.all_cons,Bool.and_eq_true] at h1 h2 h3
  by_cases hb:(a==b)=true
  · rw[List.lookup_cons,hb] at e
    cases e
    have:=beq_iff_eq.mp hb
    subst this
    rw[abs_get (Nat.le_of_ble_eq_true h1.1) h2.1]
    exact h3.1
  · rw[List.lookup_cons,eq_false_of_ne_true hb] at e
    exact ih h1.2 h2.2 h3.2 e
local macro_rules
 | `(panic! $s:str)=>do
  let mut a ← `(List.nil)
  for r in (s.getString.splitOn " ").reverse do
   match (r.splitOn ",").map String.toNat! with
   | [x,l,i]=>for j in [0:l] do
    let j:=l-1-j
    a ← `(List.cons (nat_lit $(Lean.Syntax.mkNumLit (toString (x+j))),$(Lean.mkIdent (if i==0 then .str `PySem.W s!"boot_o_{x+j}" else .str `sh s!"o_{i+j}")) P) $a)
   | _=>pure ()
  `(fun P=>$a)
noncomputable def KK:Params->Frag:=panic! "2,1,0 3,1,1329 15,1,7 22,2,14 24,1,119 25,1,17 28,1,24 35,3,31 40,1,40 47,3,47 52,1,56 59,3,63 64,1,72 71,3,79 76,1,88 83,3,95 88,1,104 95,3,111 100,1,120 107,3,127 112,18,132 131,2,151 134,3,154 138,2,158 141,2,161 143,1,166 146,3,169 150,2,173 153,4,176 158,2,181 161,4,184 166,2,189 169,4,192 174,2,197 177,3,200 181,2,204 184,3,207 188,2,211 191,3,214 195,2,218 198,3,221 202,2,225 205,3,228 209,2,232 212,3,235 216,2,239 219,2,242 221,1,247 223,2,249 226,9,252 236,2,262 239,3,265 243,2,269 246,3,272 250,2,276 253,3,279 257,2,283 260,9,286 270,2,296 273,3,299 277,2,303 280,3,306 284,2,310 287,3,313 290,3,319 294,2,323 297,3,326 301,2,330 304,3,333 308,2,337 311,3,340 315,2,344 318,3,347 322,2,351 325,3,354 329,2,358 332,3,361 336,2,365 339,3,368 343,2,372 346,3,375 350,2,379 353,3,382 358,3,387 362,2,391 365,2,394 367,1,399 369,2,401 372,3,404 376,2,408 379,3,411 383,2,415 386,3,418 390,2,422 393,3,425 397,2,429 400,3,432 404,2,436 407,3,439 411,2,443 414,15,446 430,2,462 433,3,465 437,2,469 440,2,472 442,1,477 444,2,479 447,3,482 451,2,486 454,3,489 458,2,493 461,3,496 465,2,500 468,3,503 472,2,507 475,3,510 479,2,514 482,3,517 486,2,521 489,3,524 493,2,528 496,3,531 500,2,535 503,3,538 507,2,542 510,3,545 514,2,549 517,3,552 521,2,556 524,3,559 528,2,563 531,2,566 533,1,571 535,2,573 538,3,576 542,2,580 545,3,583 549,2,587 552,3,590 556,2,594 559,3,597 563,2,601 566,2,604 568,15,609 584,2,625 587,3,628 591,2,632 594,3,635 598,2,639 601,3,642 605,2,646 608,3,649 612,2,653 615,2,656 617,1,663 619,2,665 622,3,668 626,2,672 629,3,675 633,2,679 636,3,682 641,3,687 645,2,691 648,3,694 652,2,698 655,3,701 660,3,706 664,2,710 667,2,713 676,1,725 678,2,727 681,3,730 685,2,734 688,3,737 692,2,741 695,3,744 699,2,748 702,3,751 707,3,756 711,2,760 714,3,763 718,2,767 721,7,770 730,1,782 732,2,784 735,3,787 740,3,792 744,2,796 747,3,799 752,3,804 756,2,808 759,3,811 763,2,815 766,3,818 770,2,822 773,10,825 784,2,836 787,3,839 791,2,843 794,3,846 798,2,850 801,2,853 803,1,858 805,2,860 808,3,863 812,2,867 815,3,870 819,2,874 822,3,877 826,2,881 829,3,884 833,2,888 836,3,891 840,2,895 843,3,898 847,2,902 850,3,905 855,3,910 859,2,914 862,3,917 866,2,921 869,3,924 873,2,928 876,3,931 880,2,935 883,2,938 885,1,943 887,2,945 890,3,948 894,2,952 897,3,955 901,2,959 904,3,962 908,2,966 911,3,969 915,2,973 918,3,976 922,2,980 925,3,983 929,2,987 932,3,990 936,2,994 939,3,997 943,2,1001 946,3,1004 950,2,1008 953,2,1011 955,1,1016 957,2,1018 960,3,1021 964,2,1025 967,3,1028 971,2,1032 974,3,1035 978,2,1039 981,3,1042 985,2,1046 988,3,1049 992,2,1053 995,3,1056 999,2,1060 1002,3,1063 1006,2,1067 1009,2,1070 1011,2,1075 1014,2,1078 1017,3,1081 1021,2,1085 1024,3,1088 1028,2,1092 1031,3,1095 1035,2,1099 1038,2,1102 1040,1,1109 1042,2,1111 1045,3,1114 1049,2,1118 1052,3,1121 1056,2,1125 1059,3,1128 1063,2,1132 1066,3,1135 1070,2,1139 1073,3,1142 1077,2,1146 1080,3,1149 1084,2,1153 1087,2,1156 1089,1,1160 1097,1,1173 1099,2,1175 1102,3,1178 1106,2,1182 1109,3,1185 1113,2,1189 1116,3,1192 1120,2,1196 1123,3,1199 1127,2,1203 1130,3,1206 1134,2,1210 1137,3,1213 1141,2,1217 1144,3,1220 1148,2,1224 1151,3,1227 1155,2,1231 1158,3,1234 1162,2,1238 1165,7,1241 1174,1,1253 1176,2,1255 1179,3,1258 1183,2,1262 1186,3,1265 1190,2,1269 1193,3,1272 1197,2,1276 1200,3,1279 1205,3,1284 1209,2,1288 1212,3,1291 1216,2,1295 1219,3,1298 1223,2,1302 1226,3,1305 1230,2,1309 1233,3,1312 1237,2,1316 1240,3,1319 1244,2,1323 1247,2,1326 1249,1,1331 1251,2,1333 1254,3,1336 1258,2,1340 1261,3,1343 1265,2,1347 1268,3,1350 1272,2,1354 1275,3,1357 1280,3,1362 1285,3,1367 1289,2,1371 1292,3,1374 1296,2,1378 1299,3,1381 1303,2,1385 1306,3,1388 1310,2,1392 1313,3,1395 1317,2,1399 1320,3,1402 1324,2,1406 1327,2,1409"
theorem inK(w:World):InK KK w (H1 w.params):=inA (K:=KK w.params) (by kernel_rfl) (by kernel_rfl) (by kernel_rfl)
theorem hd{d:DefRec}{k:List (Str×Expr)}(a:defOf q "law"=some (d,k))(b:p.theDef "law"=some (d.params,d.body,d.scope))(c:kwWritten? d.params.kwonlyargs d.params.kw_defaults=some k)(h:WalkO q lo (fun _ _=>True) (InK KK) PySem.Challenge.rw_widewords_k49_led_reckoned.row.toRowW d k fun f vs=>PySem.call f vs):PySem.Challenge.rw_widewords_k49_led_reckoned.Holds:=by
 w_on;o_law
 refine holds_open left (YP:=InK KK) (XP:=fun _ _=>True) (fun w s e=>e ▸ inK w) InK.keeps (fun _ _=>trivial) (fun _ _ _ _ _=>trivial) a b c (fun s _=>recFacts_nil rfl) (by rfl) (by assumption) (by decide +kernel) ⟨rfl,rfl,rfl,rfl,rfl,by decide +kernel⟩ ?hw h
 w_witness2
end hh
set_option compiler.extract_closed false
set_option bootstrap.genMatcherCode false
set_option genSizeOf false
local macro_rules | `(tactic| ac_rfl)=>`(tactic| with_unfolding_all rfl)
open Option renaming some->AA,none->AD,isSome_iff_exists->Ar,getD_some->Bj,bind_some->Bk,any_eq_true_iff_get->Co,map_some->Db,get_some->Ex,getD_none->GJ
open Bool renaming true->AB,false->AC,and_eq_true->AK,false_ne_true->Aw,false_eq_true->BO,true_and->CY,and_self->Cg,not_eq_true'->Ci,or_eq_true->DA,eq_iff_iff->Da,false_and->Dt,true_or->El,false_or->F0,or_false->Gm,or_true->HA
open PySem.W renaming Frag->AE,keepIn->Ap,findIn->Au,nsIn->BL,kitOne->B0,fnOf->B4,emptyDict->B8,instObj->By,codeIn->CJ,kia_one->Cd,plainGet->Cp,isFn->Cq,hideAll->Cz,callWith_K->DB,hasDictIn->DD,makesIn->D6,plainGet_of->Dh,lookIn->Dw,methodObj->EJ,plainOver->EK,mg_of->EU,OpenLaw->Ec,cellsFrom_some->Eg,takerIn->Es,methodCall_KW->FA,hideAll_get->FQ,callWith_K0->FV,excIn->F1,of_hideAll->F6,handedIn->GE,WalkO->G3,Rel2->Gw
open PySem renaming Value->AF,wpAny_bind->AH,Addr->AI,Shared->AJ,Str->AR,Expr->AU,wpAny_pure->AV,wpAny->A1,Program->A5,World->Ai,Around->Ao,Heap->Az,FuncData->BA,wpAny_field->BU,wpAny_truthy_bool->BX,Env->BY,wpAny_Call_Name_kw->BZ,wpAny_callSpecial?_slot->Bg,Scope->Bl,wpAny_newObj_type->Bn,wpAny_pyIter_tuple->Br,Stmt->Bt,Obj->CA,DictEntry->CF,wpAny_passesOwn->CO,Pos->CP,wpAny_mono->CV,IsPair->CZ,Keyword->C2,mem_of_lookup->C3,noFill_tuple_add->C4,wpAny_call_entry->C5,wpAny_seqItems->C6,wpAny_setField_rec->Cb,seq_tuple_add->Cw,NameKind->DE,wpAny_inplaceOp_concat->DL,strKind_is->DU,wpAny_holding->DY,Operator->D1,sizeLine_eq->D2,wpAny_execs_nil->D5,codeAny_mono->Dj,wpAny_pyIter_list->EL,IsZip->EN,wpAny_standAt->ET,PassesOwn->EX,wpAny_rule->Ee,IsPart->Eh,wpAny_loadName_local->FD,wpAny_setField->FF,wpAny_updateSeq_pair->FG,BindsTo->FN,wpAny_loadName_cell->FR,CmpOp->FX,wpAny_onRaise->F2,call_meets->F8,tupleKind_room_in1->Fa,Within->Fc,concat_meets->Fi,wpAny_sequenceKey->Fj,wpAny_typeOf->Fk,slot_list_getitem->Fm,wpAny_pyIter_enum->Fr,ZipApart->Fu,wpAny_execs_cons->GB,wpAny_pyIter_zip->GP,wpAny_getItem_of->GQ,seqIndex_of->GT,Paired->G4,wpAny_Name->G7,Result->G8,wpAny_call->G9,typeIs_str->Gb,call->Gc,Sem->Gj,Builtin->Gu,BoolOp->Gy,Tok->HV
open PySem.Str renaming ofString->AG,empty->GF
open List renaming map_cons->AL,getElem?_cons_succ->AM,getElem?_cons_zero->AN,getElem?_set_ne->AO,length_cons->AS,size_toArray->AX,mem_cons_of_mem->AY,mem_of_getElem?->A2,mem_cons->A3,getElem?_set_self->A6,set_cons_zero->A7,set_cons_succ->A8,length_append->A9,map_nil->Ac,cons_append->Ae,replicate->Af,getElem?_append_left->Ag,getElem?_append_right->Ak,length_nil->Am,nil_append->Aq,append_nil->Ax,not_mem_nil->BB,length_map->BC,mem_cons_self->BE,mem_append_right->BF,getElem?_eq_some_iff->BJ,any_cons->BN,all_eq_true->BQ,getElem?_eq_none->BV,length_set->B3,flatMap_cons->B9,all_cons->Bb,mem_append->Bd,lookup_cons->Bi,append_assoc->Bp,lookup->Bu,getElem?_map->Bw,find?_cons->Bz,flatMap_nil->CG,range->CU,filterMap_cons->C1,length->C7,getElem?_set->Ch,getElem?_eq_getElem->Cy,reverse_cons->DG,filterMap->DH,set_set->DM,length_singleton->DO,mem_iff_getElem?->DQ,isEmpty_iff->DV,eq_nil_of_length_eq_zero->D3,nodup_cons->D7,foldl_cons->D9,map_append->De,mem_filterMap->Du,zip_cons_cons->EB,getElem?_eq_none_iff->EF,drop_eq_getElem_cons->EG,pairwise_iff_getElem->EH,ext_getElem?->EO,length_take->EZ,getElem?_replicate->E8,isEmpty_nil->Ea,any_eq_true->Eb,range_succ_eq_map->Eo,take_of_length_le->Ep,of_mem_zip->Et,forIn_cons->Eu,mem_append_left->FC,length_pos_iff->FW,sum_cons->F3,isEmpty_cons->Ft,mem_map->Fw,sum_nil->Fz,length_drop->GI,take_length->GL,drop_length->GM,zipIdx_cons->GN,mem_filter->GW,zipIdx_nil->G0,mem_range->G6,drop_zero->Ge,forIn_nil->Gf,set_comm->Gk,any_map->Gz
open PySem.Heap renaming get?_push_of_some->AQ,lt_size->AW,get?_push_size->A0,size_push->Bv,SameBut->C9,get?_update_other->DF,get?_update_self->Ey,IsTuple->Fp,MadeExcOf->Gd,FlyingW->Gv
open Nat renaming le_refl->AT,lt_of_lt_of_le->A4,ne_of_lt->Aj,pow_le_pow_right->An,mul_le_mul->Av,le_trans->BW,zero_add->B5,reduceSub->Bm,reduceAdd->Bs,lt_or_ge->CS,le_succ->Ck,reduceLeDiff->Cr,lt_irrefl->Cv,zero_le->DC,le_add_right->DS,and_two_pow_sub_one_eq_mod->DW,add_assoc->D0,mod_two_eq_zero_or_one->ED,ne_of_gt->Ef,mul_le_mul_right->FI,le_of_lt->Fd,succ_mul->Fx,lt_succ_self->GG,reduceEqDiff->GS,le_of_eq->Gr,xor_self->HB
open Option.some renaming inj->AZ
open Int renaming mul_comm->Aa,pow_succ->Ab,pow_pos->Ad,emod_lt_of_pos->Al,emod_nonneg->BD,emod_add_mul_ediv->BH,ediv_ediv_of_nonneg->BI,emod_eq_of_lt->BM,ediv_lt_of_lt_mul->BP,one_mul->BR,ediv_eq_zero_of_lt->BT,add_mul_emod_self_left->B1,mul_le_mul_of_nonneg_right->B6,ediv_nonneg->Bq,mul_assoc->CD,mul_nonneg->CM,toNat_natCast->CQ,zero_mul->CT,mul_le_mul_of_nonneg_left->C8,pow_zero->Cc,mul_one->Cj,le_of_lt->DN,le_ediv_of_mul_le->DR,mul_sub->D4,toNat_of_nonneg->Di,ediv_one->Dl,add_zero->Do,fdiv_eq_ediv_of_nonneg->Dv,sub_mul->EQ,pow_mul->ER,add_comm->En,add_mul_ediv_left->FB,natAbs_mul->FJ,zero_add->Fy,natCast_emod->GR,pow_add->GV,ediv_mul_le->G1,mul_le_mul->Gg,mul_zero->HC,add_mul->HI,mul_neg->HJ,mul_add->HK,le_refl->HL
open PySem.Value renaming ref->Ah,none->CH,bool->Dp,int->EW,type->Ed,str->GA,isStrOf->Gi,isInt->HD,bytes->HE,float->HF
open PySem.Builtin renaming bitAnd->As,bitXor->Ay,bitOr->B2,bitNot->FH
open PyProof.Rows renaming slot_tuple_getitem->BG,callWith_type1->CC,AllBare->DX,assignInOrder_cons->Ds,subscriptTail_builtinR->Ei,tupleItemsOf_->FO,IntsAre->FP,entry_tuple_getitem->FT,args_tuple_getitem->F7,assignInOrder_nil->Fe,callWith_builtin1->GH,boot_isinstance->GZ,iadd_int->G2,IsTup->G5,Subscript_->Ga
open Ne renaming symm->BK
open PySem.Builtin.SmallTypes renaming nextOf->BS,ownedTupleIsFree->Bc,ownedTupleHandOut->Cu
open PySem.PyData renaming eqv->B7,canLay0->Cn,depth->DJ,eqvAll->DZ,keyHash->EC,canLayAll0->EM,depthAll->Ew
open PySem.F renaming args_tuple_add_2->Ba,entry_tuple_add->Bf,slot_tuple_add->Bo,slot_tuple_iterator_next->CK,slot_dict_get->DP,args_tuple_iterator_next_1->D8,slot_zip_next->Dd,entry_tuple_iterator_next->Dm,slot_dict_getitem->EI,args_dict_get_3->E9,entry_dict_get->Em,slot_list_append->Ez,args_zip_next_1->Fv,entry_zip_next->GO
open False renaming elim->Be
open Array renaming length_toList->CB,append_assoc->Dq,getElem?_eq_some_iff->EA,toList->Gq
open PySem.Heap.FunFrames renaming mem->CL
open PySem.Builtin.Slice renaming slicePlaces->CN,sliceAdjust->Ct,sliceApplied->Dy,slicePartIndex->GX,sliceFields->Gh
open PySem.Builtin.Tuple renaming tupleExact->CW,tupleItemsOf->Dz
open PySem.Challenge renaming rw_widewords_k49_led_reckoned->C0,pw_widewords_k49_led_reckoned->EV
open True renaming intro->Ca
open PySem.NameKind renaming free->Cf,cell->FY
open PySem.Value.type renaming inj->Cm
open Eq renaming refl->DI
open PySem.Builtin.Str renaming strSliceIndices->Dn,occurrences->EY
open PySem.Calls renaming Name_function_global->Dr,spliced_cons->Dx,callWith_builtin->Ek,evalArgs_plain->FE,spliced_nil->Fh
open PySem.Paired renaming length->ES,snoc->HH
open PySem.Obj renaming mapSeq->Ej,data_mapFields->F9
open Sum renaming inl->FK,inr->FL
open PyProof.Rows.IsTup renaming new->FM
open PySem.Heap.SameBut renaming update->FU
open PyProof.Rows.LSm renaming kept_iter->FZ
open PySem.SeqAt.EqAt renaming int_str->F4,str_int->F5
open PySem.ScopeKind renaming function->Fb
open PySem.Around renaming under->Ff
open PySem.Code renaming isFrame->Fg,frames->HG
open PySem.WalksT renaming enumerateD->Fq
open PySem.Shared renaming heap->GU
open ForInStep renaming yield->GY
open PySem.Builtin.Range renaming rangeSize->Gn
open PySem.Heap.UpToSlots renaming of_keeps->Go
open And renaming intro->Gp
open PySem.SeqAt renaming shaped->Gx,EqAt->HP
open PySem.W.Looks renaming here->HM
open PySem.Heap.IsSliceOf renaming new->HN
open PySem.W.WShape renaming has->HQ
open PySem.Walks renaming list->HR
open PySem.Within renaming cons->HS
open List.Pairwise renaming nil->HU
open PySem.W.WData renaming int->HW
noncomputable section
open Lean in
def cnvP:Nat->Syntax->MacroM (TSyntax `rcasesPat)
 |0,_=>Macro.throwUnsupported
 |n+1,s=>do
  if s.isOfKind ``Lean.Parser.Term.anonymousCtor then `(rcasesPat| ⟨$[$(← s[1].getSepArgs.mapM (cnvP n)):rcasesPat],*⟩)
  else if s.isIdent then `(rcasesPat| $(⟨s⟩):ident)
  else if s.isOfKind ``Lean.Parser.Term.hole then `(rcasesPat| _)
  else Macro.throwUnsupported
local macro_rules | `(tactic| let $p:term := $e)=>do `(tactic| obtain $(← cnvP 9 p):rcasesPat := $e)
local macro_rules | `(tactic| erw [$rs,*] $(l)?)=>do
 let t<-rs.getElems.mapM λ|`(Lean.Parser.Tactic.rwRule| $t:term)=>`(Lean.Parser.Tactic.simpLemma| $t:term)|_=>Lean.Macro.throwUnsupported
 `(tactic| simp only[$t,*] $(l)?)
local macro_rules | `(fun $bs* => $b)=>do
 if !(bs.any λx=>x.raw.isOfKind ``Lean.Parser.Term.anonymousCtor)||(b.raw.find? λx=>x.isOfKind ``Lean.Parser.Term.syntheticHole).isSome then Lean.Macro.throwUnsupported
 `(by rintro $[$(← bs.mapM λx=>cnvP 9 x.raw):rcasesPat]*;exact $b)
set_option backward.eqns.nonrecursive false
namespace L2
open PySem PySem.Spec PyProof.Rows
abbrev Key:=Sum Int AR
def ybF:Key->AF->Bool
 |.inl k,v=>HD k v
 |.inr x,v=>Gi x v
def ygy(w:Ai):Key->Int
 |.inl k=>hashInt k
 |.inr x=>hashStr w x
theorem zD:∀{k:Key} {v:AF},ybF k v=AB->(∃i t,k=FK i/\v=EW i t) \/ (∃x t,k=FL x/\v=GA x t)
 |.inl i,v,h=>by
  let⟨t,e⟩:=Value.isInt_shape (k:=i) (v:=v) h;exact .inl ⟨i,t,rfl,e⟩
 |.inr x,v,h=>by
  let⟨t,e⟩:=Value.isStrOf_shape (x:=x) (v:=v) h;exact .inr ⟨x,t,rfl,e⟩
theorem zgQ(i:Int)(t:HV):ybF (.inl i) (.int i t)=true:=by simp[ybF,HD]
theorem zg7(x:AR)(t:HV):ybF (.inr x) (.str x t)=true:=by simp[ybF,Gi]
theorem zm9(a b:Int):decide ((FK a:Key)=FK b)=(a==b):=by
 by_cases e:a=b
 .subst e;simp
 .have h:¬(FK a:Key)=FK b:=λq=>e (Sum.inl.inj q);rw[decide_eq_false h];exact(beq_eq_false_iff_ne.mpr e).symm
theorem zna(a b:AR):decide ((FL a:Key)=FL b)=decide (a=b):=by
 by_cases e:a=b
 .subst e;simp
 .have h:¬(FL a:Key)=FL b:=λq=>e (Sum.inr.inj q);rw[decide_eq_false h,decide_eq_false e]
theorem zm0(a:Int)(b:AR):decide ((FK a:Key)=FL b)=false:=decide_eq_false (λq=>nomatch q)
theorem zmv(a:AR)(b:Int):decide ((FL a:Key)=FK b)=false:=decide_eq_false (λq=>nomatch q)
def yL(prog:A5)(w:Ai):PySem.KeyKind prog w Key where
 is:=ybF
 hash:=ygy w
 inj:=λv a b ha hb=>by
  rcases zD ha with⟨i,t,rfl,rfl⟩|⟨x,t,rfl,rfl⟩
  .rcases zD hb with⟨j,u,rfl,e⟩|⟨y,u,rfl,e⟩
   .injection e with e1 _;rw[e1]
   .exact nomatch e
  .rcases zD hb with⟨j,u,rfl,e⟩|⟨y,u,rfl,e⟩
   .exact nomatch e
   .injection e with e1 _;rw[e1]
 byValue:=λk v h=>by
  rcases zD h with⟨i,t,rfl,rfl⟩|⟨x,t,rfl,rfl⟩<;>rfl
 pyHash:=λhv h=>by
  rcases zD hv with⟨i,t,rfl,rfl⟩|⟨x,t,rfl,rfl⟩
  .exact wpAny_pyHash_int h
  .exact wpAny_pyHash_str h
 eqBool:=λhu hv h=>by
  rcases zD hu with⟨i,t,rfl,rfl⟩|⟨x,t,rfl,rfl⟩
  .rcases zD hv with⟨j,u,rfl,rfl⟩|⟨y,u,rfl,rfl⟩
   .rw[zm9]at h;exact wpAny_eqBool_int h
   .rw[zm0]at h;exact F4 i t y u _ _ _ _ h
  .rcases zD hv with⟨j,u,rfl,rfl⟩|⟨y,u,rfl,rfl⟩
   .rw[zmv]at h;exact F5 x t j u _ _ _ _ h
   .rw[zna]at h;exact wpAny_eqBool_str h
 «strs»:=λk x t v h=>by
  rcases zD h with⟨i,u,rfl,e⟩|⟨y,u,rfl,e⟩
  .exact nomatch e
  .injection e with e1 _;subst e1
   cases v<;>rfl
theorem zff(prog:A5)(w:Ai)(i:Int)(t:HV):(yL prog w).is (.inl i) (.int i t)=true:=zgQ i t
theorem ze8(prog:A5)(w:Ai)(x:AR)(t:HV):(yL prog w).is (.inr x) (.str x t)=true:=zg7 x t
inductive V where
 |non|bl (b:Bool)|int (i:Int)|str (x:AR)|byt (b:Array UInt8)|flt (b:UInt64)|ref (a:AI)|ty (n:String)
 deriving DecidableEq
def RelV:V->AF->Prop
 |.non,u=>u=CH
 |.bl b,u=>u=Dp b
 |.int i,u=>∃t,u=EW i t
 |.str x,u=>∃t,u=GA x t
 |.byt b,u=>∃t,u=HE b t
 |.flt b,u=>∃t,u=HF b t
 |.ref a,u=>u=Ah a
 |.ty n,u=>u=Ed n
abbrev Vals:List V->List AF->Prop:=G4 RelV
theorem Vals.length{xs:List V}{us:List AF}(r:Vals xs us):xs.length=us.length:=ES r
theorem Vals.get:∀{xs:List V} {us:List AF} {i:Nat} {x:V},Vals xs us->xs[i]?=AA x->∃u,us[i]?=AA u/\RelV x u
 |_,_,_,_,.nil,e=>by simp at e
 |_,_,0,_,.cons r _,e=>by simp at e;subst e;exact⟨_,rfl,r⟩
 |_,_,i+1,x,.cons _ t,e=>by
  let⟨u,h1,h2⟩:=Vals.get (i:=i) (x:=x) t (by simpa using e);exact⟨u,by simpa using h1,h2⟩
theorem Vals.set{x:V}{u:AF}(r:RelV x u):∀{xs:List V} {us:List AF} (i:Nat),Vals xs us->Vals (xs.set i x) (us.set i u)
 |_,_,_,.nil=>.nil
 |_,_,0,.cons _ t=>.cons r t
 |_,_,i+1,.cons q t=>.cons q (Vals.set r i t)
theorem Vals.append:∀{xs ys:List V} {us ws:List AF},Vals xs us->Vals ys ws->Vals (xs++ys) (us++ws)
 |_,_,_,_,.nil,s=>s
 |_,_,_,_,.cons r t,s=>.cons r (Vals.append t s)
theorem Vals.take:∀{xs:List V} {us:List AF} (n:Nat),Vals xs us->Vals (xs.take n) (us.take n)
 |_,_,0,_=>.nil
 |_,_,_+1,.nil=>.nil
 |_,_,n+1,.cons r t=>.cons r (Vals.take n t)
theorem Vals.drop:∀{xs:List V} {us:List AF} (n:Nat),Vals xs us->Vals (xs.drop n) (us.drop n)
 |_,_,0,r=>r
 |_,_,_+1,.nil=>.nil
 |_,_,n+1,.cons _ t=>Vals.drop n t
theorem Vals.none_of:∀{xs:List V} {us:List AF} {i:Nat},Vals xs us->xs[i]?=AD->us[i]?=none:=λ{xs us i} r e=>by
 have h1:=r.length;have h2:xs.length<=i:=EF.mp e;exact EF.mpr (by lia)
def ybj:Option V->Option AF->Prop
 |some v,AA u=>RelV v u
 |none,AD=>True
 |_,_=>False
def KV{κ:Type}:List (κ×V)->List (κ×AF)->Prop:=G4 λ(p:κ×V) (q:κ×AF)=>p.1=q.1/\RelV p.2 q.2
def kV:Key->V
 |.inl i=>.int i
 |.inr x=>.str x
inductive HO where
 |lst (xs:List V)
 |tup (xs:List V)
 |dK (kvs:List (Key×V))|dT (kvs:List (List Key×V))
 |set (S:Int->Bool) (n:Nat)
 |ins (C dx:AI) (fs:List (AR×V))
 |own (x:AI)
 |xd (fs:List (AR×V))
 |met (f x:AI)
 |rng (lo hi:Int)
 |frz (o:CA) (u:HO)
 |tbl (ps:Array AF)
 |ext (φ:Az->Prop)
abbrev Hp:=AI->Option HO
def upd(H:Hp)(a:AI)(o:HO):Hp:=λb=>if b=a then AA o else H b
theorem zq{H:Hp}{a:AI}{o:HO}:upd H a o a=AA o:=by unfold upd;rw[if_pos rfl]
theorem zh{H:Hp}{a b:AI}{o:HO}(h:b≠a):upd H a o b=H b:=by unfold upd;rw[if_neg h]
theorem zoj{H:Hp}{a b:AI}{o u:HO}(h:H a=AA o)(h':H b=AA u)(d:o≠u):a≠b:=by
 intro e;subst e;rw[h]at h';exact d (AZ h')
theorem zm{H:Hp}{a b:AI}{o:HO}(h:H a=AA o)(h':H b=AD):a≠b:=by
 intro e;subst e;rw[h]at h';cases h'
section
variable (P:A5)(w:Ai)
def yO(H:Hp)(h:Az)(a:AI):HO->Prop
 |.lst xs=>xs.length<=sizeLine/\∃(its:List AF) (n:Nat),Vals xs its/\h.get? a=AA {cls:=.type "list",data:=.seq its.toArray n}
 |.tup xs=>xs.length<=sizeLine/\∃its:List AF,Vals xs its/\G5 h a its.toArray
 |.dK kvs=>kvs.length<=sizeLine/\(a==sysModules)=AC/\∃vs,KV kvs vs/\h.DictOf (yL P w) a vs
 |.dT kvs=>kvs.length<=sizeLine/\(a==sysModules)=AC/\∃xs:List (List Key×AI×AF),
   G4 (λ(p:List Key×V) (q:List Key×AI×AF)=>p.1=q.1/\H q.2.1=AA (.tup (p.1.map kV))/\RelV p.2 q.2.2) kvs xs /\
   ∃o es ep,h.get? a=AA o/\o.ExactDict/\o.data=.dict es ep/\es.toList=xs.map (entryOfKey (tupleKind (yL P w)))/\(xs.map (·.1)).Nodup
 |.set S n=>h.SetOf (intKind P w) a S n
 |.ins C dx fs=>H dx=AA (.own a)/\fs.length<=1000/\dx≠a/\h.get? a=AA (By C dx) /\
   ∃mA,h.Ns1 dx mA/\(∀f,ybj (fs.lookup f) (mA f))/\Fc mA (fs.map (·.1))
 |.own _=>∃o,h.get? a=AA o
 |.xd fs=>∃mA,h.Ns1 a mA/\∀f,ybj (fs.lookup f) (mA f)
 |.rng lo hi=>∃t u v,h.get? a=AA {cls:=.type "range",data:=.fields #[.int lo t,.int hi u,.int 1 v]}
 |.frz o u=>h.get? a=AA o/\yO H h a u
 |.tbl ps=>h.get? a=AA {cls:=.none,data:=.fields ps}
 |.met f x=>h.get? a=AA (EJ (.ref f) (.ref x))
 |.ext φ=>φ h/\(∃o,h.get? a=AA o)/\∀h1 h2:Az,φ h1->(∀o,h1.get? a=AA o->h2.get? a=AA o)->φ h2
def HOk(H:Hp)(h:Az):Prop:=∀a o,H a=AA o->yO P w H h a o
end
section
variable {P:A5}{w:Ai}{H H':Hp}{h h':Az}{a:AI}{o:HO}
theorem yO.lt(x:yO P w H h a o):a<h.objs.size:=by
 cases o with
 |lst xs=>let⟨_,_,_,_,e⟩:=x;exact AW e
 |tup xs=>let⟨_,_,_,p⟩:=x;exact p.lt
 |dK kvs=>let⟨_,_,_,_,o,_,_,e,_⟩:=x;exact AW e
 |dT kvs=>let⟨_,_,_,_,o,_,_,e,_⟩:=x;exact AW e
 |set S n=>let⟨o,_,_,_,e,_⟩:=x;exact AW e
 |ins C dx fs=>let⟨_,_,_,e,_⟩:=x;exact AW e
 |own y=>let⟨_,e⟩:=x;exact AW e
 |xd fs=>let⟨_,⟨_,_,_,e,_⟩,_⟩:=x;exact AW e
 |rng lo hi=>let⟨_,_,_,e⟩:=x;exact AW e
 |frz ob u=>let⟨e,_⟩:=x;exact AW e
 |tbl ps=>exact AW (show h.get? a=AA _ from x)
 |met f y=>exact AW (show h.get? a=AA _ from x)
 |ext φ=>let⟨_,⟨_,e⟩,_⟩:=x;exact AW e
theorem Paired.mapP{α β:Type}{F G:α->β->Prop}:∀{l₁:List α} {l₂:List β},G4 F l₁ l₂->(∀a b,F a b->G a b)->G4 G l₁ l₂
 |_,_,.nil,_=>.nil
 |_,_,.cons r t,f=>.cons (f _ _ r) (Paired.mapP t f)
theorem yO.stay(x:yO P w H h a o)(k:∀b u,(b=a \/ H b=AA (.own a))->h.get? b=AA u->h'.get? b=AA u)
  (ho:∀b,H b=AA (.own a)->H' b=AA (.own a)) (ht:∀b xs,H b=AA (.tup xs)->H' b=AA (.tup xs)):yO P w H' h' a o:=by
 induction o with
 |lst xs=>let⟨z,its,n,r,e⟩:=x;exact⟨z,its,n,r,k _ _ (.inl rfl) e⟩
 |tup xs=>let⟨z,its,r,ob,e,c⟩:=x;exact⟨z,its,r,ob,k _ _ (.inl rfl) e,c⟩
 |dK kvs=>let⟨z,y,vs,r,ob,es,ep,e,c⟩:=x;exact⟨z,y,vs,r,ob,es,ep,k _ _ (.inl rfl) e,c⟩
 |dT kvs=>
  let⟨z,y,xs,r,ob,es,ep,e,c⟩:=x;exact⟨z,y,xs,Paired.mapP r λp q z=>⟨z.1,ht _ _ z.2.1,z.2.2⟩,ob,es,ep,k _ _ (.inl rfl) e,c⟩
 |set S n=>let⟨ob,es,ep,t,e,c⟩:=x;exact⟨ob,es,ep,t,k _ _ (.inl rfl) e,c⟩
 |ins C dx fs=>
  let⟨d,z,ne,e,mA,⟨od,es,ep,e2,c⟩,r⟩:=x;exact⟨ho _ d,z,ne,k _ _ (.inl rfl) e,mA,⟨od,es,ep,k _ _ (.inr d) e2,c⟩,r⟩
 |own y=>let⟨ob,e⟩:=x;exact⟨ob,k _ _ (.inl rfl) e⟩
 |xd fs=>let⟨mA,⟨od,es,ep,e,c⟩,r⟩:=x;exact⟨mA,⟨od,es,ep,k _ _ (.inl rfl) e,c⟩,r⟩
 |rng lo hi=>let⟨t,u,v,e⟩:=x;exact⟨t,u,v,k _ _ (.inl rfl) e⟩
 |frz ob u ih=>let⟨e,q⟩:=x;exact⟨k _ _ (.inl rfl) e,ih q⟩
 |tbl ps=>
  have e:h.get? a=AA {cls:=.none,data:=.fields ps}:=x;show h'.get? a=AA {cls:=.none,data:=.fields ps};exact k a _ (.inl rfl) e
 |met f y=>
  have e:h.get? a=AA (EJ (.ref f) (.ref y)):=x;show h'.get? a=AA (EJ (.ref f) (.ref y));exact k a _ (.inl rfl) e
 |ext φ=>let⟨p,⟨o,e⟩,st⟩:=x;exact⟨st _ _ p λo q=>k _ _ (.inl rfl) q,⟨o,k _ _ (.inl rfl) e⟩,st⟩
theorem HOk.lt(x:HOk P w H h)(e:H a=AA o):a<h.objs.size:=(x a o e).lt
theorem HOk.fresh(x:HOk P w H h)(e:h.objs.size<=a):H a=none:=by
 cases q:H a with
 |none=>rfl
 |some u=>exact absurd (A4 (x.lt q) e) (Cv _)
theorem HOk.kept(x:HOk P w H h)(k:∀b u,h.get? b=AA u->h'.get? b=AA u):HOk P w H h':=λa o e=>
 (x a o e).stay (λb u _ q=>k b u q) (λ_ q=>q) λ_ _ q=>q
theorem HOk.laid(x:HOk P w H h)(k:∀b u,h.get? b=AA u->h'.get? b=AA u)(hp:h.objs.size<=a)(new:yO P w (upd H a o) h' a o):HOk P w (upd H a o) h':=λb u e=>by
 have hn:=x.fresh hp
 by_cases hb:b=a
 .subst hb;rw[zq]at e;cases e;exact new
 .rw[zh hb]at e;exact(x b u e).stay (λc v _ q=>k c v q) (λc q=>by rw[zh (zm q hn)];exact q) λc xs q=>by rw[zh (zm q hn)];exact q
end
def Rd(H:Hp)(a:AI)(u:HO):Prop:=H a=AA u \/ ∃o,H a=AA (.frz o u)
theorem Rd.of{H:Hp}{a:AI}{u:HO}(h:H a=AA u):Rd H a u:=.inl h
theorem Rd.ok{P:A5}{w:Ai}{H:Hp}{h:Az}{a:AI}{u:HO}(r:Rd H a u)(x:HOk P w H h):yO P w H h a u:=by
 rcases r with r|⟨o,r⟩
 .exact x a u r
 .let⟨_,q⟩:=x a _ r;exact q
def Mut:Option HO->Prop
 |some (.lst _)=>True
 |some (.dK _)=>True
 |some (.dT _)=>True
 |some (.set _ _)=>True
 |some (.ins _ _ _)=>True
 |some (.ext _)=>True
 |_=>False
section
variable {P:A5}{w:Ai}{H:Hp}{h h':Az}{x e:AI}{o':HO}
theorem HOk.write(ok:HOk P w H h)(mu:Mut (H x))(he:e=x \/ H e=AA (.own x))(k:∀b u,b≠e->h.get? b=AA u->h'.get? b=AA u)(heo:∃u,h'.get? e=AA u)
  (new:yO P w (upd H x o') h' x o'):HOk P w (upd H x o') h':=λb u q=>by
 have nown:∀c y,H c=AA (.own y)->c≠x:=λc y r z=>by subst z;rw[r]at mu;exact mu
 have ntup:∀c xs,H c=AA (.tup xs)->c≠x:=λc xs r z=>by subst z;rw[r]at mu;exact mu
 by_cases hb:b=x
 .subst hb;rw[zq]at q;cases q;exact new
 .rw[zh hb]at q
  by_cases hbe:b=e
  .have q':H b=AA (.own x):=by
    rcases he with z|z
    .exact absurd (hbe.trans z) hb
    .rw[hbe];exact z
   rw[q]at q';cases q';let⟨v,hv⟩:=heo;exact⟨v,by rw[hbe];exact hv⟩
  .refine(ok b u q).stay (λc v hc r=>k c v ?_ r) (λc r=>by rw[zh (nown c b r)];exact r) λc xs r=>by rw[zh (ntup c xs r)];exact r
   rcases hc with rfl|hc
   .exact hbe
   .rintro rfl
    rcases he with z|z
    .exact nown c b hc z
    .rw[hc]at z;cases z;exact hb rfl
end
structure Un(fs ex:List AI)(H H':Hp)(h h':Az):Prop where
 keep:∀b o,h.get? b=AA o->H b=AD->b∉fs->b∉ex->h'.get? b=AA o
 slot:∀b o,h.get? b=AA o->H b=AD->b∈fs->b∉ex->∃sl,h'.get? b=AA {o with slots:=sl}
 free:∀b o,h.get? b=AA o->H b=AD->b∉ex->H' b=AD
 there:∀b o,h.get? b=AA o->b∉ex->∃o',h'.get? b=AA o'
 tups:∀b xs,H b=AA (.tup xs)->H' b=AA (.tup xs)
 frzs:∀b o u,H b=AA (.frz o u)->H' b=AA (.frz o u)
 tbls:∀b ps,H b=AA (.tbl ps)->∃more,H' b=AA (.tbl (ps++more))
section
variable {fs fs' ex ex':List AI}{H H1 H2:Hp}{h h1 h2 h':Az}{a x e:AI}{o:HO}
theorem Un.any(u:Un fs ex H H1 h h1){b:AI}{ob:CA}(q:h.get? b=AA ob)(n:H b=AD)(hx:b∉ex):∃sl,h1.get? b=AA {ob with slots:=sl}:=by
 by_cases hb:b∈fs
 .exact u.slot b ob q n hb hx
 .exact⟨ob.slots,u.keep b ob q n hb hx⟩
theorem Un.kept(k:∀b u,h.get? b=AA u->h'.get? b=AA u):Un fs ex H H h h':=
 ⟨λb ob q _ _ _=>k b ob q,λb ob q _ _ _=>⟨ob.slots,k b ob q⟩,λ_ _ _ n _=>n,λb ob q _=>⟨ob,k b ob q⟩,λ_ _ q=>q,λ_ _ _ q=>q,λ_ ps q=>⟨#[],by rw[q];simp⟩⟩
theorem Un.refl:Un fs ex H H h h:=Un.kept λ_ _ q=>q
theorem Un.laid(k:∀b u,h.get? b=AA u->h'.get? b=AA u)(hp:h.objs.size<=a)(hn:H a=AD):Un fs ex H (upd H a o) h h' where
 keep:=λb u q _ _ _=>k b u q
 slot:=λb u q _ _ _=>⟨u.slots,k b u q⟩
 free:=λb u q n _=>by rw[zh (Aj (A4 (AW q) hp))];exact n
 there:=λb u q _=>⟨u,k b u q⟩
 tups:=λb xs q=>by rw[zh (zm q hn)];exact q
 frzs:=λb u xs q=>by rw[zh (zm q hn)];exact q
 tbls:=λb ps q=>⟨#[],by rw[zh (zm q hn),q];simp⟩
theorem Un.write(mu:Mut (H x))(he:e=x \/ H e=AA (.own x))(k:∀b u,b≠e->h.get? b=AA u->h'.get? b=AA u)(heo:∃u,h'.get? e=AA u):Un fs ex H (upd H x o) h h':=by
 have hx:∀b,H b=AD->b≠x:=λb n z=>by subst z;rw[n]at mu;exact mu
 have hb:∀b,H b=AD->b≠e:=λb n z=>by
  subst z;rcases he with r|r
  .exact hx b n r
  .rw[n]at r;cases r
 have hm:∀b u,H b=AA u->¬Mut (AA u)->b≠x:=λb u q nm z=>by subst z;rw[q]at mu;exact nm mu
 refine⟨λb u q n _ _=>k b u (hb b n) q,λb u q n _ _=>⟨u.slots,k b u (hb b n) q⟩,λb u q n _=>by rw[zh (hx b n)];exact n,λb u q _=>?_,
  λb xs q=>by rw[zh (hm b _ q λz=>z)];exact q,λb u xs q=>by rw[zh (hm b _ q λz=>z)];exact q,λb ps q=>⟨#[],by rw[zh (hm b _ q λz=>z),q];simp⟩⟩
 by_cases hbe:b=e
 .subst hbe;exact heo
 .exact⟨u,k b u hbe q⟩
end
def trk(h:Az)(H:Hp):List Addr:=(CU h.objs.size).filter λa=>(H a).isSome
def ycb(h:Az)(H:Hp):Heap:=Cz h (trk h H)
theorem zhk(h:Az)(H:Hp):(ycb h H).objs.size=h.objs.size:=PySem.W.hideAll_size _ _
theorem zjA{h:Az}{H:Hp}{b:AI}{o:CA}(e:h.get? b=AA o)(n:H b=AD):(ycb h H).get? b=AA o:=
 FQ _ e λhm=>by
  have q:(H b).isSome=true:=(GW.mp hm).2;rw[n]at q;simp at q
theorem zkJ{h:Az}{H:Hp}{b:AI}{o:CA}(e:(ycb h H).get? b=AA o):h.get? b=AA o/\H b=none:=by
 have e':h.get? b=AA o:=F6 (trk h H) e;refine⟨e',?_⟩
 cases q:H b with
 |none=>rfl
 |some x=>
  have hm:b∈trk h H:=GW.mpr ⟨G6.mpr (AW e'),by simp[q]⟩;have z:(ycb h H).get? b=none:=PySem.W.hideAll_none (trk h H) hm;rw[z]at e;cases e
structure Mod(K:AE)(mg:AR->Option AF)(base:Az):Prop where
 kin:K.In base
 glob:base.Ns mainGlobals mg
 blt:∃mb,base.Ns builtinsNs mb/\∀x:AR,x ≠ "__name__"->mb x=bootBuiltins x
 nolimit:base.NoLimit
structure Cx where
 prog:A5
 w:Ai
 K:AE
 mg:AR->Option AF
 base:Az
 A:Ao
 N:List AR
 s₀:AJ
 H₀:Hp
 env:Env
 outer:List Env
 stack:List Env
 ex:List AI
 fn:AR->Bool
 calm:Bool
 pn:List (AI×CA)
 xe:AF->AJ->Prop
def frs(l:List Env):List Addr:=l.filterMap (·.frame)
abbrev Cx.fs(X:Cx):List Addr:=frs X.outer
def Vis(sc:Bl)(x:AR):Prop:=sc.names.lookup x=AA .local \/ sc.names.lookup x=AA .cell \/ sc.names.lookup x=AA .free
def Loc(sc:Bl)(x:AR):Prop:=sc.names.lookup x=AA .local \/ sc.names.lookup x=AA .cell
def Look(env:Env)(h:Az)(m:AR->Option AF)(x:AR)(u:AF):Prop:=
 (env.kindOf x=AA .local/\m x=AA u) \/ ((env.kindOf x=AA .cell \/ env.kindOf x=AA .free)/\∃c,env.cells.lookup x=AA c/\h.IsCell c (AA u))
structure Cx.Ok(X:Cx):Prop where
 mod:Mod X.K X.mg X.base
 kind:X.env.scope.kind=.function
 glob:X.env.globals=mainGlobals
 blt:X.env.builtins=builtinsNs
 above:X.s₀.heap.objs.size<=X.env.locals
 inj:∀x y c,X.env.cells.lookup x=AA c->X.env.cells.lookup y=AA c->x=y
 has:∀x,(X.env.kindOf x=AA .cell \/ X.env.kindOf x=AA .free)->∃c,X.env.cells.lookup x=AA c
 cab:∀x c,X.fn x=AB->X.env.cells.lookup x=AA c->X.s₀.heap.objs.size<=c
 hd:X.calm=AB->X.A.handled=AD
 frames:X.A.frames=AA X.stack
 stk:X.stack=X.outer \/ (X.stack=X.env::X.outer/\X.env.frame=AA X.env.locals)
 exf:∀b∈X.ex,b≠X.env.locals/\∀x c,X.env.cells.lookup x=AA c->c≠b
 bs:∀b o,X.base.get? b=AA o->X.s₀.heap.get? b=AA o/\X.H₀ b=AD
 bsz:X.base.objs.size<=X.s₀.heap.objs.size
 noex:∀b o,X.base.get? b=AA o->b∉X.ex
 exfs:∀b∈X.ex,b∉X.fs
 funs:X.s₀.heap.FunFrames X.base X.outer
 frf:∀b∈X.fs,X.H₀ b=AD
structure Inv(X:Cx)(pins:List (AI×CA))(σ:List (Option V))(H:Hp)(s:AJ):Prop where
 ok:X.Ok
 os:s.os=X.s₀.os
 bare:DX s.gens
 base:Un X.fs X.ex X.H₀ H X.s₀.heap s.heap
 loc:∃m,s.heap.Ns X.env.locals m/\∀(i:Nat) (x:AR) (v:V),X.N[i]?=AA x->σ[i]?=AA (AA v)->Vis X.env.scope x->∃u,RelV v u/\Look X.env s.heap m x u
 cell:∀x c,X.env.cells.lookup x=AA c->∃v,s.heap.IsCell c v
 free:H X.env.locals=AD
 freeC:∀x c,X.env.cells.lookup x=AA c->H c=AD
 pin:∀p∈X.pn++pins,s.heap.get? p.1=AA p.2/\H p.1=AD/\p.1≠X.env.locals/\p.1∉X.fs/\∀v,p.2.data ≠ .cell v
 hok:HOk X.prog X.w H s.heap
 len:σ.length=X.N.length
section
variable {X:Cx}{pins:List (AI×CA)}{σ:List (Option V)}{H H':Hp}{s:AJ}{h':Az}
theorem Cx.Ok.nofr(ok:X.Ok){b:AI}{o:CA}(e:X.base.get? b=AA o):b∉X.fs:=λhb=>by
 have:=(ok.funs.mem hb).1;rw[e]at this;cases this
theorem Inv.bs(I:Inv X pins σ H s):∀b o,X.base.get? b=AA o->s.heap.get? b=AA o/\H b=none:=λb o e=>
 ⟨I.base.keep b o (I.ok.bs b o e).1 (I.ok.bs b o e).2 (I.ok.nofr e) (I.ok.noex b o e),I.base.free b o (I.ok.bs b o e).1 (I.ok.bs b o e).2 (I.ok.noex b o e)⟩
theorem Inv.bk(I:Inv X pins σ H s):∀b o,X.base.get? b=AA o->s.heap.get? b=AA o:=λb o e=>(I.bs b o e).1
theorem Inv.mod(I:Inv X pins σ H s):Mod X.K X.mg X.base:=I.ok.mod
theorem Inv.kIn(I:Inv X pins σ H s):X.K.In s.heap:=I.ok.mod.kin.keeps I.bk
theorem Inv.lt(I:Inv X pins σ H s):X.env.locals<s.heap.objs.size:=let ⟨_,hn,_⟩:=I.loc;hn.lt
theorem Inv.sz(I:Inv X pins σ H s):X.s₀.heap.objs.size<=s.heap.objs.size:=BW I.ok.above (Fd I.lt)
theorem Inv.nofs(I:Inv X pins σ H s){a:AI}(h:s.heap.objs.size<=a):a∉X.fs:=λhb=>by
 let⟨_,o,ho,_⟩:=I.ok.funs.mem hb;exact absurd (A4 (AW ho) (BW I.sz h)) (Cv _)
theorem Inv.cne(I:Inv X pins σ H s):∀x c,X.env.cells.lookup x=AA c->c≠X.env.locals:=λx c e z=>by
 let⟨v,o,ho,hd⟩:=I.cell x c e;let⟨m,⟨o',es,ep,ho',hd',_⟩,_⟩:=I.loc;rw[z,ho']at ho;cases ho;rw[hd']at hd;cases hd
theorem Inv.funs(I:Inv X pins σ H s):s.heap.FunFrames X.base X.outer:=by
 have all:∀(l:List Env),(∀b∈frs l,b∈X.fs)->X.s₀.heap.FunFrames X.base l->s.heap.FunFrames X.base l:=by
  intro l
  induction l with
  |nil=>intro _ _;trivial
  |cons env r ih=>
   intro hs hl;let⟨hk,⟨L,o,hf,hn,ho,hd⟩,hr⟩:=hl;have hL:L∈X.fs:=hs L (by unfold frs;rw[C1,hf];exact BE);let⟨sl,e⟩:=I.base.slot L o ho (I.ok.frf L hL) hL λz=>I.ok.exfs L z hL;exact⟨hk,⟨L,_,hf,hn,e,hd⟩,ih (λb hb=>hs b (by unfold frs;rw[C1,hf];exact AY _ hb)) hr⟩
 exact all X.outer (λ_ hb=>hb) I.ok.funs
theorem Inv.stack(I:Inv X pins σ H s):s.heap.FunFrames X.base X.stack:=by
 rcases I.ok.stk with e|⟨e,hf⟩
 .rw[e];exact I.funs
 .rw[e];let⟨m,hn,_⟩:=I.loc;refine .cons (by rw[I.ok.kind];decide) hf hn ?_ I.funs;exact Heap.get?_none_of_le (BW I.ok.bsz I.ok.above)
theorem Inv.stkSub(I:Inv X pins σ H s):∀b∈frs X.stack,b∈X.env.locals::X.fs:=λb hb=>by
 rcases I.ok.stk with e|⟨e,hf⟩
 .rw[e]at hb;exact AY _ hb
 .rw[e]at hb;unfold frs at hb;rw[C1,hf]at hb;exact hb
theorem Inv.stkFree(I:Inv X pins σ H s):∀b∈frs X.stack,H b=none:=λb hb=>by
 rcases A3.mp (I.stkSub b hb)with e|hb
 .rw[e];exact I.free
 .let⟨_,o,ho,_⟩:=I.ok.funs.mem hb;exact I.base.free b o ho (I.ok.frf b hb) λz=>I.ok.exfs b z hb
theorem Inv.step{g':Array GenState}{t':Nat}{d':Drawn}{ch:List AI}(I:Inv X pins σ H s)
  (hch:∀b∈ch,(b∈X.ex \/ X.s₀.heap.objs.size<=b)/\b≠X.env.locals/\(∀x c,X.env.cells.lookup x=AA c->c≠b)/\∀p∈X.pn++pins,p.1≠b)
  (keep:∀b o,b≠X.env.locals->b∉X.fs->b∉ch->s.heap.get? b=AA o->H b=AD->h'.get? b=AA o)
  (slot:∀b o,b≠X.env.locals->b∈X.fs->b∉ch->s.heap.get? b=AA o->H b=AD->∃sl,h'.get? b=AA {o with slots:=sl}) (free:∀b o,b∉ch->s.heap.get? b=AA o->H b=AD->H' b=AD)
  (there:∀b o,b∉ch->s.heap.get? b=AA o->∃o',h'.get? b=AA o')
  (tups:∀b xs,H b=AA (.tup xs)->H' b=AA (.tup xs)) (frzs:∀b o u,H b=AA (.frz o u)->H' b=AA (.frz o u)) (tbls:∀b ps,H b=AA (.tbl ps)->∃more,H' b=AA (.tbl (ps++more)))
  (ns:∀m,s.heap.Ns X.env.locals m->h'.Ns X.env.locals m) (hok:HOk X.prog X.w H' h') (hg:DX g'):
  Inv X pins σ H' {s with heap:=h',gens:=g',drawn:=d',toks:=t'}:=by
 have neL:∀b o,X.s₀.heap.get? b=AA o->b≠X.env.locals:=λb o e=>Aj (A4 (AW e) I.ok.above);have neC:∀b o,X.s₀.heap.get? b=AA o->b∉X.ex->b∉ch:=λb o e hx hb=>by
  rcases (hch b hb).1 with z|z
  .exact hx z
  .exact absurd (A4 (AW e) z) (Cv _)
 have cellK:∀x c,X.env.cells.lookup x=AA c->∀v,s.heap.IsCell c v->h'.IsCell c v:=λx c e v ⟨o,ho,hd⟩=>by
  have nch:c∉ch:=λz=>(hch c z).2.2.1 x c e rfl
  by_cases hc:c∈X.fs
  .let⟨sl,q⟩:=slot c o (I.cne x c e) hc nch ho (I.freeC x c e);exact⟨_,q,hd⟩
  .exact⟨o,keep c o (I.cne x c e) hc nch ho (I.freeC x c e),hd⟩
 refine⟨I.ok,I.os,hg,⟨λb o e n hb hx=>?_,λb o e n hb hx=>?_,λb o e n hx=>?_,λb o e hx=>?_,λb xs e=>tups b xs (I.base.tups b xs e),λb o xs e=>frzs b o xs (I.base.frzs b o xs e),λb ps e=>?_⟩,?_,λx c e=>?_,?_,λx c e=>?_,λp hp=>?_,hok,I.len⟩
 .exact keep b o (neL b o e) hb (neC b o e hx) (I.base.keep b o e n hb hx) (I.base.free b o e n hx)
 .let⟨sl,e1⟩:=I.base.slot b o e n hb hx;let⟨sl',e2⟩:=slot b _ (neL b o e) hb (neC b o e hx) e1 (I.base.free b o e n hx);exact⟨sl',e2⟩
 .let⟨o',e1⟩:=I.base.there b o e hx;exact free b o' (neC b o e hx) e1 (I.base.free b o e n hx)
 .let⟨o',e1⟩:=I.base.there b o e hx;exact there b o' (neC b o e hx) e1
 .let⟨m1,e1⟩:=I.base.tbls b ps e;let⟨m2,e2⟩:=tbls b _ e1;exact⟨m1++m2,by rw[e2,Dq]⟩
 .let⟨m,hn,hl⟩:=I.loc;refine⟨m,ns m hn,λi x v e1 e2 e3=>?_⟩;let⟨u,r,l⟩:=hl i x v e1 e2 e3;refine⟨u,r,?_⟩;rcases l with l|⟨k,c,e,z⟩
  .exact .inl l
  .exact .inr ⟨k,c,e,cellK x c e _ z⟩
 .let⟨v,z⟩:=I.cell x c e;exact⟨v,cellK x c e v z⟩
 .let⟨m,⟨o,_,_,ho,_⟩,_⟩:=I.loc;exact free _ o (λz=>(hch _ z).2.1 rfl) ho I.free
 .let⟨v,o,ho,hd⟩:=I.cell x c e;exact free c o (λz=>(hch c z).2.2.1 x c e rfl) ho (I.freeC x c e)
 .let⟨e,n,ne,nf,d⟩:=I.pin p hp;have nch:p.1∉ch:=λz=>(hch p.1 z).2.2.2 p hp rfl;exact⟨keep p.1 p.2 ne nf nch e n,free p.1 p.2 nch e n,ne,nf,d⟩
theorem Inv.un{t':Nat}(I:Inv X pins σ H s)(u:Un X.fs [] H H' s.heap h')(hok:HOk X.prog X.w H' h'):Inv X pins σ H' {s with heap:=h',toks:=t'}:=by
 let⟨m,⟨o,es,ep,ho,r⟩,_⟩:=id I.loc;let⟨sl,hL⟩:=u.any ho I.free (by simp);exact I.step (g':=s.gens) (d':=s.drawn) (ch:=[]) (λ_ z=>nomatch z) (λb o _ hb _ e n=>u.keep b o e n hb (by simp)) (λb o _ hb _ e n=>u.slot b o e n hb (by simp)) (λb o _ e n=>u.free b o e n (by simp)) (λb o _ e=>u.there b o e (by simp)) u.tups u.frzs u.tbls (λm' hm=>by
  let⟨o',es',ep',ho',r'⟩:=hm;rw[ho]at ho';cases ho';exact⟨_,es',ep',hL,r'⟩) hok I.bare
theorem Inv.call{g':Array GenState}{t':Nat}{d':Drawn}{ch:List AI}(I:Inv X pins σ H s)(u:Un (frs X.stack) ch H H' s.heap h')(hok:HOk X.prog X.w H' h')(hg:DX g')
  (hch:∀b∈ch,(b∈X.ex \/ X.s₀.heap.objs.size<=b)/\b≠X.env.locals/\(∀x c,X.env.cells.lookup x=AA c->c≠b)/\∀p∈X.pn++pins,p.1≠b):
  Inv X pins σ H' {s with heap:=h',gens:=g',drawn:=d',toks:=t'}:=by
 let⟨m,⟨o,es,ep,ho,r⟩,_⟩:=id I.loc;let⟨sl,hL⟩:=u.any ho I.free λz=>(hch _ z).2.1 rfl;exact I.step (ch:=ch) hch (λb o hL hb hc e n=>u.keep b o e n (λz=>(A3.mp (I.stkSub b z)).elim hL hb) hc) (λb o _ _ hc e n=>u.any e n hc) (λb o hc e n=>u.free b o e n hc) (λb o hc e=>u.there b o e hc) u.tups u.frzs u.tbls (λm' hm=>by
  let⟨o',es',ep',ho',r'⟩:=hm;rw[ho]at ho';cases ho';exact⟨_,es',ep',hL,r'⟩) hok hg
theorem Inv.turned{t':Nat}{it:AI}(I:Inv X pins σ H s)(k:∀b o,b≠it->s.heap.get? b=AA o->h'.get? b=AA o)(hn:H it=AD)(hL:it≠X.env.locals)
  (h1:it∈X.ex \/ X.s₀.heap.objs.size<=it) (h2:∀x c,X.env.cells.lookup x=AA c->c≠it) (h3:∀p∈X.pn++pins,p.1≠it):Inv X pins σ H {s with heap:=h',toks:=t'}:=by
 have nit:∀b u,H b=AA u->b≠it:=λb u e z=>by rw[z,hn]at e;cases e
 refine I.step (g':=s.gens) (d':=s.drawn) (ch:=[it]) (λb hb=>?_) (λb o _ _ hc e _=>k b o (λz=>hc (by simp[z])) e) (λb o _ _ hc e _=>⟨o.slots,k b o (λz=>hc (by simp[z])) e⟩) (λ_ _ _ _ n=>n)
  (λb o hc e=>⟨o,k b o (λz=>hc (by simp[z])) e⟩) (λ_ _ e=>e) (λ_ _ _ e=>e) (λb ps e=>⟨#[],by rw[e];simp⟩) (λm hm=>?_) (λb u e=>?_) I.bare
 .have e:b=it:=by simpa using hb
  subst e;exact⟨h1,hL,h2,h3⟩
 .let⟨o,es,ep,ho,r⟩:=hm;exact⟨o,es,ep,k _ o (BK hL) ho,r⟩
 .refine(I.hok b u e).stay (λc v hc q=>k c v ?_ q) (λ_ q=>q) λ_ _ q=>q;rcases hc with z|z
  .rw[z];exact nit b u e
  .exact nit c _ z
theorem Inv.tok(I:Inv X pins σ H s)(t:Nat):Inv X pins σ H {s with toks:=t}:=I.un (h':=s.heap) (t':=t) Un.refl I.hok
theorem Inv.kept{t':Nat}(I:Inv X pins σ H s)(k:∀b u,s.heap.get? b=AA u->h'.get? b=AA u):Inv X pins σ H {s with heap:=h',toks:=t'}:=I.un (Un.kept k) (I.hok.kept k)
theorem Inv.laid{a:AI}{o:HO}{t':Nat}(I:Inv X pins σ H s)(k:∀b u,s.heap.get? b=AA u->h'.get? b=AA u)(hp:s.heap.objs.size<=a)(new:yO X.prog X.w (upd H a o) h' a o):
  Inv X pins σ (upd H a o) {s with heap:=h',toks:=t'}:=I.un (Un.laid k hp (I.hok.fresh hp)) (I.hok.laid k hp new)
theorem Inv.write{x e:AI}{o:HO}{t':Nat}(I:Inv X pins σ H s)(mu:Mut (H x))(he:e=x \/ H e=AA (.own x))(k:∀b u,b≠e->s.heap.get? b=AA u->h'.get? b=AA u)(heo:∃u,h'.get? e=AA u)
  (new:yO X.prog X.w (upd H x o) h' x o):Inv X pins σ (upd H x o) {s with heap:=h',toks:=t'}:=I.un (Un.write mu he k heo) (I.hok.write mu he k heo new)
theorem Inv.pins_of{pins':List (AI×CA)}(I:Inv X pins σ H s)(h:∀p∈pins',s.heap.get? p.1=AA p.2/\H p.1=AD/\p.1≠X.env.locals/\p.1∉X.fs/\∀v,p.2.data ≠ .cell v):Inv X pins' σ H s:=
 ⟨I.ok,I.os,I.bare,I.base,I.loc,I.cell,I.free,I.freeC,λp hp=>(Bd.mp hp).elim (λz=>I.pin p (FC _ z)) (h p),I.hok,I.len⟩
theorem zfD{N:List AR}(hN:N.Nodup){i j:Nat}{x:AR}(a:N[i]?=AA x)(b:N[j]?=AA x):i=j:=by
 let⟨h1,e1⟩:=BJ.mp a;let⟨h2,e2⟩:=BJ.mp b;exact(List.getElem_inj hN).mp (e1.trans e2.symm)
theorem zgP{M:Model}{A:Ao}{E:AF->AJ->Prop}{i:Nat}{x:AR}{v:V}{u:AF}{Q:Unit->AJ->Prop}(I:Inv X pins σ H s)(hN:X.N.Nodup)(hi:X.N[i]?=AA x)(hx:Loc X.env.scope x)(r:RelV v u)
  (h:∀s',Inv X pins (σ.set i (AA v)) H s'->(∃a,C9 a s.heap s'.heap/\(a=X.env.locals \/ X.env.cells.lookup x=AA a))->Q () s') (hf:X.fn x=AB \/ X.env.scope.names.lookup x=AA .local:=by first|exact .inl rfl|exact .inr rfl|assumption):A1 M A (storeName X.env x u) Q E s:=by
 let⟨m,hn,hl⟩:=id I.loc;have hcls:(X.env.scope.kind==.class || (X.env.scope.kind==.module&&X.env.locals != X.env.globals))=false:=by rw[I.ok.kind];rfl
 have hiσ:i<σ.length:=by rw[I.len];exact(BJ.mp hi).1
 have cne:=I.cne;have tracked:∀{a:AI} {h':Az},(∃o,s.heap.get? a=AA o/\H a=AD)->C9 a s.heap h'->HOk X.prog X.w H h':=λ{a h'} ha hs b ob e=>by
  let⟨_,_,hfree⟩:=ha;refine(I.hok b ob e).stay (λc w' hc q=>(hs.2 c ?_).trans q) (λ_ q=>q) λ_ _ q=>q
  rintro rfl
  rcases hc with rfl|hc
  .rw[hfree]at e;cases e
  .rw[hfree]at hc;cases hc
 rcases hx with hk|hk
 .refine wpAny_storeName_local hk hn (λh' hn' hs=>?_) hcls;let⟨oL,_,_,hoL,_⟩:=id hn;refine h _ ⟨I.ok,I.os,I.bare,⟨λb o e n hb hx=>?_,λb o e n hb hx=>?_,I.base.free,λb o e hx=>?_,I.base.tups,I.base.frzs,I.base.tbls⟩,⟨_,hn',λj y v' e1 e2 e3=>?_⟩,λy c e=>?_,I.free,I.freeC,λp hp=>?_,tracked ⟨oL,hoL,I.free⟩ hs,by simpa using I.len⟩ ⟨_,hs,.inl rfl⟩
  .exact(hs.2 b (Aj (A4 (AW e) I.ok.above))).trans (I.base.keep b o e n hb hx)
  .let⟨sl,e1⟩:=I.base.slot b o e n hb hx;exact⟨sl,(hs.2 b (Aj (A4 (AW e) I.ok.above))).trans e1⟩
  .let⟨o',e1⟩:=I.base.there b o e hx;exact⟨o',(hs.2 b (Aj (A4 (AW e) I.ok.above))).trans e1⟩
  .by_cases hj:j=i
   .subst hj;rw[hi]at e1;cases e1;rw[A6 hiσ]at e2
    cases e2
    exact⟨u,r,.inl ⟨hk,by simp⟩⟩
   .rw[AO (BK hj)]at e2;let⟨u',r',q⟩:=hl j y v' e1 e2 e3;refine⟨u',r',?_⟩;rcases q with⟨k,e⟩|⟨k,c,e,z⟩
    .refine .inl ⟨k,?_⟩;have:y≠x:=λe=>hj (zfD hN e1 (e ▸ hi));simp[this,e]
    .exact .inr ⟨k,c,e,z.sameBut hs (cne y c e)⟩
  .let⟨w',z⟩:=I.cell y c e;exact⟨w',z.sameBut hs (cne y c e)⟩
  .let⟨e,n,ne,nf,d⟩:=I.pin p hp;exact⟨(hs.2 p.1 ne).trans e,n,ne,nf,d⟩
 .have hfn:X.fn x=true:=by
   rcases hf with z|z
   .exact z
   .rw[z]at hk;cases hk
  let⟨c,hc⟩:=I.ok.has x (.inl hk);let⟨w',z⟩:=I.cell x c hc;refine wpAny_storeName_cell I.ok.kind hk hc z (λh' hc' hs=>?_);let⟨oc,hoc,hocd⟩:=id z;refine h {s with heap:=h'} ⟨I.ok,I.os,I.bare,⟨λb o e n hb hx=>?_,λb o e n hb hx=>?_,I.base.free,λb o e hx=>?_,I.base.tups,I.base.frzs,I.base.tbls⟩,⟨m,hn.sameBut hs (BK (cne x c hc)),λj y v' e1 e2 e3=>?_⟩,λy c' e=>?_,I.free,I.freeC,λp hp=>?_,tracked ⟨oc,hoc,I.freeC x c hc⟩ hs,by simpa using I.len⟩ ⟨c,hs,.inr hc⟩
  .exact(hs.2 b (Aj (A4 (AW e) (I.ok.cab x c hfn hc)))).trans (I.base.keep b o e n hb hx)
  .let⟨sl,e1⟩:=I.base.slot b o e n hb hx;exact⟨sl,(hs.2 b (Aj (A4 (AW e) (I.ok.cab x c hfn hc)))).trans e1⟩
  .let⟨o',e1⟩:=I.base.there b o e hx;exact⟨o',(hs.2 b (Aj (A4 (AW e) (I.ok.cab x c hfn hc)))).trans e1⟩
  .by_cases hj:j=i
   .subst hj;rw[hi]at e1;cases e1;rw[A6 hiσ]at e2
    cases e2
    exact⟨u,r,.inr ⟨.inl hk,c,hc,hc'⟩⟩
   .rw[AO (BK hj)]at e2;let⟨u',r',q⟩:=hl j y v' e1 e2 e3;refine⟨u',r',?_⟩;rcases q with q|⟨k,c',e,z'⟩
    .exact .inl q
    .refine .inr ⟨k,c',e,z'.sameBut hs ?_⟩
     rintro rfl
     exact hj (zfD hN e1 (I.ok.inj _ _ _ e hc ▸ hi))
  .by_cases hcc:c'=c
   .subst hcc;exact⟨_,hc'⟩
   .let⟨w2,z2⟩:=I.cell y c' e;exact⟨w2,z2.sameBut hs hcc⟩
  .let⟨e,n,ne,nf,d⟩:=I.pin p hp;refine⟨(hs.2 p.1 ?_).trans e,n,ne,nf,d⟩;intro q;rw[q,hoc]at e;have q':oc=p.2:=AZ e;exact d w' (by rw[<-q'];exact hocd)
theorem zbw{M:Model}{A:Ao}{E:AF->AJ->Prop}{i:Nat}{x:AR}{v:V}{u:AF}{Q:Unit->AJ->Prop}(I:Inv X pins σ H s)(hN:X.N.Nodup)(hi:X.N[i]?=AA x)(hx:Loc X.env.scope x)(r:RelV v u)
  (h:∀s',Inv X pins (σ.set i (AA v)) H s'->Q () s') (hf:X.fn x=AB \/ X.env.scope.names.lookup x=AA .local:=by first|exact .inl rfl|exact .inr rfl|assumption):A1 M A (storeName X.env x u) Q E s:=
 zgP I hN hi hx r (λs' I' _=>h s' I') hf
theorem Inv.call'{s':AJ}{ch:List AI}(I:Inv X pins σ H s)(ho:s'.os=s.os)(u:Un (frs X.stack) ch H H' s.heap s'.heap)(hok:HOk X.prog X.w H' s'.heap)(hg:DX s'.gens)
  (hch:∀b∈ch,(b∈X.ex \/ X.s₀.heap.objs.size<=b)/\b≠X.env.locals/\(∀x c,X.env.cells.lookup x=AA c->c≠b)/\∀p∈X.pn++pins,p.1≠b):Inv X pins σ H' s':=by
 let⟨h',g',d',t',o'⟩:=s';have e:o'=s.os:=ho;subst e;exact I.call (g':=g') (t':=t') (d':=d') u hok hg hch
end
abbrev XK:=AF->Option AI->Hp->Prop
abbrev St:=List (Option V)
abbrev VK:=V->Hp->Prop
abbrev TE:=St->Hp->VK->Prop
abbrev TT:=St->Hp->(Bool->Hp->Prop)->Prop
abbrev TA:=St->Hp->(List V->Hp->Prop)->Prop
structure Ends where
 nx:St->Hp->Prop
 rt:VK
 bk:St->Hp->Prop:=λ_ _=>False
 ct:St->Hp->Prop:=λ_ _=>False
abbrev TS:=Ends->St->Hp->Prop
def EP(X:Cx)(pins:List (AI×CA))(σ:St)(Q:VK)(u:AF)(s':AJ):Prop:=∃v H',Inv X pins σ H' s'/\RelV v u/\Q v H'
def TP(X:Cx)(pins:List (AI×CA))(σ:St)(Q:Bool->Hp->Prop)(b:Bool)(s':AJ):Prop:=∃H',Inv X pins σ H' s'/\Q b H'
def AP(X:Cx)(pins:List (AI×CA))(σ:St)(Q:List V->Hp->Prop)(us:List AF)(s':AJ):Prop:=∃vs H',Inv X pins σ H' s'/\Vals vs us/\Q vs H'
def SP(X:Cx)(pins:List (AI×CA))(D:Ends)(f:Flow)(s':AJ):Prop:=
 match f with
 |.next=>∃σ' H',Inv X pins σ' H' s'/\D.nx σ' H'
 |.brk=>∃σ' H',Inv X pins σ' H' s'/\D.bk σ' H'
 |.cont=>∃σ' H',Inv X pins σ' H' s'/\D.ct σ' H'
 |.ret u=>∃v σ' H',Inv X pins σ' H' s'/\RelV v u/\D.rt v H'
def PE(X:Cx)(e:AU)(t:TE):Prop:=
 ∀(pins:List (AI×CA)) (s:AJ) (σ:St) (H:Hp) (Q:VK),Inv X pins σ H s->t σ H Q->A1 (model X.prog X.w) X.A (eval e X.env) (EP X pins σ Q) X.xe s
def PT(X:Cx)(e:AU)(t:TT):Prop:=
 ∀(pins:List (AI×CA)) (s:AJ) (σ:St) (H:Hp) (Q:Bool->Hp->Prop),Inv X pins σ H s->t σ H Q->A1 (model X.prog X.w) X.A (isTrue e X.env (eval e X.env)) (TP X pins σ Q) X.xe s
def PW(X:Cx)(e:AU)(t:TT):Prop:=
 ∀(whole:Gj AF) (pins:List (AI×CA)) (s:AJ) (σ:St) (H:Hp) (Q:Bool->Hp->Prop),Inv X pins σ H s->t σ H Q->A1 (model X.prog X.w) X.A (isTrue e X.env whole) (TP X pins σ Q) X.xe s
theorem PW.pt{X:Cx}{e:AU}{t:TT}(h:PW X e t):PT X e t:=h _
def PA(X:Cx)(es:List AU)(t:TA):Prop:=
 ∀(pos:CP) (pins:List (AI×CA)) (s:AJ) (σ:St) (H:Hp) (Q:List V->Hp->Prop),Inv X pins σ H s->t σ H Q->A1 (model X.prog X.w) X.A (spliced (backTo pos (starEach es X.env))) (AP X pins σ Q) X.xe s
def PS(X:Cx)(st:Bt)(t:TS):Prop:=
 ∀(pins:List (AI×CA)) (s:AJ) (σ:St) (H:Hp) (D:Ends),Inv X pins σ H s->t D σ H->A1 (model X.prog X.w) X.A (exec st X.env) (SP X pins D) X.xe s
def PSs(X:Cx)(st:List Bt)(t:TS):Prop:=
 ∀(pins:List (AI×CA)) (s:AJ) (σ:St) (H:Hp) (D:Ends),Inv X pins σ H s->t D σ H->A1 (model X.prog X.w) X.A (execs st X.env) (SP X pins D) X.xe s
theorem thn{α:Type}{t:Gj α}{Q Q':α->AJ->Prop}{M:Model}{A:Ao}{E:AF->AJ->Prop}{s:AJ}(h:A1 M A t Q E s)(hQ:∀a s,Q a s->Q' a s):A1 M A t Q' E s:=CV h hQ λ_ _ x=>x
section
variable {X:Cx}
theorem bin{a b:AU}{ta tb:TE}(ha:PE X a ta)(hb:PE X b tb){pins:List (AI×CA)}{s:AJ}{σ:St}{H:Hp}{R:V->V->Hp->Prop}(I:Inv X pins σ H s)(h:ta σ H λx H1=>tb σ H1 λy H2=>R x y H2)
  {α:Type} {Q:α->AJ->Prop} {f:AF->AF->Gj α}
  (hf:∀v u s2 x y H2,Inv X pins σ H2 s2->RelV x v->RelV y u->R x y H2->A1 (model X.prog X.w) X.A (f v u) Q X.xe s2):
  A1 (model X.prog X.w) X.A (eval a X.env) (λv s₁=>A1 (model X.prog X.w) X.A (eval b X.env) (λu s₂=>A1 (model X.prog X.w) X.A (f v u) Q X.xe s₂) X.xe s₁) X.xe s:=by
 refine thn (ha pins s σ H _ I h) λv s1 kq=>?_;let⟨x,H1,I1,r1,q1⟩:=kq;refine thn (hb pins s1 σ H1 _ I1 q1) λu s2 kq=>?_;let⟨y,H2,I2,r2,q2⟩:=kq;exact hf v u s2 x y H2 I2 r1 r2 q2
def yfl(i:Nat):TE:=λσ H Q=>∃v,σ[i]?=AA (AA v)/\Q v H
def tC(v:V):TE:=λ_ H Q=>Q v H
theorem zj2{i:Nat}{x:AR}{pos:CP}(hN:X.N[i]?=AA x)(hv:Vis X.env.scope x)(hd:(x==("__debug__":AR))=false:=by decide)(hcd:(x==("__classdict__":AR))=false:=by decide):PE X (.Name x pos) (yfl i):=by
 intro pins s σ H Q I h;let⟨v,e,h⟩:=h;let⟨m,hn,hl⟩:=I.loc;let⟨u,r,l⟩:=hl i x v hN e hv;have fin:EP X pins σ Q u s:=⟨v,H,I,r,h⟩;rcases l with⟨hk,hm⟩|⟨hk,c,hc,hcell⟩
 .exact G7 (FD I.ok.kind hk hn hm fin) hd
 .rcases hk with hk|hk
  .exact G7 (FR I.ok.kind hk hc hcell fin) hd
  .exact G7 (wpAny_loadName_free I.ok.kind hk hc hcell fin hcd) hd
theorem ydc{i j pos}:PE X (.Constant (.int i) j pos) (tC (.int i)):=λ_ _ _ H _ I h=>wpAny_Constant_int ⟨.int i,H,I.tok _,⟨_,rfl⟩,h⟩
theorem ydM{b j pos}:PE X (.Constant (.bool b) j pos) (tC (.bl b)):=λ_ _ _ H _ I h=>Constant_bool ⟨.bl b,H,I,rfl,h⟩
theorem ydt{j pos}:PE X (.Constant .none j pos) (tC .non):=λ_ _ _ H _ I h=>Constant_none ⟨.non,H,I,rfl,h⟩
theorem yc0{x j pos}:PE X (.Constant (.str x) j pos) (tC (.str x)):=λ_ _ _ H _ I h=>Calls.Constant_str ⟨.str x,H,I.tok _,⟨_,rfl⟩,h⟩
def Gl(X:Cx)(x:AR):Prop:=X.env.kindOf x=AA .globalImplicit
theorem zcy{E:AF->AJ->Prop}{pins:List (AI×CA)}{s:AJ}{σ:St}{H:Hp}{x:AR}{u:AF}{pos:CP}{Q:AF->AJ->Prop}(I:Inv X pins σ H s)(hg:Gl X x)(hm:X.mg x=AA u)(h:Q u s)
  (hd:(x==("__debug__":AR))=false:=by decide):A1 (model X.prog X.w) X.A (eval (.Name x pos) X.env) Q E s:=
 Dr I.ok.kind hg (Calls.loadGlobal_global (by rw[I.ok.glob];exact I.mod.glob.keeps I.bk) hm h) hd
theorem zdd{E:AF->AJ->Prop}{pins:List (AI×CA)}{s:AJ}{σ:St}{H:Hp}{x:AR}{u:AF}{pos:CP}{Q:AF->AJ->Prop}(I:Inv X pins σ H s)(hg:Gl X x)(hm:X.mg x=AD)(hv:bootBuiltins x=AA u)(h:Q u s)
  (hn:x ≠ "__name__":=by decide) (hd:(x==("__debug__":AR))=false:=by decide):A1 (model X.prog X.w) X.A (eval (.Name x pos) X.env) Q E s:=by
 let⟨mb,h1,h2⟩:=I.mod.blt;exact Dr I.ok.kind hg (Calls.loadGlobal_builtin (by rw[I.ok.glob];exact I.mod.glob.keeps I.bk) hm (by rw[I.ok.blt];exact h1.keeps I.bk) ((h2 x hn).trans hv) h) hd
theorem zcO{x:AR}{v:V}{u:AF}{pos:CP}(hg:Gl X x)(hm:X.mg x=AA u)(r:RelV v u)(hd:(x==("__debug__":AR))=false:=by decide):PE X (.Name x pos) (tC v):=
 λ_ _ _ H _ I h=>zcy I hg hm ⟨v,H,I,r,h⟩ hd
theorem zkM{x:AR}{v:V}{u:AF}{pos:CP}(hg:Gl X x)(hm:X.mg x=AD)(hv:bootBuiltins x=AA u)(r:RelV v u)(hn:x ≠ "__name__":=by decide)(hd:(x==("__debug__":AR))=false:=by decide):PE X (.Name x pos) (tC v):=
 λ_ _ _ H _ I h=>zdd I hg hm hv ⟨v,H,I,r,h⟩ hn hd
variable {a b:AU}{ta tb:TE}{pos:CP}
variable {tA tB':TT}{rest:List AU}
def yfH(t u:TT):TT:=λσ H Q=>t σ H λc H1=>if c=AB then u σ H1 Q else Q AC H1
def tOr(t u:TT):TT:=λσ H Q=>t σ H λc H1=>if c=AB then Q AB H1 else u σ H1 Q
def ygb(t:TT):TT:=λσ H Q=>t σ H λc H1=>Q (!c) H1
theorem zkD(ha:PT X a tA):PW X (.BoolOp .And [a] pos) tA:=by
 intro wh pins s σ H Q I h;refine isTrue_and (thn (ha pins s σ H Q I h) λc s1 e=>?_)
 cases c with
 |true=>exact isTrue_and_nil e
 |false=>exact e
theorem zlZ(ha:PT X a tA):PW X (.BoolOp .Or [a] pos) tA:=by
 intro wh pins s σ H Q I h;refine isTrue_or (thn (ha pins s σ H Q I h) λc s1 e=>?_)
 cases c with
 |false=>exact isTrue_or_nil e
 |true=>exact e
theorem znS(ha:PT X a tA)(hb:PW X (.BoolOp .And (b::rest) pos) tB'):PW X (.BoolOp .And (a::b::rest) pos) (yfH tA tB'):=by
 intro wh pins s σ H Q I h;refine isTrue_and (thn (ha pins s σ H _ I h) λc s1 kq=>?_);let⟨H1,I1,q1⟩:=kq
 cases c with
 |true=>exact hb wh pins s1 σ H1 Q I1 q1
 |false=>exact⟨H1,I1,q1⟩
theorem zou(ha:PT X a tA)(hb:PW X (.BoolOp .Or (b::rest) pos) tB'):PW X (.BoolOp .Or (a::b::rest) pos) (tOr tA tB'):=by
 intro wh pins s σ H Q I h;refine isTrue_or (thn (ha pins s σ H _ I h) λc s1 kq=>?_);let⟨H1,I1,q1⟩:=kq
 cases c with
 |true=>exact⟨H1,I1,q1⟩
 |false=>exact hb wh pins s1 σ H1 Q I1 q1
theorem zn1(ha:PT X a tA):PT X (.UnaryOp .Not a pos) (ygb tA):=by
 intro pins s σ H Q I h;exact isTrue_not (ha pins s σ H (λc H1=>Q (!c) H1) I h)
def ydR(ta tb:TE):TE:=λσ H Q=>ta σ H λx H1=>∃c,x=.bl c/\if c=AB then tb σ H1 Q else Q (.bl AC) H1
def ygi(ta tb:TE):TE:=λσ H Q=>ta σ H λx H1=>∃c,x=.bl c/\if c=AB then Q (.bl AB) H1 else tb σ H1 Q
def yeh(ta:TE):TE:=λσ H Q=>ta σ H λx H1=>∃c,x=.bl c/\Q (.bl (!c)) H1
theorem zmK{op}{t:TE}(h:PE X a t):PE X (.BoolOp op [a] pos) t:=λpins s σ H Q I hw=>BoolOp_one (h pins s σ H Q I hw)
theorem zmj(ha:PE X a ta)(hb:PE X (.BoolOp .And (b::rest) pos) tb):PE X (.BoolOp .And (a::b::rest) pos) (ydR ta tb):=by
 intro pins s σ H Q I h;refine BoolOp_and (thn (ha pins s σ H _ I h) λv s1 kq=>?_);let⟨x,H1,I1,r1,q1⟩:=kq;let⟨c,rfl,q1⟩:=q1
 cases r1
 refine BX ?_
 cases c with
 |true=>exact hb pins s1 σ H1 Q I1 q1
 |false=>exact⟨.bl AC,H1,I1,rfl,q1⟩
theorem zom(ha:PE X a ta)(hb:PE X (.BoolOp .Or (b::rest) pos) tb):PE X (.BoolOp .Or (a::b::rest) pos) (ygi ta tb):=by
 intro pins s σ H Q I h;refine BoolOp_or (thn (ha pins s σ H _ I h) λv s1 kq=>?_);let⟨x,H1,I1,r1,q1⟩:=kq;let⟨c,rfl,q1⟩:=q1
 cases r1
 refine BX ?_
 cases c with
 |false=>exact hb pins s1 σ H1 Q I1 q1
 |true=>exact⟨.bl AB,H1,I1,rfl,q1⟩
theorem znO(ha:PE X a ta):PE X (.UnaryOp .Not a pos) (yeh ta):=by
 intro pins s σ H Q I h;refine UnaryOp_ (thn (ha pins s σ H _ I h) λv s1 kq=>?_);let⟨x,H1,I1,r1,q1⟩:=kq;let⟨c,rfl,q1⟩:=q1
 cases r1
 exact not_of (BX ⟨.bl (!c),H1,I1,rfl,q1⟩)
def tIf(t:TT)(ta tb:TE):TE:=λσ H Q=>t σ H λc H1=>if c=AB then ta σ H1 Q else tb σ H1 Q
theorem ziQ{c:AU}(hc:PT X c tA)(ha:PE X a ta)(hb:PE X b tb):PE X (.IfExp c a b pos) (tIf tA ta tb):=by
 intro pins s σ H Q I h;refine wpAny_IfExp (thn (hc pins s σ H _ I h) λd s1 kq=>?_);let⟨H1,I1,q1⟩:=kq
 cases d with
 |true=>exact ha pins s1 σ H1 Q I1 q1
 |false=>exact hb pins s1 σ H1 Q I1 q1
end
def SqL(K:AE)(H:Hp)(a:AI)(xs:List V):Prop:=
 Rd H a (.lst xs) \/
  ∃(o:CA) (its:Array AF) (n:Nat),K.lookup a=AA o/\o.cls=.type "list"/\o.dict=AD/\o.data=.seq its n/\its.size<=sizeLine/\Vals xs its.toList
def SqT(K:AE)(H:Hp)(a:AI)(xs:List V):Prop:=
 Rd H a (.tup xs) \/
  ∃(o:CA) (its:Array AF) (n:Nat),K.lookup a=AA o/\o.cls=.type "tuple"/\o.data=.seq its n/\its.size<=sizeLine/\Vals xs its.toList
def yfB:AF->Option V
 |.none=>AA .non
 |.bool b=>AA (.bl b)
 |.int i _=>AA (.int i)
 |.str x _=>AA (.str x)
 |.bytes b _=>AA (.byt b)
 |.float b _=>AA (.flt b)
 |.ref a=>AA (.ref a)
 |.type n=>AA (.ty n)
 |_=>AD
theorem RelV.abs{x:V}{u:AF}(r:RelV x u):yfB u=AA x:=by
 cases x with
 |non=>cases r;rfl
 |bl _=>cases r;rfl
 |int _=>let⟨t,rfl⟩:=r;rfl
 |str _=>let⟨t,rfl⟩:=r;rfl
 |byt _=>let⟨t,rfl⟩:=r;rfl
 |flt _=>let⟨t,rfl⟩:=r;rfl
 |ref _=>cases r;rfl
 |ty _=>cases r;rfl
theorem RelV.inj{x y:V}{u:AF}(r:RelV x u)(q:RelV y u):x=y:=AZ (r.abs.symm.trans q.abs)
theorem Vals.inj:∀{xs ys:List V} {us:List AF},Vals xs us->Vals ys us->xs=ys
 |_,_,_,.nil,.nil=>rfl
 |_,_,_,.cons r t,.cons r' t'=>by rw[r.inj r',Vals.inj t t']
section
variable {X:Cx}{pins:List (AI×CA)}{σ:St}{H:Hp}{s:AJ}{a:AI}{xs ys:List V}
theorem SqL.of{K:AE}(h:H a=AA (.lst xs)):SqL K H a xs:=.inl (.inl h)
theorem Inv.list(I:Inv X pins σ H s)(h:SqL X.K H a xs):∃its:List AF,Vals xs its/\PlainL s.heap a its.toArray/\xs.length<=sizeLine:=by
 rcases h with h|⟨o,its,n,hk,hc,hd,hs,hz,r⟩
 .let⟨z,its,n,r,e⟩:=h.ok I.hok;exact⟨its,r,⟨_,n,e,rfl,rfl,rfl⟩,z⟩
 .refine⟨its.toList,r,⟨o,n,I.kIn a o hk,hc,hd,by simpa using hs⟩,?_⟩;have e:=r.length;erw[CB]at e;lia
theorem Inv.tuple(I:Inv X pins σ H s)(h:SqT X.K H a xs):∃its:List AF,Vals xs its/\G5 s.heap a its.toArray/\xs.length<=sizeLine:=by
 rcases h with h|⟨o,its,n,hk,hc,hs,hz,r⟩
 .let⟨z,its,r,p⟩:=h.ok I.hok;exact⟨its,r,p,z⟩
 .refine⟨its.toList,r,⟨o,I.kIn a o hk,hc,n,by simpa using hs⟩,?_⟩;have e:=r.length;erw[CB]at e;lia
theorem Inv.list_inj(I:Inv X pins σ H s)(h:SqL X.K H a xs)(h':SqL X.K H a ys):xs=ys:=by
 let⟨its,r,⟨o,n,e,_,_,d⟩,_⟩:=I.list h;let⟨its',r',⟨o',n',e',_,_,d'⟩,_⟩:=I.list h';rw[e]at e';cases e';rw[d]at d';injection d' with d1 _;have:its=its':=by simpa using congrArg Gq d1
 subst this;exact r.inj r'
theorem Inv.tuple_inj(I:Inv X pins σ H s)(h:SqT X.K H a xs)(h':SqT X.K H a ys):xs=ys:=by
 let⟨its,r,⟨o,e,_,n,d⟩,_⟩:=I.tuple h;let⟨its',r',⟨o',e',_,n',d'⟩,_⟩:=I.tuple h';rw[e]at e';cases e';rw[d]at d';injection d' with d1 _;have:its=its':=by simpa using congrArg Gq d1
 subst this;exact r.inj r'
end
section
variable {X:Cx}{pins:List (AI×CA)}{σ:St}{H:Hp}{s:AJ}{E:AF->AJ->Prop}
end
section
variable {X:Cx}{st:Bt}{rest:List Bt}{t u:TS}{e:AU}{te:TE}{pos:CP}
def yd7:TS:=λD σ H=>D.nx σ H
def yfn(t u:TS):TS:=λD σ H=>t {D with nx:=u D} σ H
theorem ycr:PSs X [] yd7:=λ_ _ σ H _ I h=>D5 ⟨σ,H,I,h⟩
theorem zfp(h1:PS X st t)(h2:PSs X rest u):PSs X (st::rest) (yfn t u):=by
 intro pins s σ H D I h;refine GB (thn (h1 pins s σ H {D with nx:=u D} I h) λf s1 q=>?_)
 cases f with
 |next=>
  let⟨σ',H',I',q⟩:=q;exact h2 pins s1 σ' H' D I' q
 |ret v=>exact q
 |brk=>exact q
 |cont=>exact q
theorem zlm(h1:PS X st t):PSs X [st] t:=by
 intro pins s σ H D I h;refine GB (thn (h1 pins s σ H D I h) λf s1 q=>?_)
 cases f with
 |next=>exact D5 q
 |ret v=>exact q
 |brk=>exact q
 |cont=>exact q
theorem Inv.quiet{pins:List (AI×CA)}{σ:St}{H:Hp}{s:AJ}(I:Inv X pins σ H s):interactive X.env=false:=by simp[interactive,I.ok.kind]
def yen(te:TE):TS:=λD σ H=>te σ H λ_ H1=>D.nx σ H1
theorem zlt(he:PE X e te)(hs:swapsWith e AD pos.line X.env=pure false:=by rfl):PS X (.Expr e pos) (yen te):=by
 intro pins s σ H D I h;exact wpAny_Expr_any (thn (he pins s σ H _ I h) λv s1 ⟨x,H1,I1,r1,q1⟩=>⟨σ,H1,I1,q1⟩) I.quiet hs
def yf8(te:TE):TS:=λD σ H=>te σ H D.rt
theorem zkc(he:PE X e te):PS X (.Return (AA e) pos) (yf8 te):=by
 intro pins s σ H D I h;exact wpAny_Return_some (thn (he pins s σ H _ I h) λv s1 ⟨x,H1,I1,r1,q1⟩=>⟨x,σ,H1,I1,r1,q1⟩)
def yex:TS:=λD _ H=>D.rt .non H
theorem ycF:PS X (.Return AD pos) yex:=λ_ _ σ H _ I h=>wpAny_Return_none ⟨.non,σ,H,I,rfl,h⟩
def ygh(c:TT)(t u:TS):TS:=λD σ H=>c σ H λb H1=>if b=AB then t D σ H1 else u D σ H1
theorem zov{c:AU}{a b:List Bt}{tc:TT}(hc:PT X c tc)(ha:PSs X a t)(hb:PSs X b u):PS X (.If c a b pos) (ygh tc t u):=by
 intro pins s σ H D I h;refine wpAny_If (thn (hc pins s σ H _ I h) λd s1 kq=>?_);let⟨H1,I1,q1⟩:=kq
 cases d with
 |true=>exact ha pins s1 σ H1 D I1 q1
 |false=>exact hb pins s1 σ H1 D I1 q1
end
abbrev TG:=V->St->Hp->(St->Hp->Prop)->Prop
abbrev TGs:=List V->St->Hp->(St->Hp->Prop)->Prop
def PG(X:Cx)(target:AU)(t:TG):Prop:=
 ∀(pins:List (AI×CA)) (s:AJ) (σ:St) (H:Hp) (v:V) (u:AF) (Q:St->Hp->Prop),Inv X pins σ H s->RelV v u->t v σ H Q ->
  A1 (model X.prog X.w) X.A (assign target X.env u) (λ_ s'=>∃σ' H',Inv X pins σ' H' s'/\Q σ' H') X.xe s
def PGs(X:Cx)(ts:List AU)(t:TGs):Prop:=
 ∀(pins:List (AI×CA)) (s:AJ) (σ:St) (H:Hp) (vs:List V) (us:List AF) (Q:St->Hp->Prop),Inv X pins σ H s->Vals vs us->t vs σ H Q ->
  A1 (model X.prog X.w) X.A (assignInOrder ((assignEach ts X.env).map (·.2)) us) (λ_ s'=>∃σ' H',Inv X pins σ' H' s'/\Q σ' H') X.xe s
abbrev yeC:=V->V->V->Hp->(Hp->Prop)->Prop
def ye4(X:Cx)(t:yeC):Prop:=
 ∀(pins:List (AI×CA)) (s:AJ) (σ:St) (H:Hp) (o i v:V) (ov iv u:AF) (Q:Hp->Prop),Inv X pins σ H s->RelV o ov->RelV i iv->RelV v u->t o i v H Q ->
  A1 (model X.prog X.w) X.A (setItem ov iv u) (λ_ s'=>∃H',Inv X pins σ H' s'/\Q H') X.xe s
abbrev TIp:=V->V->Hp->VK->Prop
def PIp(X:Cx)(op:D1)(t:TIp):Prop:=
 ∀(pins:List (AI×CA)) (s:AJ) (σ:St) (H:Hp) (x y:V) (v u:AF) (Q:VK),Inv X pins σ H s->RelV x v->RelV y u->t x y H Q ->
  A1 (model X.prog X.w) X.A (inplaceOp op v u) (EP X pins σ Q) X.xe s
section
variable {X:Cx}{pos:CP}
def ydd(i:Nat):TG:=λv σ H Q=>Q (σ.set i (AA v)) H
theorem zhL{i:Nat}{x:AR}(hN:X.N.Nodup)(hi:X.N[i]?=AA x)(hx:Loc X.env.scope x)(hf:X.fn x=AB \/ X.env.scope.names.lookup x=AA .local:=by first|exact .inl rfl|exact .inr rfl|assumption):PG X (.Name x pos) (ydd i):=by
 intro pins s σ H v u Q I r h;exact wpAny_assign_Name (zbw I hN hi hx r (λs' I'=>⟨_,H,I',h⟩) hf)
def ygm:TGs:=λvs σ H Q=>vs=[]/\Q σ H
def yd0(t:TG)(u:TGs):TGs:=λvs σ H Q=>∃v r,vs=v::r/\t v σ H λσ' H'=>u r σ' H' Q
theorem ycq:PGs X [] ygm:=by
 intro pins s σ H vs us Q I r h;let⟨e,h⟩:=h;subst e
 cases r
 exact Fe ⟨σ,H,I,h⟩
theorem zjn{e:AU}{es:List AU}{t:TG}{u:TGs}(h1:PG X e t)(h2:PGs X es u)
  (hs:(assignEach (e::es) X.env).map (·.2)=assign e X.env::(assignEach es X.env).map (·.2):=by rfl):PGs X (e::es) (yd0 t u):=by
 intro pins s σ H vs us Q I r h;let⟨v,vr,e1,h⟩:=h;subst e1
 cases r with
 |cons r rr=>
  rw[hs];refine Ds (thn (h1 pins s σ H _ _ _ I r h) λ_ s1 kq=>?_);let⟨σ1,H1,I1,q1⟩:=kq;exact h2 pins s1 σ1 H1 _ _ Q I1 rr q1
def yf4(K:AE)(n:Nat)(t:TGs):TG:=λv σ H Q=>∃a xs,v=.ref a/\SqT K H a xs/\xs.length=n/\t xs σ H Q
theorem zl1{es:List AU}{k:Nat}{t:TGs}{n:Nat}(hc:X.calm=AB)(h:PGs X es t)
  (hn:(assignEach es X.env).length=n:=by rfl) (hst:(assignEach es X.env).findIdx? (·.1)=none:=by rfl):PG X (.Tuple es k pos) (yf4 X.K n t):=by
 intro pins s σ H v u Q I r hw;let⟨a,xs,e1,hq,hl,hw⟩:=hw;subst e1
 cases r
 let⟨its,rv,ht,hz⟩:=I.tuple hq;refine assign_Tuple_tuple (I.ok.hd hc) ht (by simp[hn,<-hl,rv.length]) hst λh' hx=>?_;have I1:Inv X pins σ H {s with heap:=h'}:=I.kept (t':=s.toks) λb o e=>hx b o (Aj (AW e)) e;exact h pins _ σ H xs _ Q I1 (by simpa using rv) hw
def yeT(to ti:TE)(t:yeC):TG:=λv σ H Q=>to σ H λo H1=>ti σ H1 λi H2=>t o i v H2 λH3=>Q σ H3
theorem zjR{o i:AU}{to ti:TE}{t:yeC}(ho:PE X o to)(hi:PE X i ti)(hs:ye4 X t)
  (ha:∀v,assign (.Subscript o i pos) X.env v=(do
   let ov <-holding [v] (eval o X.env)
   let iv <-holding [v,ov] (eval i X.env)
   standAt pos
   holding [v,ov,iv] (setItem ov iv v)
   release [v,ov,iv] []):=by intro _;rfl):PG X (.Subscript o i pos) (yeT to ti t):=by
 intro pins s σ H v u Q I r h;rw[ha];refine AH (DY (thn (ho pins s σ H _ I h) λov s1 kq=>?_));let⟨x,H1,I1,r1,q1⟩:=kq;refine AH (DY (thn (hi pins s1 σ H1 _ I1 q1) λiv s2 kq=>?_));let⟨y,H2,I2,r2,q2⟩:=kq;refine AH (ET (AH (DY (thn (hs pins s2 σ H2 x y v ov iv u _ I2 r1 r2 r q2) λ_ s3 kq=>?_))));let⟨H3,I3,q3⟩:=kq;exact wpAny_release ⟨σ,H3,I3,q3⟩
def yeL(te:TE)(g:TG):TS:=λD σ H=>te σ H λx H1=>g x σ H1 D.nx
theorem zjY{tg e:AU}{te:TE}{g:TG}(he:PE X e te)(hg:PG X tg g)(hs:swapsWithSole [tg] e pos.line X.env=pure false:=by rfl)(hw:swappedStores [tg] e X.env=pure none:=by rfl)
  (h1:(assignEach [tg] X.env).map (·.2)=[assign tg X.env]:=by rfl):PS X (.Assign [tg] e pos) (yeL te g):=by
 intro pins s σ H D I h;refine wpAny_Assign_stores (thn (he pins s σ H _ I h) λv s1 kq=>?_) hs hw;let⟨x,H1,I1,r1,q1⟩:=kq;rw[h1];exact thn (hg pins s1 σ H1 x v _ I1 r1 q1) λ_ s2 q=>q
theorem zj4{i:Nat}{x:AR}{e:AU}{te:TE}{pos':CP}(hN:X.N.Nodup)(hi:X.N[i]?=AA x)(hx:Loc X.env.scope x)(he:PE X e te)(hs:swapsWith e (AA (.Name x pos')) pos.line X.env=pure false:=by rfl)(hf:X.fn x=AB \/ X.env.scope.names.lookup x=AA .local:=by first|exact .inl rfl|exact .inr rfl|assumption):
  PS X (.Assign [.Name x pos'] e pos) (yeL te (ydd i)):=by
 intro pins s σ H D I h;refine wpAny_Assign_Name (thn (he pins s σ H _ I h) λv s1 kq=>?_) hs;let⟨y,H1,I1,r1,q1⟩:=kq;exact zbw I1 hN hi hx r1 (λs2 I2=>⟨_,H1,I2,q1⟩) hf
def yeP(i j:Nat)(ta:TA):TS:=λD σ H=>ta σ H λvs H1=>∃v w,vs=[v,w]/\D.nx ((σ.set i (AA v)).set j (AA w)) H1
theorem znB{i j:Nat}{x y:AR}{a b:AU}{ta:TA}{px py pt:CP}{kt k2 pt2}(hc:X.calm=AB)(hN:X.N.Nodup)(hi:X.N[i]?=AA x)(hj:X.N[j]?=AA y)(hij:i≠j)
  (hx:X.env.scope.names.lookup x=AA .local) (hy:X.env.scope.names.lookup y=AA .local) (ha:PA X [a,b] ta)
  (hw:swappedStores [.Tuple [.Name x px,.Name y py] kt pt] (.Tuple [a,b] k2 pt2) X.env=pure (AA [x,y]))
  (hs:swapsWithSole [.Tuple [.Name x px,.Name y py] kt pt] (.Tuple [a,b] k2 pt2) pos.line X.env=pure false:=by rfl):
  PS X (.Assign [.Tuple [.Name x px,.Name y py] kt pt] (.Tuple [a,b] k2 pt2) pos) (yeP i j ta):=by
 intro pins s σ H D I h;rw[exec_Assign_arm];refine AH (ET ?_);rw[hs];refine AH (AV ?_);rw[if_neg (by decide)];refine AH (Tuple_ (thn (ha _ pins s σ H _ I h) λus s1 kq=>?_));let⟨vs,H1,I1,r1,q1⟩:=kq;let⟨v,w,e1,q1⟩:=q1;subst e1;obtain⟨u1,u2,rfl,rv,rw'⟩:∃u1 u2,us=[u1,u2]/\RelV v u1/\RelV w u2:=by
  cases r1 with
  |cons p q=>
   cases q with
   |cons p' q'=>
    cases q'
    exact⟨_,_,rfl,p,p'⟩
 refine Bn ?_ (by show 2<=sizeLine;decide);have I2:Inv X pins σ H1 {s1 with heap:=s1.heap.push {cls:=.type "tuple",data:=.seq [u1,u2].toArray} }:=I1.kept (t':=s1.toks) λb o e=>AQ _ e;rw[hw];refine AH (AV ?_);show A1 (model X.prog X.w) X.A (do rule "assign.swapped-stores";let items <-unpackItems (.ref s1.heap.objs.size) 2 AD;assignInOrder [λv=>bindName X.env y v,λv=>bindName X.env x v] items.reverse;pure Flow.next) _ _ _;refine AH (Ee (AH (unpackItems_tuple (items:=#[u1,u2]) (I.ok.hd hc) (FM s1.heap _) λh' hx'=>?_)));have I3:=I2.kept (h':=h') (t':=s1.toks) λb o e=>hx' b o (Aj (AW e)) e;show A1 _ _ (assignInOrder [λv=>bindName X.env y v,λv=>bindName X.env x v] [u2,u1] >>= λ_=>pure Flow.next) _ _ _;refine AH (Ds (wpAny_bindName (zbw I3 hN hj (.inl hy) rw' (λs2 I4=>?_) (.inr hy))));refine Ds (wpAny_bindName (zbw I4 hN hi (.inl hx) rv (λs3 I5=>Fe (AV ?_)) (.inr hx)));rw[Gk _ _ (BK hij)]at I5;exact⟨_,H1,I5,q1⟩
def yfy(i:Nat)(te:TE)(ti:TIp):TS:=λD σ H=>∃x,σ[i]?=AA (AA x)/\te σ H λy H1=>ti x y H1 λz H2=>D.nx (σ.set i (AA z)) H2
theorem zjK{i:Nat}{x:AR}{e:AU}{te:TE}{op:D1}{ti:TIp}{pos':CP}(hN:X.N.Nodup)(hi:X.N[i]?=AA x)(hx:Loc X.env.scope x)(he:PE X e te)(ho:PIp X op ti)(hf:X.fn x=AB \/ X.env.scope.names.lookup x=AA .local:=by first|exact .inl rfl|exact .inr rfl|assumption):
  PS X (.AugAssign (.Name x pos') op e pos) (yfy i te ti):=by
 intro pins s σ H D I h;let⟨v,e1,h⟩:=h;let⟨m,hn,hl⟩:=I.loc;have vis:Vis X.env.scope x:=by rcases hx with k|k;exact .inl k;exact .inr (.inl k)
 let⟨u,r,l⟩:=hl i x v hi e1 vis;refine wpAny_AugAssign_Name ?_;have go:A1 (model X.prog X.w) X.A (eval e X.env) (λw s₂=>A1 (model X.prog X.w) X.A (inplaceOp op u w) (λr s₃=>A1 (model X.prog X.w) X.A (storeName X.env x r) (λ_=>SP X pins D .next) X.xe s₃) X.xe s₂) X.xe s:=by
  refine thn (he pins s σ H _ I h) λw s1 kq=>?_;let⟨y,H1,I1,r1,q1⟩:=kq;refine thn (ho pins s1 σ H1 v y u w _ I1 r r1 q1) λz s2 kq=>?_;let⟨zv,H2,I2,r2,q2⟩:=kq;exact zbw I2 hN hi hx r2 (λs3 I3=>⟨_,H2,I3,q2⟩) hf
 rcases l with⟨hk,hm⟩|⟨hk,c,hc,hcell⟩
 .exact FD I.ok.kind hk hn hm go
 .rcases hk with hk|hk
  .exact FR I.ok.kind hk hc hcell go
  .rcases hx with k|k
   .have:X.env.scope.names.lookup x=AA .free:=hk;rw[k]at this;cases this
   .have:X.env.scope.names.lookup x=AA .free:=hk;rw[k]at this;cases this
def ipI(f:Int->Int->Int):TIp:=λx y H Q=>∃i j,x=.int i/\y=.int j/\Q (.int (f i j)) H
theorem znf:PIp X .Add (ipI λi j=>i+j):=by
 intro pins s σ H x y v u Q I r1 r2 h;let⟨i,j,e1,e2,q⟩:=h;subst e1;subst e2;let⟨t,rfl⟩:=r1;let⟨t',rfl⟩:=r2;exact G2 ⟨.int _,H,I.tok _,⟨_,rfl⟩,q⟩
end
section
variable {X:Cx}{pos:CP}
def ydv(c:TT)(tb:TS):TS:=λD σ H=>∃W:Nat->St->Hp->Prop,(∃m,W m σ H)/\∀m σ H,W m σ H ->
 c σ H λb H1=>if b=AB then ∃N:St->Hp->Prop,(∀σ' H',N σ' H'->∃m',m' < m/\W m' σ' H')/\tb {D with nx:=N,ct:=N,bk:=D.nx} σ H1 else D.nx σ H1
theorem zi0{c:AU}{body:List Bt}{tc:TT}{tb:TS}(hp:EX (model X.prog X.w) X.A X.env X.xe)(hc:PT X c tc)(hb:PSs X body tb):PS X (.While c body [] pos) (ydv tc tb):=by
 intro pins s σ H D I h;let⟨W,⟨m0,w0⟩,turn⟩:=h;refine wpAny_While (codeAny_whileLoop (λn s'=>∃σ' H',Inv X pins σ' H' s'/\W n σ' H') ?_ m0 ⟨σ,H,I,w0⟩)
 rintro n s1 ⟨σ1,H1,I1,w1⟩
 refine CO hp (thn (hc pins s1 σ1 H1 _ I1 (turn n σ1 H1 w1)) λb s2 kq=>?_);let⟨H2,I2,q2⟩:=kq
 cases b with
 |true=>
  let⟨N,hN,q2⟩:=q2;rw[if_pos rfl];refine CO hp (thn (hb pins s2 σ1 H2 _ I2 q2) λf s3 q3=>?_)
  cases f with
  |next=>
   let⟨σ3,H3,I3,n3⟩:=q3;let⟨m',hm,w3⟩:=hN σ3 H3 n3;exact⟨m',hm,σ3,H3,I3,w3⟩
  |cont=>
   let⟨σ3,H3,I3,n3⟩:=q3;let⟨m',hm,w3⟩:=hN σ3 H3 n3;exact⟨m',hm,σ3,H3,I3,w3⟩
  |brk=>exact q3
  |ret v=>exact q3
 |false=>
  rw[if_neg Aw];exact D5 ⟨σ1,H2,I2,q2⟩
end
structure It where
 go:Nat->Hp->Prop
 yld:Nat->Hp->V->Hp->Prop
 stop:Nat->Hp->Prop
def ybf(X:Cx)(pins:List (AI×CA))(H:Hp)(b:AI):Prop:=
 H b=AD/\b≠X.env.locals/\b∉X.fs/\(b∈X.ex \/ X.s₀.heap.objs.size<=b)/\(∀x c,X.env.cells.lookup x=AA c->c≠b)/\∀p∈X.pn++pins,p.1≠b
theorem Inv.fpOk{X:Cx}{pins:List (AI×CA)}{σ:St}{H H':Hp}{s:AJ}{b:AI}(I:Inv X pins σ H s)(hb:s.heap.objs.size<=b)(hn:H' b=AD):ybf X pins H' b:=by
 refine⟨hn,Ef (A4 I.lt hb),I.nofs hb,.inr (BW I.sz hb),λx c e z=>?_,λp hp z=>?_⟩
 .let⟨v,q⟩:=I.cell x c e;exact absurd (A4 q.lt (by rw[z];exact hb)) (Cv _)
 .exact absurd (A4 (AW (I.pin p hp).1) (by rw[z];exact hb)) (Cv _)
structure Turn(P:A5)(w:Ai)(K:AE)(tg:AU)(J:It)(fp:List AI)(it:AI)(tn:Nat->Az->Prop):Prop where
 mem:it∈fp
 obj:∀i h,tn i h->∀b∈fp,∃o,h.get? b=AA o/\∀v,o.data ≠ .cell v
 keep:∀i h h',tn i h->(∀b∈fp,∀o,h.get? b=AA o->h'.get? b=AA o)->tn i h'
 item:∀(X:Cx),X.prog=P->X.w=w->X.K=K->X.calm=AB->∀(i:Nat) (pins:List (AI×CA)) (s:AJ) (σ:St) (H:Hp) (E:AF->AJ->Prop),Inv X pins σ H s->(∀b∈fp,ybf X pins H b)->tn i s.heap->J.go i H ->
  A1 (model P w) X.A (pyNext (.ref it)) (λr s1=>∃u,r=AA u /\
   A1 (model P w) X.A (letOwnedTupleGo tg (.ref it) u) (λ_ s2=>∃x H',Inv X pins σ H' s2/\RelV x u/\J.yld i H x H'/\tn (i+1) s2.heap/\∀b∈fp,H' b=AD) E s1) E s
 done:∀(X:Cx),X.prog=P->X.w=w->X.K=K->X.calm=AB->∀(i:Nat) (pins:List (AI×CA)) (s:AJ) (σ:St) (H:Hp) (E:AF->AJ->Prop),Inv X pins σ H s->(∀b∈fp,ybf X pins H b)->tn i s.heap->J.stop i H ->
  A1 (model P w) X.A (pyNext (.ref it)) (λr s1=>r=AD/\Inv X pins σ H s1) E s
 self:∀(A:Ao) (i:Nat) (s:AJ) (Q:AF->AJ->Prop) (E:AF->AJ->Prop),tn i s.heap->Q (.ref it) s->A1 (model P w) A (pyIter (.ref it)) Q E s
abbrev TI:=St->Hp->(It->Hp->Prop)->Prop
def PIE(X:Cx)(pins:List (AI×CA))(σ:St)(tg:AU)(R:It->Hp->Prop)(itv:AF)(s2:AJ):Prop:=
 ∃(it:AI) (fp:List AI) (tn:Nat->Az->Prop) (J:It) (H':Hp),itv=.ref it/\Inv X pins σ H' s2/\Turn X.prog X.w X.K tg J fp it tn/\tn 0 s2.heap/\(∀b∈fp,ybf X pins H' b)/\R J H'
def PI(X:Cx)(tg iter:AU)(wi:TI):Prop:=
 ∀(pins:List (AI×CA)) (s:AJ) (σ:St) (H:Hp) (R:It->Hp->Prop),Inv X pins σ H s->wi σ H R ->
  A1 (model X.prog X.w) X.A (eval iter X.env) (λv s1=>A1 (model X.prog X.w) X.A (pyIter v) (PIE X pins σ tg R) X.xe s1) X.xe s
theorem zlV{M:Model}{A:Ao}{E:AF->AJ->Prop}{s:AJ}{tg:AU}{it:AI}{u:AF}{o:CA}{n:String}{vs:Array AF}{Q:Unit->AJ->Prop}(ho:s.heap.get? it=AA o)(hc:o.cls=.type n)(hd:o.data=.fields vs)
  (hn:["enumerate","zip","dict_itemiterator","dict_reverseitemiterator","odict_iterator","itertools.zip_longest","itertools.pairwise"].contains n=AC) (hQ:Q () s):A1 M A (letOwnedTupleGo tg (.ref it) u) Q E s:=by
 unfold letOwnedTupleGo
 cases tg<;>first
  |exact AV hQ
  | (cases u<;>first
    |exact AV hQ
    | (refine AH (wpAny_load ho ?_)
       rw[hc,hd];show A1 M A (if (["enumerate","zip","dict_itemiterator","dict_reverseitemiterator","odict_iterator","itertools.zip_longest","itertools.pairwise"].contains n&&vs[0]? == AA (rawInt _))=AB then _ else _) Q E s;rw[if_neg (by intro h;rw[hn,Dt]at h;cases h)];exact AV hQ))
def Itl(K:AE)(a:AI):It:=
 ⟨λi H=>∃xs x,SqL K H a xs/\xs[i]?=AA x,λi H x H'=>H'=H/\∀xs,SqL K H a xs->xs[i]?=AA x,λi H=>∃xs,SqL K H a xs/\xs.length<=i⟩
def Itt(K:AE)(a:AI):It:=
 ⟨λi H=>∃xs x,SqT K H a xs/\xs[i]?=AA x,λi H x H'=>H'=H/\∀xs,SqT K H a xs->xs[i]?=AA x,λi H=>∃xs,SqT K H a xs/\xs.length<=i⟩
def Itr(lo:Int)(n:Nat):It:=⟨λi _=>i<n,λi H x H'=>H'=H/\x=.int (lo+i),λi _=>n<=i⟩
theorem zhJ{P:A5}{w:Ai}{K:AE}{tg:AU}(a it:AI):Turn P w K tg (Itl K a) [it] it (λi h=>h.IsListIter it a i) where
 mem:=by simp
 obj:=λi h st b hb=>by
  have e:b=it:=by simpa using hb
  subst e;let⟨o,e,c,d⟩:=st;exact⟨o,e,λv z=>by rw[d]at z;cases z⟩
 keep:=λi h h' st k=>st.at λo e=>k it (by simp) o e
 item:=by
  intro X hP hw hK hc i pins s σ H E I hf st hg;subst hP hw hK;let⟨xs,x,hq,hx⟩:=hg;let⟨its,rv,p,hz⟩:=I.list hq;let⟨u,hu,ru⟩:=rv.get hx;let⟨f0,f1,f2,f3,f4,f5⟩:=hf it (by simp);refine wpAny_pyNext_list_item st p.isList (x:=u) (by simpa using hu) λh' st' sb=>?_;have I1:Inv X pins σ H {s with heap:=h'}:=I.turned (t':=s.toks) (λb o hb e=>(sb.2 b hb).trans e) f0 f1 f3 f4 f5;let⟨o,e,c,d⟩:=id st';exact⟨u,rfl,zlV (s:={s with heap:=h'}) e c d (by decide) ⟨x,H,I1,ru,⟨rfl,λys hy=>by rw[I.list_inj hy hq];exact hx⟩,st',λb hb=>(hf b hb).1⟩⟩
 done:=by
  intro X hP hw hK hc i pins s σ H E I hf st hg;subst hP hw hK;let⟨xs,hq,hx⟩:=hg;let⟨its,rv,p,hz⟩:=I.list hq;let⟨f0,f1,f2,f3,f4,f5⟩:=hf it (by simp);have hl:=rv.length;exact wpAny_pyNext_list_end (I.ok.hd hc) st p.isList (by simp;lia) λh' eb=>⟨rfl,I.turned (t':=s.toks) (λb o hb e=>eb b o hb e) f0 f1 f3 f4 f5⟩
 self:=λ_ _ _ _ _ st h=>wpAny_pyIter_listiter st h
theorem zgo{P:A5}{w:Ai}{K:AE}{tg:AU}(a it:AI):Turn P w K tg (Itt K a) [it] it (λi h=>h.IsTupleIter it a i) where
 mem:=by simp
 obj:=λi h st b hb=>by
  have e:b=it:=by simpa using hb
  subst e;let⟨o,e,c,d⟩:=st;exact⟨o,e,λv z=>by rw[d]at z;cases z⟩
 keep:=λi h h' st k=>st.at λo e=>k it (by simp) o e
 item:=by
  intro X hP hw hK hc i pins s σ H E I hf st hg;subst hP hw hK;let⟨xs,x,hq,hx⟩:=hg;let⟨its,rv,p,hz⟩:=I.tuple hq;let⟨u,hu,ru⟩:=rv.get hx;let⟨f0,f1,f2,f3,f4,f5⟩:=hf it (by simp);refine wpAny_pyNext_tuple_item st (show s.heap.IsTuple a its.toArray from p) (x:=u) (by simpa using hu) λh' st' sb=>?_;have I1:Inv X pins σ H {s with heap:=h'}:=I.turned (t':=s.toks) (λb o hb e=>(sb.2 b hb).trans e) f0 f1 f3 f4 f5;let⟨o,e,c,d⟩:=id st';exact⟨u,rfl,zlV (s:={s with heap:=h'}) e c d (by decide) ⟨x,H,I1,ru,⟨rfl,λys hy=>by rw[I.tuple_inj hy hq];exact hx⟩,st',λb hb=>(hf b hb).1⟩⟩
 done:=by
  intro X hP hw hK hc i pins s σ H E I hf st hg;subst hP hw hK;let⟨xs,hq,hx⟩:=hg;let⟨its,rv,p,hz⟩:=I.tuple hq;let⟨f0,f1,f2,f3,f4,f5⟩:=hf it (by simp);have hl:=rv.length;exact wpAny_pyNext_tuple_end (I.ok.hd hc) st (show s.heap.IsTuple a its.toArray from p) (by simp;lia) λh' eb=>⟨rfl,I.turned (t':=s.toks) (λb o hb e=>eb b o hb e) f0 f1 f3 f4 f5⟩
 self:=λ_ _ _ _ _ st h=>wpAny_pyIter_tupleiter st h
theorem zga{P:A5}{w:Ai}{K:AE}{tg:AU}(it:AI)(lo:Int)(n:Nat):Turn P w K tg (Itr lo n) [it] it (λi h=>IsRangeIter h it (lo+(i:Nat)*1) ((n:Int)-(i:Nat)) 1) where
 mem:=by simp
 obj:=λi h st b hb=>by
  have e:b=it:=by simpa using hb
  subst e;exact⟨_,st,λv z=>by
   have z':Data.fields _=Data.cell v:=z
   cases z'⟩
 keep:=λi h h' st k=>k it (by simp) _ st
 item:=by
  intro X hP hw hK hc i pins s σ H E I hf st hg;subst hP hw hK;let⟨f0,f1,f2,f3,f4,f5⟩:=hf it (by simp);have W:=Walks.range (prog:=X.prog) (w:=X.w) (I.ok.hd hc) it lo 1 n;refine W.item i s _ _ hg st λv h' tk hv st' kk=>?_;let⟨t,rfl⟩:=hv;have I1:Inv X pins σ H {s with heap:=h',toks:=tk}:=I.turned (λb o hb e=>kk b o (by simpa using hb) e) f0 f1 f3 f4 f5;refine⟨_,rfl,zlV (s:={s with heap:=h',toks:=tk}) (n:="range_iterator") st' rfl rfl (by decide) ⟨.int (lo+i),H,I1,⟨t,?_⟩,⟨rfl,rfl⟩,st',λb hb=>(hf b hb).1⟩⟩;rw[Cj]
 done:=by
  intro X hP hw hK hc i pins s σ H E I hf st hg;subst hP hw hK;let⟨f0,f1,f2,f3,f4,f5⟩:=hf it (by simp);exact wpAny_pyNext_range_end (I.ok.hd hc) st (by have:n<=i:=hg;lia) λh' eb=>⟨rfl,I.turned (t':=s.toks) (λb o hb e=>eb b o hb e) f0 f1 f3 f4 f5⟩
 self:=λ_ _ _ _ _ st h=>wpAny_pyIter_rangeiter st h
section
variable {X:Cx}{tg:AU}
theorem zi1{pins:List (AI×CA)}{σ:St}{H:Hp}{s:AJ}{R:It->Hp->Prop}{E:AF->AJ->Prop}{lo hi:Int}{t u v:HV}{tk:Nat}(I:Inv X pins σ H s)(h1:-(2^62)<=lo)(h2:lo<2^62)(h3:-(2^62)<=hi)(h4:hi<2^62)
  (q:R (Itr lo (hi-lo).toNat) H):A1 (model X.prog X.w) X.A (pyIter (.ref s.heap.objs.size)) (PIE X pins σ tg R) E {s with heap:=s.heap.push {cls:=.type "range",data:=.fields #[.int lo t,.int hi u,.int 1 v]},toks:=tk}:=by
 refine wpAny_pyIter_range (IsRange.new ..) (small_one h1 h2 h3 h4) ?_;have I1:Inv X pins σ H {s with heap:=s.heap.push {cls:=.type "range",data:=.fields #[.int lo t,.int hi u,.int 1 v]},toks:=tk}:=I.kept λb o e=>AQ _ e;refine⟨(s.heap.push {cls:=.type "range",data:=.fields #[.int lo t,.int hi u,.int 1 v]}).objs.size,[(s.heap.push {cls:=.type "range",data:=.fields #[.int lo t,.int hi u,.int 1 v]}).objs.size],_,_,H,rfl,
  I1.kept (t':=tk) λb o e=>AQ _ e,zga _ lo (hi-lo).toNat,?_,λb hb=>?_,q⟩
 .have e1:lo+((0:Nat):Int)*1=lo:=by simp
  have e2:(((hi-lo).toNat:Nat):Int)-((0:Nat):Int)=Gn lo hi 1:=by rw[rangeSize_one];split<;>lia
  show IsRangeIter _ _ (lo+((0:Nat):Int)*1) ((((hi-lo).toNat:Nat):Int)-((0:Nat):Int)) 1;rw[e1,e2];exact A0 _ rfl
 .have e:b=(s.heap.push {cls:=.type "range",data:=.fields #[.int lo t,.int hi u,.int 1 v]}).objs.size:=by simpa using hb
  subst e;exact I1.fpOk (AT _) (I1.hok.fresh (AT _))
def yd2(ta:TA):TI:=λσ H R=>ta σ H λvs H1=>∃j:Int,vs=[.int j]/\-(2^62)<=j/\j<2^62/\R (Itr 0 j.toNat) H1
theorem zhc{a:AU}{ta:TA}{p pos:CP}(hg:Gl X "range")(hm:X.mg "range"=AD)(ha:PA X [a] ta)(hs:starEach [a] X.env=[(AC,eval a X.env)]:=by rfl):PI X tg (.Call (.Name "range" p) [a] [] pos) (yd2 ta):=by
 intro pins s σ H R I h;refine Call_ (zdd I hg hm boot_range (CC (thn (ha pos pins s σ H _ I h) λus s1 kq=>?_) hs rfl));let⟨vs,H1,I1,r1,q1⟩:=kq;let⟨j,e,q1,q2,q⟩:=q1;subst e
 cases r1 with
 |cons r rr=>
  cases rr
  let⟨t,rfl⟩:=r;exact call_range_1 (zi1 I1 (by lia) (by lia) q1 q2 (by simpa using q))
def yfX(wi:TI)(g:TG)(tb:TS):TS:=λD σ H=>wi σ H λJ H1=>∃W:Nat->Nat->St->Hp->Prop,(∃m,W 0 m σ H1)/\∀i m σ H,W i m σ H ->
 (J.stop i H/\D.nx σ H) \/ (J.go i H/\∃N:St->Hp->Prop,(∀σ' H',N σ' H'->∃m',m' < m/\W (i+1) m' σ' H')/\∀x H',J.yld i H x H'->g x σ H' λσ2 H2=>tb {D with nx:=N,ct:=N,bk:=D.nx} σ2 H2)
def ybe(fp:List AI)(h:Az):List (AI×CA):=fp.filterMap λb=>(h.get? b).map λo=>(b,o)
theorem zaX{fp:List AI}{h:Az}{b:AI}{o:CA}(hb:b∈fp)(e:h.get? b=AA o):(b,o)∈ybe fp h:=Du.mpr ⟨b,hb,by rw[e];rfl⟩
theorem zia{fp:List AI}{h:Az}{p:AI×CA}(hp:p∈ybe fp h):p.1∈fp/\h.get? p.1=AA p.2:=by
 let⟨b,hb,e⟩:=Du.mp hp
 cases q:h.get? b with
 |none=>rw[q]at e;cases e
 |some o=>
  rw[q]at e;have e':(b,o)=p:=AZ e;subst e';exact⟨hb,q⟩
theorem Inv.pinned{pins:List (AI×CA)}{σ:St}{H:Hp}{s:AJ}{fp:List AI}(I:Inv X pins σ H s)(hf:∀b∈fp,ybf X pins H b)(ho:∀b∈fp,∃o,s.heap.get? b=AA o/\∀v,o.data ≠ .cell v):Inv X (pins++ybe fp s.heap) σ H s:=
 I.pins_of λp hp=>(Bd.mp hp).elim (λz=>I.pin p (BF _ z)) λz=>by
  let⟨hb,e⟩:=zia z;let⟨f0,f1,f2,_⟩:=hf p.1 hb;let⟨o,e',d⟩:=ho p.1 hb;rw[e]at e';cases e';exact⟨e,f0,f1,f2,d⟩
theorem Inv.unpinned{pins pl:List (AI×CA)}{σ:St}{H:Hp}{s:AJ}(I:Inv X (pins++pl) σ H s):Inv X pins σ H s:=I.pins_of λp hp=>I.pin p (BF _ (FC _ hp))
theorem zmo{iter:AU}{body:List Bt}{wi:TI}{g:TG}{tb:TS}{pos:CP}(hp:EX (model X.prog X.w) X.A X.env X.xe)(hc:X.calm=AB)(hi:PI X tg iter wi)(hg:PG X tg g)(hb:PSs X body tb)
  (hs:∀x,foldedSetIterable iter X.env x=pure x:=by intro _;rfl):PS X (.For tg iter body [] pos) (yfX wi g tb):=by
 intro pins s σ H D I h;refine wpAny_For (thn (hi pins s σ H _ I h) λv s1 h1=>thn h1 λitv s2 h2=>?_) hs;let⟨it,fp,tn,J,H2,e,I2,T,st2,f2,W,⟨m0,w0⟩,turn⟩:=h2;subst e;have stat:∀{H':Hp},(∀b∈fp,H' b=AD)->∀b∈fp,ybf X pins H' b:=λhn b hb=>⟨hn b hb,(f2 b hb).2⟩;refine codeAny_forLoop_any (λn s'=>∃i σ' H',Inv X pins σ' H' s'/\tn i s'.heap/\(∀b∈fp,H' b=AD)/\W i n σ' H') ?_ m0 ⟨0,σ,H2,I2,st2,λb hb=>(f2 b hb).1,w0⟩
 rintro n s3 ⟨i,σ3,H3,I3,st3,fr3,w3⟩
 rcases turn i n σ3 H3 w3 with⟨stop,qn⟩|⟨go,N,hN,step⟩
 .refine CO hp (thn (T.done X rfl rfl rfl hc i pins s3 σ3 H3 X.xe I3 (stat fr3) st3 stop) λr s4 kq=>?_);let⟨hr,I4⟩:=kq;subst hr;exact D5 ⟨σ3,H3,I4,qn⟩
 .refine CO hp (thn (T.item X rfl rfl rfl hc i pins s3 σ3 H3 X.xe I3 (stat fr3) st3 go) λr s4 kq=>?_);let⟨u,hr,h4⟩:=kq;subst hr;refine CO hp (thn h4 λ_ s5 kq=>?_);let⟨x,H5,I5,r5,y5,st5,fr5⟩:=kq;have I5':=I5.pinned (stat fr5) (T.obj _ _ st5);refine CO hp (thn (hg _ s5 σ3 H5 x u _ I5' r5 (step x H5 y5)) λ_ s6 kq=>?_);let⟨σ6,H6,I6,q6⟩:=kq;refine CO hp (thn (hb _ s6 σ6 H6 _ I6 q6) λf s7 q7=>?_);have again:∀{σ7:St} {H7:Hp},Inv X (pins++ybe fp s5.heap) σ7 H7 s7->N σ7 H7->∃m,m<n/\∃i σ' H',Inv X pins σ' H' s7/\tn i s7.heap/\(∀b∈fp,H' b=AD)/\W i m σ' H':=λ{σ7 H7} I7 n7=>by
   let⟨m',hm,w7⟩:=hN σ7 H7 n7;refine⟨m',hm,i+1,σ7,H7,I7.unpinned,T.keep _ _ _ st5 λb hb o e=>(I7.pin (b,o) (BF _ (BF _ (zaX hb e)))).1,λb hb=>?_,w7⟩;let⟨o,e,d⟩:=T.obj _ _ st5 b hb;exact(I7.pin (b,o) (BF _ (BF _ (zaX hb e)))).2.1
  cases f with
  |next=>let⟨σ7,H7,I7,n7⟩:=q7;exact again I7 n7
  |cont=>let⟨σ7,H7,I7,n7⟩:=q7;exact again I7 n7
  |brk=>let⟨σ7,H7,I7,q7⟩:=q7;exact⟨σ7,H7,I7.unpinned,q7⟩
  |ret v=>let⟨x7,σ7,H7,I7,r7,q7⟩:=q7;exact⟨x7,σ7,H7,I7.unpinned,r7,q7⟩
end
abbrev R2:=V->V->Hp->VK->Prop
def OpR(X:Cx)(f:AF->AF->Gj AF)(r:R2):Prop:=
 ∀(pins:List (AI×CA)) (s:AJ) (σ:St) (H:Hp) (x y:V) (v u:AF) (Q:VK),Inv X pins σ H s->RelV x v->RelV y u->r x y H Q ->
  A1 (model X.prog X.w) X.A (f v u) (EP X pins σ Q) X.xe s
def UnR(X:Cx)(f:AF->Gj AF)(r:V->Hp->VK->Prop):Prop:=
 ∀(pins:List (AI×CA)) (s:AJ) (σ:St) (H:Hp) (x:V) (v:AF) (Q:VK),Inv X pins σ H s->RelV x v->r x H Q ->
  A1 (model X.prog X.w) X.A (f v) (EP X pins σ Q) X.xe s
def yac(X:Cx)(f:AF)(r:List V->Hp->VK->Prop):Prop:=
 ∀(pins:List (AI×CA)) (s:AJ) (σ:St) (H:Hp) (xs:List V) (us:List AF) (Q:VK),Inv X pins σ H s->Vals xs us->r xs H Q ->
  A1 (model X.prog X.w) X.A (call f us) (EP X pins σ Q) X.xe s
def yfp(X:Cx)(r:V->Hp->(Bool->Hp->Prop)->Prop):Prop:=
 ∀(pins:List (AI×CA)) (s:AJ) (σ:St) (H:Hp) (x:V) (v:AF) (Q:Bool->Hp->Prop),Inv X pins σ H s->RelV x v->r x H Q ->
  A1 (model X.prog X.w) X.A (truthy v) (TP X pins σ Q) X.xe s
def tOp(r:R2)(ta tb:TE):TE:=λσ H Q=>ta σ H λx H1=>tb σ H1 λy H2=>r x y H2 Q
def tUn(r:V->Hp->VK->Prop)(ta:TE):TE:=λσ H Q=>ta σ H λx H1=>r x H1 Q
def rI(C:Int->Int->Prop)(g:Int->Int->V):R2:=λx y H Q=>∃i j,x=.int i/\y=.int j/\C i j/\Q (g i j) H
def rI0(g:Int->Int->V):R2:=λx y H Q=>∃i j,x=.int i/\y=.int j/\Q (g i j) H
def rU(g:Int->V):V->Hp->VK->Prop:=λx H Q=>∃i,x=.int i/\Q (g i) H
section
variable {X:Cx}{a b c:AU}{ta tb tc:TE}{pos:CP}
theorem yei(ha:PE X a ta)(hb:PE X b tb){pins:List (AI×CA)}{s:AJ}{σ:St}{H:Hp}{R:V->V->Hp->Prop}(I:Inv X pins σ H s)
  (h:ta σ H λx H1=>tb σ H1 λy H2=>R x y H2) {Q:AF->AJ->Prop} {f:AF->AF->Gj AF}
  (hf:∀v u s2 x y H2,Inv X pins σ H2 s2->RelV x v->RelV y u->R x y H2->A1 (model X.prog X.w) X.A (f v u) Q X.xe s2):
  A1 (model X.prog X.w) X.A (eval a X.env) (λv s₁=>A1 (model X.prog X.w) X.A (eval b X.env) (λu s₂=>A1 (model X.prog X.w) X.A (f v u) Q X.xe s₂) X.xe s₁) X.xe s:=by
 refine thn (ha pins s σ H _ I h) λv s1 kq=>?_;let⟨x,H1,I1,r1,q1⟩:=kq;refine thn (hb pins s1 σ H1 _ I1 q1) λu s2 kq=>?_;let⟨y,H2,I2,r2,q2⟩:=kq;exact hf v u s2 x y H2 I2 r1 r2 q2
theorem zof{op:D1}{r:R2}(ho:OpR X (binaryOp op) r)(ha:PE X a ta)(hb:PE X b tb):PE X (.BinOp a op b pos) (tOp r ta tb):=by
 intro pins s σ H Q I h;exact wpAny_BinOp (yei ha hb I h λv u s2 x y H2 I2 rx ry q=>ho pins s2 σ H2 x y v u Q I2 rx ry q)
theorem zow{op:UnaryOp}{r:V->Hp->VK->Prop}(ho:UnR X (unaryOp op) r)(ha:PE X a ta):PE X (.UnaryOp op a pos) (tUn r ta):=by
 intro pins s σ H Q I h;exact UnaryOp_ (thn (ha pins s σ H _ I h) λv s1 ⟨x,H1,I1,r1,q1⟩=>ho pins s1 σ H1 x v Q I1 r1 q1)
theorem opI{f:AF->AF->Gj AF}{C:Int->Int->Prop}{g:Int->Int->Int}
  (rule:∀(i j:Int) (t u:HV) (s:AJ) (Q:AF->AJ->Prop) (E:AF->AJ->Prop),C i j->Q (.int (g i j) s.toks) {s with toks:=s.toks+1}->A1 (model X.prog X.w) X.A (f (.int i t) (.int j u)) Q E s):
  OpR X f (rI C λi j=>.int (g i j)):=by
 intro pins s σ H x y v u Q I rx ry h;let⟨i,j,rfl,rfl,hc,q⟩:=h;let⟨t,rfl⟩:=rx;let⟨t',rfl⟩:=ry;exact rule i j t t' s _ _ hc ⟨.int (g i j),H,I.tok _,⟨_,rfl⟩,q⟩
theorem ycU{f:AF->AF->Gj AF}{g:Int->Int->Int}
  (rule:∀(i j:Int) (t u:HV) (s:AJ) (Q:AF->AJ->Prop) (E:AF->AJ->Prop),Q (.int (g i j) s.toks) {s with toks:=s.toks+1}->A1 (model X.prog X.w) X.A (f (.int i t) (.int j u)) Q E s):
  OpR X f (rI0 λi j=>.int (g i j)):=by
 intro pins s σ H x y v u Q I rx ry h;let⟨i,j,rfl,rfl,q⟩:=h;let⟨t,rfl⟩:=rx;let⟨t',rfl⟩:=ry;exact rule i j t t' s _ _ ⟨.int (g i j),H,I.tok _,⟨_,rfl⟩,q⟩
theorem ydE{f:AF->AF->Gj AF}{g:Int->Int->Bool}
  (rule:∀(i j:Int) (t u:HV) (s:AJ) (Q:AF->AJ->Prop) (E:AF->AJ->Prop),Q (.bool (g i j)) s->A1 (model X.prog X.w) X.A (f (.int i t) (.int j u)) Q E s):
  OpR X f (rI0 λi j=>.bl (g i j)):=by
 intro pins s σ H x y v u Q I rx ry h;let⟨i,j,rfl,rfl,q⟩:=h;let⟨t,rfl⟩:=rx;let⟨t',rfl⟩:=ry;exact rule i j t t' s _ _ ⟨.bl (g i j),H,I,rfl,q⟩
def ydA(i j:Int):Prop:=0<=j/\j<=1000000/\i.natAbs<2^64
def ycS(i j:Int):Prop:=(-(2^64)<i/\i<2^64) \/ (-(2^64)<j/\j<2^64)
theorem ycS.ok{i j:Int}(h:ycS i j):IntMulOk i j:=by
 rcases h with⟨h1,h2⟩|⟨h1,h2⟩
 .exact .of_left (intBits_le_64 h1 h2)
 .exact .of_right (intBits_le_64 h1 h2)
theorem zf3(k:Nat):(0:Int)<=2^k:=by
 rw[two_pow_cast];exact Int.natCast_nonneg _
theorem zl0:OpR X (binaryOp .Add) (rI0 λi j=>.int (i+j)):=ycU λ_ _ _ _ _ _ _ q=>add_int q
theorem znZ:OpR X (binaryOp .Sub) (rI0 λi j=>.int (i-j)):=ycU λ_ _ _ _ _ _ _ q=>sub_int q
theorem zmf:OpR X (binaryOp .Mult) (rI ycS λi j=>.int (i*j)):=opI λ_ _ _ _ _ _ _ hc q=>mul_int q hc.ok
theorem znb:OpR X (binaryOp .Mod) (rI (λ_ j=>0<j) λi j=>.int (i%j)):=opI λi j _ _ _ _ _ hc q=>by
 have h1:(0:Int)<j:=hc;exact mod_int' (by lia) (by rw[Int.fmod_eq_emod_of_nonneg i (by lia)];exact q)
theorem zmh:OpR X (binaryOp .Pow) (rI ydA λi j=>.int (i^j.toNat)):=opI λ_ _ _ _ _ _ _ hc q=>pow_int_small hc.1 hc.2.1 hc.2.2 q
theorem zoa:OpR X (binaryOp .LShift) (rI ydA λi j=>.int (i*2^j.toNat)):=opI λ_ _ _ _ _ _ _ hc q=>lshift_int_small hc.1 hc.2.1 hc.2.2 q
theorem znt:OpR X (binaryOp .RShift) (rI (λ_ j=>0<=j) λi j=>.int (i/2^j.toNat)):=opI λi j _ _ _ _ _ hc q=>
 rshift_int hc (by rw[Dv i (zf3 _)];exact q)
theorem zoc:OpR X (binaryOp .BitAnd) (rI0 λi j=>.int (As i j)):=ycU λ_ _ _ _ _ _ _ q=>and_int q
theorem zos:OpR X (binaryOp .BitOr) (rI0 λi j=>.int (B2 i j)):=ycU λ_ _ _ _ _ _ _ q=>or_int q
theorem znn:OpR X (binaryOp .BitXor) (rI0 λi j=>.int (Ay i j)):=ycU λ_ _ _ _ _ _ _ q=>xor_int q
theorem unI{f:AF->Gj AF}{g:Int->Int}
  (rule:∀(i:Int) (t:HV) (s:AJ) (Q:AF->AJ->Prop) (E:AF->AJ->Prop),Q (.int (g i) s.toks) {s with toks:=s.toks+1}->A1 (model X.prog X.w) X.A (f (.int i t)) Q E s):
  UnR X f (rU λi=>.int (g i)):=by
 intro pins s σ H x v Q I rx h;let⟨i,rfl,q⟩:=h;let⟨t,rfl⟩:=rx;exact rule i t s _ _ ⟨.int (g i),H,I.tok _,⟨_,rfl⟩,q⟩
theorem znq:UnR X (unaryOp .USub) (rU λi=>.int (-i)):=unI λ_ _ _ _ _ q=>neg_int q
theorem zhT:OpR X (binaryOp .Add) (λx y H Q=>∃i k,x=.int i/\y=.bl k/\Q (.int (i+b2i k)) H):=by
 intro pins s σ H x y v u Q I rx ry h;let⟨i,k,rfl,rfl,q⟩:=h;let⟨t,rfl⟩:=rx
 cases ry
 exact add_int_bool ⟨.int (i+b2i k),H,I.tok _,⟨_,rfl⟩,q⟩
end
section
variable {X:Cx}{a b c:AU}{ta tb tc:TE}{pos:CP}
theorem zhB{pins:List (AI×CA)}{σ:St}{H:Hp}{s:AJ}{Q:VK}{k k':Bool}(I:Inv X pins σ H s)(q:Q (.bl k) H)(e:k=k'):EP X pins σ Q (.bool k') s:=by
 subst e;exact⟨.bl k,H,I,rfl,q⟩
theorem zok:OpR X (compareOp .Lt) (rI0 λi j=>.bl (decide (i<j))):=ydE λ_ _ _ _ _ _ _ q=>lt_int q
theorem zoI:OpR X (compareOp .LtE) (rI0 λi j=>.bl (decide (i<=j))):=ydE λ_ _ _ _ _ _ _ q=>le_int q
theorem zoA:OpR X (compareOp .Gt) (rI0 λi j=>.bl (decide (j<i))):=ydE λ_ _ _ _ _ _ _ q=>gt_int q
theorem zoE:OpR X (compareOp .GtE) (rI0 λi j=>.bl (decide (j<=i))):=ydE λ_ _ _ _ _ _ _ q=>ge_int q
theorem zgy:OpR X (compareOp .Lt) (λx y H Q=>∃i j,x=.str i/\y=.str j/\Q (.bl (decide (i.cps.toList<j.cps.toList))) H):=by
 intro pins s σ H x y v u Q I rx ry h;let⟨i,j,rfl,rfl,q⟩:=h;let⟨t,rfl⟩:=rx;let⟨t',rfl⟩:=ry;exact lt_str (zhB I q rfl)
theorem zgx:OpR X (compareOp .In) (λx y H Q=>∃i j,x=.str i/\y=.str j/\Q (.bl (!(EY j i 0 j.length 1).isEmpty)) H):=by
 intro pins s σ H x y v u Q I rx ry h;let⟨i,j,rfl,rfl,q⟩:=h;let⟨t,rfl⟩:=rx;let⟨t',rfl⟩:=ry;exact in_str (zhB I q rfl)
theorem zgr{op:FX}{r:R2}(ho:OpR X (compareOp op) r)(ha:PE X a ta)(hb:PE X b tb)(hm:behindInMarks op b=AC):PE X (.Compare a [op] [b] pos) (tOp r ta tb):=by
 intro pins s σ H Q I h;exact wpAny_Compare1 (yei ha hb I h λv u s2 x y H2 I2 rx ry q=>ho pins s2 σ H2 x y v u Q I2 rx ry q) hm
def ydg(t:TE):TT:=λσ H Q=>t σ H λx H'=>∃k,x=.bl k/\Q k H'
theorem zlf{op:FX}{r:R2}(ho:OpR X (compareOp op) r)(ha:PE X a ta)(hb:PE X b tb)(hm:behindInMarks op b=AC):PT X (.Compare a [op] [b] pos) (ydg (tOp r ta tb)):=by
 intro pins s σ H Q I h;refine wpAny_isTrue_Compare1 (thn (ha pins s σ H _ I h) λv s1 ⟨x,H1,I1,r1,q1⟩=>thn (hb pins s1 σ H1 _ I1 q1) λu s2 ⟨y,H2,I2,r2,q2⟩=>
  thn (ho pins s2 σ H2 x y v u _ I2 r1 r2 q2) λc s3 ⟨z,H3,I3,r3,k,e,q3⟩=>?_) hm
 subst e
 cases r3
 exact BX ⟨H3,I3,q3⟩
def ycl(r r':R2)(ta tb tc:TE):TE:=λσ H Q=>ta σ H λx H1=>tb σ H1 λy H2=>r x y H2 λz H3=>∃k,z=.bl k /\
 (if k=AB then tc σ H3 λw' H4=>r' y w' H4 Q else Q (.bl AC) H3)
theorem zjE{op op':FX}{r r':R2}(ho:OpR X (compareOp op) r)(ho':OpR X (compareOp op') r')(ha:PE X a ta)(hb:PE X b tb)(hc:PE X c tc)
  (hm:lastMarks [op,op'] [b,c]=false:=by ac_rfl):PE X (.Compare a [op,op'] [b,c] pos) (ycl r r' ta tb tc):=by
 intro pins s σ H Q I h;refine Compare_chain (thn (ha pins s σ H _ I h) λv s1 ⟨x,H1,I1,r1,q1⟩=>chain_link (thn (hb pins s1 σ H1 _ I1 q1) λu s2 ⟨y,H2,I2,r2,q2⟩=>
  thn (ho pins s2 σ H2 x y v u _ I2 r1 r2 q2) λd s3 ⟨z,H3,I3,r3,k,e,q3⟩=>?_)) hm
 subst e
 cases r3
 refine BX ?_
 cases k with
 |false=>exact ite_ff ⟨.bl AC,H3,I3,rfl,q3⟩
 |true=>exact ite_tt (chain_last (thn (hc pins s3 σ H3 _ I3 q3) λw' s4 ⟨z',H4,I4,r4,q4⟩=>ho' pins s4 σ H4 y z' u w' Q I4 r2 r4 q4))
theorem ziq{op op':FX}{r r':R2}(ho:OpR X (compareOp op) r)(ho':OpR X (compareOp op') r')(ha:PE X a ta)(hb:PE X b tb)(hc:PE X c tc)
  (hm:lastMarks [op,op'] [b,c]=false:=by ac_rfl):PT X (.Compare a [op,op'] [b,c] pos) (ydg (ycl r r' ta tb tc)):=by
 intro pins s σ H Q I h;refine isTrue_chain (thn (ha pins s σ H _ I h) λv s1 ⟨x,H1,I1,r1,q1⟩=>test_link (thn (hb pins s1 σ H1 _ I1 q1) λu s2 ⟨y,H2,I2,r2,q2⟩=>
  thn (ho pins s2 σ H2 x y v u _ I2 r1 r2 q2) λd s3 ⟨z,H3,I3,r3,k,e,q3⟩=>?_)) hm
 subst e
 cases r3
 refine BX ?_
 cases k with
 |false=>
  let⟨k',e',q'⟩:=q3
  cases e'
  exact ite_ff ⟨H3,I3,q'⟩
 |true=>
  refine ite_tt (test_last (thn (hc pins s3 σ H3 _ I3 q3) λw' s4 kq=>?_));let⟨z',H4,I4,r4,q4⟩:=kq;refine thn (ho' pins s4 σ H4 y z' u w' _ I4 r2 r4 q4) λd' s5 kq=>?_;let⟨z2,H5,I5,r5,k2,e2,q5⟩:=kq;subst e2
  cases r5
  exact BX ⟨H5,I5,q5⟩
def yem(K:AE)(x:V)(H:Hp)(k:Bool):Prop:=
 match x with
 |.non=>k=AC
 |.bl b=>k=b
 |.int i=>k=(i != 0)
 |.str y=>y.length<=sizeLine/\k=((y.length:Int) != 0)
 |.byt y=>y.size<=sizeLine/\k=((y.size:Int) != 0)
 |.ref p=>(∃xs,SqL K H p xs/\k=!xs.isEmpty) \/ (∃xs,SqT K H p xs/\k=!xs.isEmpty) \/ ∃kvs,H p=AA (.dK kvs)/\k=!kvs.isEmpty
 |_=>False
theorem zf7{κ:Type}{kvs:List (κ×V)}{vs:List (κ×AF)}(r:KV kvs vs):(!vs.isEmpty)=!kvs.isEmpty:=by
 cases r<;>rfl
theorem zc6{xs:List V}{its:List AF}(r:Vals xs its):(!its.toArray.isEmpty)=!xs.isEmpty:=by
 cases r<;>simp
theorem yaH:(sizeLine:Nat)<2^63:=by rw[D2];decide
theorem znc:yfp X (λx H Q=>∃k,yem X.K x H k/\Q k H):=by
 intro pins s σ H x v Q I rx h;let⟨k,e,q⟩:=h;have hl:=yaH;have hs:sizeLine=16777216:=D2
 cases x with
 |non=>
  cases rx
  have e':k=false:=e;subst e';exact truthy_none ⟨H,I,q⟩
 |bl b=>
  cases rx
  have e':k=b:=e;subst e';exact BX ⟨H,I,q⟩
 |int i=>
  let⟨t,rfl⟩:=rx;have e':k=(i != 0):=e;subst e';exact PySem.P.truthy_int ⟨H,I,q⟩
 |str y=>
  let⟨t,rfl⟩:=rx;obtain⟨hy,e'⟩:y.length<=sizeLine/\k=((y.length:Int) != 0):=e;subst e';exact PySem.P.truthy_str (by lia) ⟨H,I.tok _,q⟩
 |byt y=>
  let⟨t,rfl⟩:=rx;obtain⟨hy,e'⟩:y.size<=sizeLine/\k=((y.size:Int) != 0):=e;subst e';exact PySem.W.truthy_bytes (by lia) ⟨H,I.tok _,q⟩
 |ref p=>
  cases rx
  have e':(∃xs,SqL X.K H p xs/\k=!xs.isEmpty) \/ (∃xs,SqT X.K H p xs/\k=!xs.isEmpty) \/ ∃kvs,H p=AA (.dK kvs)/\k=!kvs.isEmpty:=e;rcases e' with⟨xs,hx,e'⟩|⟨xs,hx,e'⟩|⟨kvs,hx,e'⟩
  .subst e';let⟨its,r,pl,hz⟩:=I.list hx;have hlen:=r.length;exact wpAny_truthy_list pl.isList (by erw[AX];lia) ⟨H,I.tok _,by rw[zc6 r];exact q⟩
  .subst e';let⟨its,r,pl,hz⟩:=I.tuple hx;have hlen:=r.length;exact truthy_tuple pl (by erw[AX];lia) ⟨H,I.tok _,by rw[zc6 r];exact q⟩
  .subst e';obtain⟨hz,hS,vs,r,m⟩:kvs.length<=sizeLine/\(p==sysModules)=AC/\∃vs,KV kvs vs/\s.heap.DictOf (yL X.prog X.w) p vs:=I.hok p _ hx;have hlen:kvs.length=vs.length:=ES r;exact wpAny_truthy_dict hS m (by lia) ⟨H,I.tok _,by rw[zf7 r];exact q⟩
 |_=>exact(show False from e).elim
theorem zin(ha:PE X a ta)(he:∀whole,isTrue a X.env whole=(do let v <-whole;standAt a.pos;holding [v] (truthy v))):
  PT X a (λσ H Q=>ta σ H λx H'=>∃k,yem X.K x H' k/\Q k H'):=by
 intro pins s σ H Q I h;exact isTrue_plain (thn (ha pins s σ H _ I h) λv s1 ⟨x,H1,I1,r1,q1⟩=>znc pins s1 σ H1 x v Q I1 r1 q1) (he _)
theorem zgj:OpR X (binaryOp .Add) (λx y H Q=>∃i j,x=.str i/\y=.str j/\i.length+j.length<=sizeLine/\Q (.str (i++j)) H):=by
 intro pins s σ H x y v u Q I rx ry h;let⟨i,j,rfl,rfl,hz,q⟩:=h;let⟨t,rfl⟩:=rx;let⟨t',rfl⟩:=ry;exact add_str (λt' tk=>⟨.str (i++j),H,I.tok _,⟨_,rfl⟩,q⟩) hz
theorem vals1{x:V}{us:List AF}(r:Vals [x] us):∃u,us=[u]/\RelV x u:=by
 cases r with
 |cons r1 r2=>cases r2;exact⟨_,rfl,r1⟩
theorem vals2{x y:V}{us:List AF}(r:Vals [x,y] us):∃u w',us=[u,w']/\RelV x u/\RelV y w':=by
 cases r with
 |cons r1 r2=>
  cases r2 with
  |cons r3 r4=>cases r4;exact⟨_,_,rfl,r1,r3⟩
theorem zg8(hc:X.calm=AB):yac X (.builtin "max") (λxs H Q=>∃i j,xs=[.int i,.int j]/\Q (.int (if j > i then j else i)) H):=by
 intro pins s σ H xs us Q I r h;let⟨i,j,rfl,q⟩:=h;let⟨u,w',rfl,⟨t,rfl⟩,⟨t',rfl⟩⟩:=vals2 r;refine max_two_ints (I.ok.hd hc) λh' tk k=>⟨_,H,I.kept k,?_,q⟩
 by_cases hj:j > i
 .rw[if_pos hj,if_pos hj];exact⟨_,rfl⟩
 .rw[if_neg hj,if_neg hj];exact⟨_,rfl⟩
theorem zik(hc:X.calm=AB):yac X (.builtin "min") (λxs H Q=>∃i j,xs=[.int i,.int j]/\Q (.int (if j<i then j else i)) H):=by
 intro pins s σ H xs us Q I r h;let⟨i,j,rfl,q⟩:=h;let⟨u,w',rfl,⟨t,rfl⟩,⟨t',rfl⟩⟩:=vals2 r;refine min_two_ints (I.ok.hd hc) λh' tk k=>⟨_,H,I.kept k,?_,q⟩
 by_cases hj:j<i
 .rw[if_pos hj,if_pos hj];exact⟨_,rfl⟩
 .rw[if_neg hj,if_neg hj];exact⟨_,rfl⟩
theorem zd9:yac X (.type "int") (λxs H Q=>(∃i,xs=[.int i]/\Q (.int i) H) \/ ∃k,xs=[.bl k]/\Q (.int (if k then 1 else 0)) H):=by
 intro pins s σ H xs us Q I r h;rcases h with⟨i,rfl,q⟩|⟨k,rfl,q⟩
 .let⟨u,rfl,t,rfl⟩:=vals1 r;exact call_int_int ⟨.int i,H,I,⟨_,rfl⟩,q⟩
 .let⟨u,rfl,r1⟩:=vals1 r
  cases r1
  exact call_int_bool ⟨.int (if k then 1 else 0),H,I.tok _,⟨_,rfl⟩,q⟩
end
structure ycH(h:Az)(x dx C:AI)(mA:AR->Option AF):Prop where
 obj:h.get? x=AA (By C dx)
 ns:h.Ns1 dx mA
 ne:dx≠x
theorem zg1{h:Az}{dx:AI}{mA:AR->Option AF}(n:h.Ns1 dx mA):∃od,h.get? dx=AA od/\∀name,Dw name od=AA (mA name):=by
 let⟨o,es,ep,ho,hd,hk,_,hm⟩:=n;refine⟨o,ho,λname=>?_⟩;have e:=hm name;unfold nsFind findBy at e;rw[<-Array.find?_toList]at e;unfold Dw;rw[hd];dsimp only;split
 .rename_i y q;rw[q]at e;exact congrArg AA e
 .rename_i q;rw[q]at e;have a:es.toList.any (·.refKey)=false:=by
   rw[List.any_eq_false];intro y hy;let⟨z,t,hkey⟩:=hk y (Array.mem_toList_iff.mp hy);simp[DictEntry.refKey,hkey]
  have a':¬es.toList.any (·.refKey)=true:=by rw[a];exact Aw
  rw[if_neg a'];exact congrArg AA e
theorem ycH.look{h:Az}{x dx C:AI}{mA:AR->Option AF}(I:ycH h x dx C mA):∃od,PySem.W.InstAt h x (By C dx) C (AA od)/\∀name,Dw name od=AA (mA name):=
 let ⟨od,ho,hl⟩:=zg1 I.ns
 ⟨od,⟨I.obj,rfl,rfl,ho⟩,hl⟩
section
variable {prog:A5}{w:Ai}{A:Ao}{E:AF->AJ->Prop}{s:AJ}{K:AE}{x dx C f:AI}{mA:AR->Option AF}{name:AR}{v:AF}
theorem zlh{expr:Bool}{Q:AF->AJ->Prop}(X:K.In s.heap)(I:ycH s.heap x dx C mA)(hg:Cp K C name=AB)(hh:DD K C=AB)
  (ha:Au K (.ref C) name=AA AD) (hv:mA name=AA v) (hv':GE v=AB) (h:Q v {s with toks:=s.toks+1}):
  A1 (model prog w) A (getAttr (.ref x) name expr) Q E s:=by
 let⟨od,J,hl⟩:=I.look;exact PySem.W.get_value X J (Dh hg).1 (PySem.W.findObj_own hh ha rfl (by rw[hl,hv])) hv' h
theorem ziH{pl:Gj Bool}{Q:AF×List AF->AJ->Prop}(X:K.In s.heap)(I:ycH s.heap x dx C mA)(hg:Cp K C name=AB)
  (hf:Au K (.ref C) name=AA (AA (.ref f))) (ht:Cq K (.ref f)=AB) (hv:mA name=AD) (h:Q (.ref f,[.ref x]) s):
  A1 (model prog w) A (getMethod (.ref x) name pl) Q E s:=by
 let⟨od,J,hl⟩:=I.look;exact PySem.W.method_fn X J (Dh hg).1 (Dh hg).2 hf (beq_iff_eq.mp ht) (by show (Dw name od).map (·.isSome)=AA AC;rw[hl,hv];rfl) h
theorem zlC{ns:List AR}{Q:Unit->AJ->Prop}(X:K.In s.heap)(I:ycH s.heap x dx C mA)
  (hs:Au K (.ref C) "__setattr__"=AA (AA (.builtin "object.__setattr__"))) (hp:EK K C=AB) (ht:Es K C name=AA AD) (hh:DD K C=AB)
  (hw:Fc mA ns) (hsz:ns.length<=sizeLine)
  (h:∀h',ycH h' x dx C (λy=>if y=name then AA v else mA y)->C9 dx s.heap h'->Q () {s with heap:=h',toks:=s.toks+2}):
  A1 (model prog w) A (setAttr (.ref x) name v) Q E s:=by
 let⟨od,J,hl⟩:=I.look;refine PySem.W.set_plain X J hs (PySem.W.osa_open (s:={s with toks:=s.toks+1}) (r:=AD) X J hp ht λb=>?_);let⟨cd,hc,hd'⟩:=PySem.W.any_some hh;have hx:s.heap.get? x=AA ⟨.ref C,AA dx,.plain,#[]⟩:=I.obj;refine AH (AV (AH (AH (wpAny_loadPart hx (AH (HM (s:={s with toks:=s.toks+1}) (PySem.W.looks_clsIn X hc) ?_))))));rw[hd'];refine AV (a:=AA dx) (AH (AV (AH ?_)));refine wpAny_nsSet1 (s:={s with toks:=s.toks+1}) I.ns λh' hn2 hs2=>?_;let⟨oD,esD,epD,hoD,hdD,hcD⟩:=hn2.count (HS name v hw);refine AH (wpAny_lookBehind hoD (by rw[hdD];exact pastItsLine_dict (BW hcD (by rw[AS];lia))) ?_);exact AV (h _ ⟨(hs2.2 _ (BK I.ne)).trans I.obj,hn2,I.ne⟩ hs2)
theorem zji{R:G8->AJ->Prop}{vs:List AF}{kw:List (AR×AF)}(X:K.In s.heap)(hm:D6 K C=AB)
  (hi:Au K (.ref C) "__init__"=AA (AA (.ref f))) (hf:PySem.W.typeIn K (.ref f)=AA (.type "function"))
  (h:codeAny (model prog w) (A.under (.builtin "type.__call__" ⟨.ref C::vs,kw⟩)) (.call (.ref f) ⟨.ref (s.heap.objs.size+1)::vs,kw⟩) (PySem.W.InitBack (s.heap.objs.size+1) R)
   {s with heap:=(s.heap.push B8).push (By C s.heap.objs.size)}):
  codeAny (model prog w) A (.call (.ref C) ⟨vs,kw⟩) R s:=by
 let⟨hh,g,d,t,os⟩:=s;exact PySem.W.make_core (PySem.W.makes_of X hm) (PySem.W.looks_findIn X hi) (λself=>PySem.W.bind_fn X self hf) (.inl rfl) h
end
def yaY(f:AR)(v:V):List (AR×V)->List (AR×V)
 |[]=>[(f,v)]
 |(g,x)::r=>if g=f then(g,v)::r else(g,x)::yaY f v r
theorem zcQ(f g:AR)(v:V):∀fs:List (AR×V),(yaY f v fs).lookup g=if g=f then AA v else fs.lookup g
 |[]=>by
  show Bu g [(f,v)]=_
  by_cases h:g=f
  .have hb:(g==f)=true:=beq_iff_eq.mpr h;erw[Bu,hb,if_pos h]
  .have hb:(g==f)=false:=beq_eq_false_iff_ne.mpr h;erw[Bu,hb,if_neg h]
 |(k,x)::r=>by
  have ih:=zcQ f g v r;rw[show yaY f v ((k,x)::r)=(if k=f then(k,v)::r else(k,x)::yaY f v r)from rfl]
  by_cases hk:k=f
  .rw[if_pos hk]
   by_cases h:g=k
   .have hb:(g==k)=true:=beq_iff_eq.mpr h;erw[Bu,hb,if_pos (h.trans hk)]
   .have hb:(g==k)=false:=beq_eq_false_iff_ne.mpr h;erw[Bu,hb,if_neg (λe:g=f=>h (e.trans hk.symm))]
  .rw[if_neg hk]
   by_cases h:g=k
   .have hb:(g==k)=true:=beq_iff_eq.mpr h;erw[Bu,hb,if_neg (λe:g=f=>hk (h.symm.trans e))]
   .have hb:(g==k)=false:=beq_eq_false_iff_ne.mpr h;erw[Bu,hb];exact ih
theorem zcr(f:AR)(v:V):∀fs:List (AR×V),f∈(yaY f v fs).map (·.1)/\∀g,g∈fs.map (·.1)->g∈(yaY f v fs).map (·.1)
 |[]=>⟨by simp[yaY],λg h=>by simp at h⟩
 |(k,x)::r=>by
  let⟨i1,i2⟩:=zcr f v r;rw[show yaY f v ((k,x)::r)=(if k=f then(k,v)::r else(k,x)::yaY f v r)from rfl]
  by_cases hk:k=f
  .rw[if_pos hk];subst hk;exact⟨by simp,λg h=>by simpa using h⟩
  .rw[if_neg hk];refine⟨?_,λg h=>?_⟩
   .rw[AL];exact AY _ i1
   .rw[AL]at h ⊢;rcases A3.mp h with e|e
    .exact A3.mpr (.inl e)
    .exact AY _ (i2 g e)
theorem zcC(f:AR)(v:V):∀fs:List (AR×V),(yaY f v fs).length<=fs.length+1
 |[]=>by simp[yaY]
 |(k,x)::r=>by
  have ih:=zcC f v r;rw[show yaY f v ((k,x)::r)=(if k=f then(k,v)::r else(k,x)::yaY f v r)from rfl]
  by_cases hk:k=f
  .rw[if_pos hk,AS,AS];lia
  .rw[if_neg hk,AS,AS];lia
theorem ybj.some_of{v:V}{o:Option AF}(r:ybj (AA v) o):∃u,o=AA u/\RelV v u:=by
 cases o with
 |none=>exact(show False from r).elim
 |some u=>exact⟨u,rfl,r⟩
theorem ybj.none_of{o:Option AF}(r:ybj AD o):o=none:=by
 cases o with
 |none=>rfl
 |some u=>exact(show False from r).elim
theorem zgD{v:V}{u:AF}(r:RelV v u):GE u=true:=by
 cases v with
 |non=>cases (show u=CH from r);rfl
 |bl b=>cases (show u=Dp b from r);rfl
 |int i=>let⟨t,e⟩:=(show ∃t,u=EW i t from r);cases e;rfl
 |str x=>let⟨t,e⟩:=(show ∃t,u=GA x t from r);cases e;rfl
 |byt b=>let⟨t,e⟩:=(show ∃t,u=HE b t from r);cases e;rfl
 |flt b=>let⟨t,e⟩:=(show ∃t,u=HF b t from r);cases e;rfl
 |ref a=>cases (show u=Ah a from r);rfl
 |ty n=>cases (show u=Ed n from r);rfl
section
variable {P:A5}{w:Ai}{H H':Hp}{h h':Az}{a C dx:AI}{fs fs':List (AR×V)}
theorem ze2(hok:HOk P w H h)(e:H a=AA (.ins C dx fs)):∃mA,ycH h a dx C mA/\(∀f,ybj (fs.lookup f) (mA f))/\Fc mA (fs.map (·.1))/\fs.length<=1000/\H dx=AA (.own a):=by
 let⟨d,z,ne,ob,mA,n,r,q⟩:=(show yO P w H h a (.ins C dx fs)from hok a _ e);exact⟨mA,⟨ob,n,ne⟩,r,q,z,d⟩
end
structure Cls(K:AE)(C:AI):Prop where
 pg:Cp K C GF=AB
 hd:DD K C=AB
 po:EK K C=AB
 sa:Au K (.ref C) "__setattr__"=AA (AA (.builtin "object.__setattr__"))
theorem Cls.get{K:AE}{C:AI}(c:Cls K C)(f:AR):Cp K C f=true:=c.pg
def yam(K:AE)(C:AI)(f:AR):Prop:=Au K (.ref C) f=AA AD
theorem yam.taker{K:AE}{C:AI}{f:AR}(n:yam K C f):Es K C f=AA none:=by
 unfold Es;rw[show Au K (.ref C) f=AA AD from n];rfl
structure Con(K:AE)(C:AI)(f:AR)(v:V)(u:AF):Prop where
 at_:Au K (.ref C) f=AA (AA u)
 rel:RelV v u
 get:PySem.W.specialIn K u "__get__"=AA AD
 cp:PySem.W.copiedNames.contains f=AC
structure Meth(K:AE)(C:AI)(m:AR)(f:AI):Prop where
 at_:Au K (.ref C) m=AA (AA (.ref f))
 fn:Cq K (.ref f)=AB
 kp:Ap K (.ref f)=AB
section
variable {X:Cx}{pins:List (AI×CA)}{σ:St}{H:Hp}{s:AJ}{a C dx:AI}{fs:List (AR×V)}{f:AR}{v:V}{A:Ao}{E:AF->AJ->Prop}
theorem zdi{b:Bool}{Q:AF->AJ->Prop}(I:Inv X pins σ H s)(e:H a=AA (.ins C dx fs))(c:Cls X.K C)(n:yam X.K C f)(l:fs.lookup f=AA v)
  (h:∀u s',Inv X pins σ H s'->RelV v u->Q u s'):A1 (model X.prog X.w) A (getAttr (.ref a) f b) Q E s:=by
 let⟨mA,O,r,_,_,_⟩:=ze2 I.hok e;let⟨u,hu,ru⟩:=ybj.some_of (v:=v) (o:=mA f) (by rw[<-l];exact r f);exact zlh I.kIn O (c.get f) c.hd n hu (zgD ru) (h u _ (I.tok _) ru)
theorem zdq{m:AR}{g:AI}{pl:Gj Bool}{Q:AF×List AF->AJ->Prop}(I:Inv X pins σ H s)(e:H a=AA (.ins C dx fs))(c:Cls X.K C)(k:Meth X.K C m g)(l:fs.lookup m=AD)
  (h:Q (.ref g,[.ref a]) s):A1 (model X.prog X.w) A (getMethod (.ref a) m pl) Q E s:=by
 let⟨mA,O,r,_,_,_⟩:=ze2 I.hok e;have hn:mA m=none:=ybj.none_of (by rw[<-l];exact r m);exact ziH I.kIn O (c.get m) k.at_ k.fn hn h
theorem zda{y:V}{u:AF}{Q:Unit->AJ->Prop}(I:Inv X pins σ H s)(e:H a=AA (.ins C dx fs))(c:Cls X.K C)(n:yam X.K C f)(hl:fs.length<1000)(ry:RelV y u)
  (h:∀s',Inv X pins σ (upd H a (.ins C dx (yaY f y fs))) s'->Q () s'):A1 (model X.prog X.w) A (setAttr (.ref a) f u) Q E s:=by
 let⟨mA,O,r,wi,_,ho⟩:=ze2 I.hok e;have hz:(fs.map (·.1)).length<=sizeLine:=by rw[BC,D2];lia
 refine zlC I.kIn O c.sa c.po n.taker c.hd wi hz λh' O' sb=>h _ ?_;have hd:∃o,h'.get? dx=AA o:=let ⟨o,_,_,e',_⟩:=O'.ns;⟨o,e'⟩
 refine I.write (x:=a) (e:=dx) (by rw[e];exact Ca) (.inr ho) (λb q hb z=>(sb.2 b hb).trans z) hd ?_;refine⟨by rw[zh O.ne];exact ho,?_,O.ne,O'.obj,_,O'.ns,λg=>?_,λg hg=>?_⟩
 .have:=zcC f y fs;lia
 .show ybj ((yaY f y fs).lookup g) (if g=f then AA u else mA g);rw[zcQ]
  by_cases q:g=f
  .rw[if_pos q,if_pos q];exact ry
  .rw[if_neg q,if_neg q];exact r g
 .by_cases q:g=f
  .rw[q];exact(zcr f y fs).1
  .refine(zcr f y fs).2 g (wi g λz=>hg ?_);show (if g=f then AA u else mA g)=AD;rw[if_neg q];exact z
theorem Inv.made(I:Inv X pins σ H s):Inv X pins σ (upd (upd H s.heap.objs.size (.own (s.heap.objs.size+1))) (s.heap.objs.size+1) (.ins C s.heap.objs.size []))
  {s with heap:=(s.heap.push B8).push (By C s.heap.objs.size)}:=by
 have e1:(s.heap.push B8).get? s.heap.objs.size=AA B8:=A0 s.heap rfl;have e2:((s.heap.push B8).push (By C s.heap.objs.size)).get? (s.heap.objs.size+1)=AA (By C s.heap.objs.size):=by
  have:=A0 (s.heap.push B8) (o:=By C s.heap.objs.size) rfl
  rwa [Bv]at this
 have e3:(s.heap.push B8).Ns s.heap.objs.size (λ_=>AD):=⟨B8,#[],_,e1,rfl,(λe he=>absurd he (by simp)),λ_=>rfl⟩;have I1:=I.laid (a:=s.heap.objs.size) (o:=.own (s.heap.objs.size+1)) (h':=s.heap.push B8) (t':=s.toks) (λb u q=>AQ _ q) (AT _) ⟨_,e1⟩;refine I1.laid (a:=s.heap.objs.size+1) (o:=.ins C s.heap.objs.size []) (t':=s.toks) (λb u q=>AQ _ q) (Gr (Bv _ _)) ?_;have ne:s.heap.objs.size≠s.heap.objs.size+1:=Aj (GG _);refine⟨by rw[zh ne,zq],DC _,ne,e2,λ_=>AD,(Heap.Ns1.of_empty e3).at λo q=>AQ _ q,λ_=>Ca,λy hy=>absurd rfl hy⟩
theorem zlU{prog:A5}{w:Ai}{env:Env}{e:AU}{f:AR}{pos:CP}{s:AJ}{Q:AF->AJ->Prop}(hb:attributeBase e f env (eval e env)=eval e env)
  (h:A1 (model prog w) A (eval e env) (λo s₁=>A1 (model prog w) A (getAttr o f AB) Q E s₁) E s):A1 (model prog w) A (eval (.Attribute e f pos) env) Q E s:=
 Attribute_any_ h (by rw[arm_eval_Attribute,hb])
end
def yf3(K:AE)(ta:TE)(f:AR):TE:=λσ H Q=>ta σ H λx H1=>∃a C dx fs v,x=.ref a/\H1 a=AA (.ins C dx fs)/\Cls K C/\yam K C f/\fs.lookup f=AA v/\Q v H1
def yfF(K:AE)(ta tv:TE)(f:AR):TS:=λD σ H=>tv σ H λy H1=>ta σ H1 λx H2=>∃a C dx fs,x=.ref a/\H2 a=AA (.ins C dx fs)/\Cls K C/\yam K C f/\fs.length<1000 /\
 D.nx σ (upd H2 a (.ins C dx (yaY f y fs)))
def yeJ(X:Cx)(op:D1)(rd:V->V->Hp->VK->Prop):Prop:=
 ∀(pins:List (AI×CA)) (s:AJ) (σ:St) (H:Hp) (x y:V) (u v:AF) (Q:VK),Inv X pins σ H s->RelV x u->RelV y v->rd x y H Q->A1 (model X.prog X.w) X.A (inplaceOp op u v) (EP X pins σ Q) X.xe s
def ycA(K:AE)(ta tv:TE)(rd:V->V->Hp->VK->Prop)(f:AR):TS:=λD σ H=>ta σ H λx H1=>∃a C dx fs v,x=.ref a/\H1 a=AA (.ins C dx fs)/\Cls K C/\yam K C f/\fs.lookup f=AA v /\
 tv σ H1 λy H2=>rd v y H2 λz H3=>∃dx' fs',H3 a=AA (.ins C dx' fs')/\fs'.length<1000/\D.nx σ (upd H3 a (.ins C dx' (yaY f z fs')))
section
variable {X:Cx}{o e value:AU}{f:AR}{pos pos' tpos:CP}{ta tv:TE}
theorem znl(he:PE X e ta)(hb:attributeBase e f X.env (eval e X.env)=eval e X.env):PE X (.Attribute e f pos) (yf3 X.K ta f):=by
 intro pins s σ H Q I h;refine zlU hb (thn (he pins s σ H _ I h) λu s1 kq=>?_);let⟨x,H1,I1,rx,a,C,dx,fs,v,ex,ea,c,n,l,q⟩:=kq;subst ex;obtain rfl:u=Ah a:=rx;exact zdi I1 ea c n l λu' s2 I2 ru=>⟨v,H1,I2,ru,q⟩
theorem zmq(ha:PE X o ta)(hv:PE X value tv)(hs:swapsWith value (AA (.Attribute o f pos')) pos.line X.env=pure AC):PS X (.Assign [.Attribute o f pos'] value pos) (yfF X.K ta tv f):=by
 intro pins s σ H D I h;refine plainObj_wpAny_Assign_Attribute (thn (hv pins s σ H _ I h) λu s1 kq=>?_) hs;let⟨y,H1,I1,ry,q⟩:=kq;refine thn (ha pins s1 σ H1 _ I1 q) λov s2 kq=>?_;let⟨x,H2,I2,rx,a,C,dx,fs,ex,ea,c,n,l,q2⟩:=kq;subst ex;obtain rfl:ov=Ah a:=rx;exact zda I2 ea c n l ry λs3 I3=>⟨σ,_,I3,q2⟩
theorem zhK{op:D1}{rd:V->V->Hp->VK->Prop}(ha:PE X o ta)(hv:PE X value tv)(hop:yeJ X op rd):PS X (.AugAssign (.Attribute o f tpos) op value pos) (ycA X.K ta tv rd f):=by
 intro pins s σ H D I h;refine wpAny_AugAssign_AttributeAny (thn (ha pins s σ H _ I h) λov s1 kq=>?_);let⟨x,H1,I1,rx,a,C,dx,fs,v,ex,ea,c,n,l,q⟩:=kq;subst ex;obtain rfl:ov=Ah a:=rx;refine zdi I1 ea c n l λu s2 I2 ru=>thn (hv pins s2 σ H1 _ I2 q) λw3 s3 kq=>?_;let⟨y,H2,I3,ry,q3⟩:=kq;refine thn (hop pins s3 σ H2 v y u w3 _ I3 ru ry q3) λw4 s4 kq=>?_;let⟨z,H3,I4,rz,dx',fs',ea',l',q4⟩:=kq;exact zda I4 ea' c n l' rz λs5 I5=>⟨σ,_,I5,q4⟩
def ygF:V->V->Hp->VK->Prop:=λx y H Q=>∃i j,x=.int i/\y=.int j/\Q (.int (i+j)) H
theorem zn4:yeJ X .Add ygF:=by
 rintro pins s σ H x y u v Q I rx ry ⟨i,j,rfl,rfl,q⟩
 let⟨t,rfl⟩:=(show ∃t,u=EW i t from rx);let⟨t',rfl⟩:=(show ∃t',v=EW j t' from ry);exact G2 ⟨.int (i+j),H,I.tok _,⟨_,rfl⟩,q⟩
end
section
variable {X:Cx}{pins:List (AI×CA)}{σ:St}{H:Hp}{s:AJ}{A:Ao}{E:AF->AJ->Prop}{Q:AF->AJ->Prop}{c:AF}{b:Bool}
end
structure yao(k:Nat)(A:Ao):Prop where
 hd:A.handled=AD
 dp:A.depth+3*k+5<recursionLimit
 un:A.units+16*k+200<cLine
theorem yao.mono{j k:Nat}{A:Ao}(r:yao k A)(h:j<=k):yao j A:=⟨r.hd,by have:=r.dp;lia,by have:=r.un;lia⟩
theorem yao.deeper{k:Nat}{A:Ao}(r:yao (k+1) A)(env:Env):yao k (A.deeper env):=
 ⟨r.hd,by have:=r.dp;show A.depth+1+3*k+5<_;lia,by have:=r.un;show A.units+3+16*k+200<_;lia⟩
theorem zgk{A:Ao}{C:AI}{us:List AF}{kw:List (AR×AF)}:(A.under (.builtin "type.__call__" ⟨.ref C::us,kw⟩)).depth=A.depth+1:=by
 first|rfl|simp[Ff,Code.weight,Code.isCreation,Code.isGuard,Code.isCaller,HG,Fg,guardIds]
theorem zf4{A:Ao}{C:AI}{us:List AF}{kw:List (AR×AF)}:(A.under (.builtin "type.__call__" ⟨.ref C::us,kw⟩)).units=A.units+1:=by
 first|rfl|simp[Ff,Code.cUnits,HG,Fg]
theorem yao.make{k:Nat}{A:Ao}(r:yao (k+1) A)(C:AI)(us:List AF)(kw:List (AR×AF)):yao k (A.under (.builtin "type.__call__" ⟨.ref C::us,kw⟩)):=
 ⟨r.hd,by have:=r.dp;rw[zgk];lia,by have:=r.un;rw[zf4];lia⟩
theorem yao.depth{k:Nat}{A:Ao}(r:yao k A):A.depth<recursionLimit:=by have:=r.dp;lia
theorem yao.units{k:Nat}{A:Ao}(r:yao k A):A.units+64<cLine:=by have:=r.un;lia
def ycY:TA:=λ_ H Q=>Q [] H
def ydj(ta:TE)(tr:TA):TA:=λσ H Q=>ta σ H λx H1=>tr σ H1 λxs H2=>Q (x::xs) H2
section
variable {X:Cx}{e:AU}{es:List AU}{te:TE}{t:TA}{pos:CP}
theorem ybc:PA X [] ycY:=λ_ _ _ _ H Q I h=>Fh ⟨[],H,I,.nil,h⟩
theorem zbo(ha:PE X e te)(hr:PA X es t)(hs:starEach (e::es) X.env=(AC,eval e X.env)::starEach es X.env:=by rfl):PA X (e::es) (ydj te t):=by
 intro pos pins s σ H Q I h;rw[hs];show A1 _ _ (spliced ((AC,eval e X.env)::backTo pos (starEach es X.env))) _ _ s;refine Dx (thn (ha pins s σ H _ I h) λu s1 kq=>?_);let⟨x,H1,I1,r1,q1⟩:=kq;exact thn (hr pos pins s1 σ H1 _ I1 q1) λus s2 ⟨xs,H2,I2,r2,q2⟩=>⟨x::xs,H2,I2,.cons r1 r2,q2⟩
def yfv(t:TA):TE:=λσ H Q=>t σ H λxs H1=>xs.length<=sizeLine/\∀p,H1 p=AD->Q (.ref p) (upd H1 p (.tup xs))
def ygC(t:TA):TE:=λσ H Q=>t σ H λxs H1=>xs.length<=sizeLine/\∀p,H1 p=AD->Q (.ref p) (upd H1 p (.lst xs))
theorem zl2{x1}(h:PA X es t):PE X (.Tuple es x1 pos) (yfv t):=by
 intro pins s σ H Q I hq;refine wpAny_Tuple_spliced (thn (h pos pins s σ H _ I hq) λus s1 kq=>?_);let⟨xs,H1,I1,r,z,q⟩:=kq;refine ⟨by rw[<-r.length];exact z,?_⟩;have hf:H1 s1.heap.objs.size=none:=I1.hok.fresh (AT _);refine⟨.ref s1.heap.objs.size,upd H1 s1.heap.objs.size (.tup xs),I1.laid (t':=s1.toks) (λb u e=>AQ _ e) (AT _) ?_,rfl,q _ hf⟩;exact⟨z,us,r,⟨_,A0 _ rfl,rfl,_,rfl⟩⟩
theorem zjW(h:PA X es t):PE X (.List es pos) (ygC t):=by
 intro pins s σ H Q I hq;refine wpAny_List_spliced (thn (h pos pins s σ H _ I hq) λus s1 kq=>?_);let⟨xs,H1,I1,r,z,q⟩:=kq;refine ⟨by rw[<-r.length];exact z,?_⟩;have hf:H1 s1.heap.objs.size=none:=I1.hok.fresh (AT _);refine⟨.ref s1.heap.objs.size,upd H1 s1.heap.objs.size (.lst xs),I1.laid (t':=s1.toks) (λb u e=>AQ _ e) (AT _) ?_,rfl,q _ hf⟩;exact⟨z,us,0,r,A0 _ rfl⟩
end
abbrev Sp:=List V->Hp->VK->XK->Prop
abbrev CXT:=List Env->Hp->AJ->XK->AF->AJ->Prop
structure ycy(P:A5)(w:Ai)(K:AE)(mg:AR->Option AF)(base:Az)(A:Ao)(outer:List Env)(s:AJ)(H:Hp):Prop where
 frames:A.frames=AA outer
 mod:Mod K mg base
 bs:∀b o,base.get? b=AA o->s.heap.get? b=AA o/\H b=AD
 bsz:base.objs.size<=s.heap.objs.size
 funs:s.heap.FunFrames base outer
 frf:∀b∈frs outer,H b=AD
 hok:HOk P w H s.heap
 bare:DX s.gens
def CE(outer:List Env)(P:A5)(w:Ai)(H:Hp)(s:AJ)(Q:VK)(u:AF)(s':AJ):Prop:=
 ∃v H',s'.os=s.os/\DX s'.gens/\Un (frs outer) [] H H' s.heap s'.heap/\HOk P w H' s'.heap/\RelV v u/\Q v H'
def CR(CX:CXT)(outer:List Env)(P:A5)(w:Ai)(H:Hp)(s:AJ)(Q:VK)(E:XK)(r:G8)(s':AJ):Prop:=
 match r with
 |.ok (.ret u)=>CE outer P w H s Q u s'
 |.ok _=>False
 |.error e=>CX outer H s E e s'
structure yaB(P:A5)(w:Ai)(K:AE)(mg:AR->Option AF)(base:Az)(CX:CXT)(k:Nat)(f:AI)(fd:BA)(ps:List AR)(sp:Sp):Prop where
 len:∀vs H Q E,sp vs H Q E->vs.length=ps.length
 run:∀(A:Ao) (outer:List Env) (s:AJ) (H:Hp) (args:Args) (us:List AF) (vs:List V) (Q:VK) (E:XK),yao k A->ycy P w K mg base A outer s H->FN s fd args (ps.zip us)->Vals vs us->sp vs H Q E ->
  codeAny (model P w) A (.call (.ref f) args) (CR CX outer P w H s Q E) s
theorem yaB.imp{P:A5}{w:Ai}{K:AE}{mg:AR->Option AF}{base:Az}{CX:CXT}{k:Nat}{f:AI}{fd:BA}{ps:List AR}{sp sp':Sp}(F:yaB P w K mg base CX k f fd ps sp)
  (h:∀vs H Q E,sp' vs H Q E->sp vs H Q E):yaB P w K mg base CX k f fd ps sp':=
 ⟨λvs H Q E q=>F.len vs H Q E (h _ _ _ _ q),λA outer s H args us vs Q E hr he hb hv hs=>F.run A outer s H args us vs Q E hr he hb hv (h _ _ _ _ hs)⟩
theorem ycy.make{P:A5}{w:Ai}{K:AE}{mg:AR->Option AF}{base:Az}{A:Ao}{outer:List Env}{s:AJ}{H:Hp}(e:ycy P w K mg base A outer s H)(C:AI)(us:List AF)(kw:List (AR×AF)):
  ycy P w K mg base (A.under (.builtin "type.__call__" ⟨.ref C::us,kw⟩)) outer s H:=⟨by first|exact e.frames|(simpa [Ff,Code.envs,Fg,pushEnvs] using e.frames),e.mod,e.bs,e.bsz,e.funs,e.frf,e.hok,e.bare⟩
section
variable {X:Cx}{pins:List (AI×CA)}{σ:St}{H:Hp}{s s':AJ}
theorem Inv.env0(I:Inv X pins σ H s):ycy X.prog X.w X.K X.mg X.base X.A X.stack s H:=
 ⟨I.ok.frames,I.ok.mod,I.bs,BW I.ok.bsz I.sz,I.stack,I.stkFree,I.hok,I.bare⟩
theorem Inv.after{Q:VK}{u:AF}(I:Inv X pins σ H s)(h:CE X.stack X.prog X.w H s Q u s'):EP X pins σ Q u s':=by
 let⟨v,H',os,bare,un,hok,r,q⟩:=h;let⟨hh,g,d,t,os'⟩:=s';obtain rfl:os'=s.os:=os;exact⟨v,H',I.call (h':=hh) (g':=g) (d':=d) (t':=t) (ch:=[]) un hok bare (λb z=>absurd z (by simp)),r,q⟩
end
def yec(C:AI)(sp:Sp)(dvs:List V)(E:XK)(t:TA):TE:=λσ H Q=>t σ H λvs H1=>∀x dx,H1 x=AD->H1 dx=AD->dx≠x ->
 sp (.ref x::(vs++dvs)) (upd (upd H1 dx (.own x)) x (.ins C dx [])) (λv H2=>v=.non/\Q (.ref x) H2) E
def Binds(K:AE)(fd:BA)(ps:List AR)(ds:List AF):Prop:=
 ∀(s:AJ) (us:List AF),K.In s.heap->(us++ds).length=ps.length->FN s fd ⟨us,[]⟩ (ps.zip (us++ds))
theorem Binds.all{K:AE}{fd:BA}{ps:List AR}(h:∀us:List AF,us.length=ps.length->bindArgs fd ⟨us,[]⟩=pure (ps.zip us)):Binds K fd ps []:=λs us _ hl=>by
 rw[Ax]at hl ⊢;exact .of_eq (h us hl)
def ybw(CX:CXT)(X:Cx)(E:XK):Prop:=∀(pins:List (AI×CA)) (σ:St) (H:Hp) (s:AJ) (e:AF) (s':AJ),Inv X pins σ H s->CX X.stack H s E e s'->X.xe e s'
section
variable {X:Cx}{CX:CXT}{k:Nat}{f C:AI}{fd:BA}{ps:List AR}{sp:Sp}{dvs:List V}{ds:List AF}{E:XK}{x m:AR}{p pos apos:CP}{e o:AU}{es:List AU}{ta:TE}{t:TA}
structure Mk(K:AE)(C f:AI):Prop where
 makes:D6 K C=AB
 init:Au K (.ref C) "__init__"=AA (AA (.ref f))
 fn:Cq K (.ref f)=AB
 kp:Ap K (.ref C)=AB
theorem zi7{pins:List (AI×CA)}{σ:St}{H:Hp}{s:AJ}{Q:VK}{us:List AF}{vs:List V}(M:Mk X.K C f)(F:yaB X.prog X.w X.K X.mg X.base CX k f fd ps sp)(hr:yao (k+1) X.A)(hb:Binds X.K fd ps ds)(hd:Vals dvs ds)
  (hx:ybw CX X E) (I:Inv X pins σ H s) (r:Vals vs us)
  (h:∀x dx,H x=AD->H dx=AD->dx≠x->sp (.ref x::(vs++dvs)) (upd (upd H dx (.own x)) x (.ins C dx [])) (λv H2=>v=.non/\Q (.ref x) H2) E):
  A1 (model X.prog X.w) X.A (call (.ref C) us) (EP X pins σ Q) X.xe s:=by
 have hq:=h (s.heap.objs.size+1) s.heap.objs.size (I.hok.fresh (Ck _)) (I.hok.fresh (AT _)) (Aj (GG _));have I2:=Inv.made (C:=C) I;have r2:Vals (V.ref (s.heap.objs.size+1)::(vs++dvs)) (Ah (s.heap.objs.size+1)::(us++ds)):=.cons rfl (r.append hd);have hl:(Ah (s.heap.objs.size+1)::us++ds).length=ps.length:=by
  have e:=r2.length;rw[F.len _ _ _ _ hq]at e;exact e.symm
 refine G9 (zji (f:=f) I.kIn M.makes M.init (beq_iff_eq.mp M.fn) (Dj (F.run _ X.stack _ _ ⟨Ah (s.heap.objs.size+1)::us,[]⟩ (Ah (s.heap.objs.size+1)::(us++ds)) _ _ E (hr.make C us [])
  (I2.env0.make C us []) (hb _ (Ah (s.heap.objs.size+1)::us) I2.kIn hl) r2 hq) λr s' hq'=>?_))
 cases r with
 |error e=>exact hx pins σ _ _ e s' I2 hq'
 |ok fl=>
  cases fl with
  |ret u=>
   let⟨v,H',I3,rv,ev,q3⟩:=I2.after hq';subst ev;exact⟨rv,⟨V.ref (s.heap.objs.size+1),H',I3,rfl,q3⟩⟩
  |next=>exact Be hq'
  |brk=>exact Be hq'
  |cont=>exact Be hq'
theorem zlY(M:Mk X.K C f)(F:yaB X.prog X.w X.K X.mg X.base CX k f fd ps sp)(hr:yao (k+1) X.A)(hg:Gl X x)(hm:X.mg x=AA (.ref C))(hb:Binds X.K fd ps ds)(hd:Vals dvs ds)(hx:ybw CX X E)
  (ha:PA X (e::es) t) (hdb:(x==("__debug__":AR))=false:=by decide) (he:starEach (e::es) X.env=(AC,eval e X.env)::starEach es X.env:=by rfl) (hpl:(backTo pos (starEach es X.env)).any (·.1)=false:=by rfl):
  PE X (.Call (.Name x p) (e::es) [] pos) (yec C sp dvs E t):=by
 intro pins s σ H Q I h;refine BZ (zcy I hg hm ?_ hdb);refine DB (h₀:=X.base) I.ok.mod.kin M.kp (thn (ha pos pins s σ H _ I h) λus s1 kq=>?_) he hpl;let⟨vs,H1,I1,r,q⟩:=kq;refine ⟨I1.kIn,?_⟩;exact zi7 M F hr hb hd hx I1 r q
end
def PK(X:Cx)(kws:List C2)(t:TA):Prop:=
 ∀(pos:CP) (pins:List (AI×CA)) (s:AJ) (σ:St) (H:Hp) (Q:List V->Hp->Prop),Inv X pins σ H s->t σ H Q->A1 (model X.prog X.w) X.A (evalAll ((backToKw pos (keywordEach kws X.env)).map (·.2))) (AP X pins σ Q) X.xe s
section
variable {X:Cx}{CX:CXT}{k:Nat}{f C:AI}{fd:BA}{ps ks:List AR}{sp:Sp}{E:XK}{x m:AR}{p pos apos kpos:CP}{e o:AU}{es:List AU}{kws:List C2}{te ta:TE}{t tk:TA}{nm:Option AR}
theorem ycX:PK X [] ycY:=λ_ _ _ _ H Q I h=>wpAny_evalAll_nil ⟨[],H,I,.nil,h⟩
theorem zkE(ha:PE X e te)(hr:PK X kws t):PK X (⟨nm,e,kpos⟩ :: kws) (ydj te t):=by
 intro pos pins s σ H Q I h;show A1 _ _ (evalAll ((do let v <-eval e X.env;standAt pos;pure v)::(backToKw pos (keywordEach kws X.env)).map (·.2))) _ _ s;refine wpAny_evalAll_cons (AH (thn (ha pins s σ H _ I h) λu s1 kq=>?_));let⟨x,H1,I1,r1,q1⟩:=kq;refine AH (ET (AV ?_));exact thn (hr pos pins s1 σ H1 _ I1 q1) λus s2 ⟨xs,H2,I2,r2,q2⟩=>⟨x::xs,H2,I2,.cons r1 r2,q2⟩
structure ybC(K:AE)(fd:BA)(ps ks:List AR)(g:List AF->List AF->List AF)(gV:List V->List V->List V):Prop where
 to:∀(s:AJ) (us ws:List AF),K.In s.heap->(g us ws).length=ps.length->FN s fd ⟨us,ks.zip ws⟩ (ps.zip (g us ws))
 rel:∀{vs:List V} {us:List AF} {zs:List V} {ws:List AF},Vals vs us->Vals zs ws->Vals (gV vs zs) (g us ws)
variable {g:List AF->List AF->List AF}{gV:List V->List V->List V}
end
structure ya2(N P:List AR)(sc:Bl):Prop where
 kind:sc.kind=.function
 co:sc.isCoroutine=AC
 gen:sc.isGenerator=AC
 nd:N.Nodup
 pre:N.take P.length=P
 par:∀x∈P,sc.names.lookup x=AA .local \/ sc.names.lookup x=AA .cell
 nofree:∀y∈sc.names,y.2 ≠ .free
theorem zed{kindOf:AR->Option DE}{x:AR}:∀{binds:List (AR×AF)} {m:AR->Option AF},(∀v,(x,v)∉binds)->bindL kindOf binds m x=m x
 |[],_,_=>rfl
 |(n,v)::r,m,h=>by
  unfold bindL;rw[zed λw hw=>h w (AY _ hw)];split
  .have:x≠n:=by rintro rfl;exact h v BE
   simp[this]
  .rfl
theorem zd5{kindOf:AR->Option DE}{x:AR}:∀{binds:List (AR×AF)} {m:AR->Option AF},(∀v,(x,v)∉binds)->bindC kindOf binds m x=m x
 |[],_,_=>rfl
 |(n,v)::r,m,h=>by
  unfold bindC;rw[zd5 λw hw=>h w (AY _ hw)];split
  .rfl
  .have:x≠n:=by rintro rfl;exact h v BE
   simp[this]
theorem zeO{kindOf:AR->Option DE}{x:AR}{v:AF}:∀{P:List AR} {vs:List AF} {i:Nat} {m:AR->Option AF},P.Nodup->P[i]?=AA x->vs[i]?=AA v->kindOf x=AA .local ->
  bindL kindOf (P.zip vs) m x=AA v
 |[],_,_,_,_,h,_,_=>by simp at h
 |_::_,[],_,_,_,_,h,_=>by simp at h
 |p::P,w::vs,0,m,nd,h1,h2,hk=>by
  simp at h1 h2;subst h1;subst h2;show bindL kindOf ((p,w)::P.zip vs) m p=_;unfold bindL;rw[zed λv hv=>(D7.mp nd).1 (Et hv).1,if_pos hk];simp
 |p::P,w::vs,i+1,m,nd,h1,h2,hk=>by
  show bindL kindOf ((p,w)::P.zip vs) m x=_;unfold bindL;exact zeO (i:=i) (D7.mp nd).2 (by simpa using h1) (by simpa using h2) hk
theorem zd4{kindOf:AR->Option DE}{x:AR}{v:AF}:∀{P:List AR} {vs:List AF} {i:Nat} {m:AR->Option AF},P.Nodup->P[i]?=AA x->vs[i]?=AA v->kindOf x≠AA .local ->
  bindC kindOf (P.zip vs) m x=AA v
 |[],_,_,_,_,h,_,_=>by simp at h
 |_::_,[],_,_,_,_,h,_=>by simp at h
 |p::P,w::vs,0,m,nd,h1,h2,hk=>by
  simp at h1 h2;subst h1;subst h2;show bindC kindOf ((p,w)::P.zip vs) m p=_;unfold bindC;rw[zd5 λv hv=>(D7.mp nd).1 (Et hv).1,if_neg hk];simp
 |p::P,w::vs,i+1,m,nd,h1,h2,hk=>by
  show bindC kindOf ((p,w)::P.zip vs) m x=_;unfold bindC;exact zd4 (i:=i) (D7.mp nd).2 (by simpa using h1) (by simpa using h2) hk
def start(N:List AR)(vs:List V):St:=vs.map AA++Af (N.length-vs.length) AD
def yaQ(CX:CXT)(P:A5)(w:Ai)(K:AE)(mg:AR->Option AF)(base:Az)(N:List AR)(qual:AR)(scope:Bl)(f:AI)(cd:AF)(A:Ao)(outer:List Env)(s:AJ)(H:Hp)(E:XK):Cx where
 prog:=P
 w:=w
 K:=K
 mg:=mg
 base:=base
 A:=A.deeper (envOfC qual scope s.heap.objs.size f cd)
 N:=N
 s₀:=s
 H₀:=H
 env:=envOfC qual scope s.heap.objs.size f cd
 outer:=outer
 stack:=envOfC qual scope s.heap.objs.size f cd::outer
 ex:=[]
 calm:=AB
 fn:=λ_=>AB
 pn:=[]
 xe:=λe s'=>A1 (model P w) (A.deeper (envOfC qual scope s.heap.objs.size f cd)) («leaving» (envOfC qual scope s.heap.objs.size f cd) e) (λ_ s''=>CX outer H s E e s'') (λe' s''=>CX outer H s E e' s'') s'
theorem zfO{sc:Bl}{n:Nat}{x:AR}(h:sc.names.lookup x=AA .cell):∃c,(cellsFrom n sc.names []).lookup x=AA c:=by
 have q:=Eg sc.names n [] (.inl h);exact Ar.mp q
theorem zht{CX:CXT}{P:A5}{w:Ai}{K:AE}{mg:AR->Option AF}{base:Az}{N ps:List AR}{qual:AR}{scope:Bl}{f:AI}{cd:AF}{A:Ao}{outer:List Env}{s s1:AJ}{H:Hp}{E:XK}{us:List AF}{vs:List V}
  (S:ya2 N ps scope) (hd:A.handled=AD) (e0:ycy P w K mg base A outer s H) (hl:vs.length=ps.length) (r:Vals vs us)
  (x:InCallC s s.heap.objs.size (bindL (envOfC qual scope s.heap.objs.size f cd).kindOf (ps.zip us) λ_=>AD) (cellsFrom (s.heap.objs.size+1) scope.names []) (bindC (envOfC qual scope s.heap.objs.size f cd).kindOf (ps.zip us) λ_=>AD) s1):
  Inv (yaQ CX P w K mg base N qual scope f cd A outer s H E) [] (start N vs) H s1:=by
 have hpl:ps.length<=N.length:=by have:=congrArg C7 S.pre;rw[EZ]at this;lia
 let⟨h1,tk,rfl,hk⟩:=x.done;have noA:∀b:AI,b∉(yaQ CX P w K mg base N qual scope f cd A outer s H E).ex:=λb z=>absurd (show b∈([]:List AI)from z) (by simp);refine⟨⟨e0.mod,S.kind,rfl,rfl,AT _,λy z c h1 h2=>?_,λy hy=>?_,λy c _ h=>?_,λ_=>hd,Around.frames_deeper e0.frames,.inr ⟨rfl,rfl⟩,λb z=>absurd z (noA b),e0.bs,e0.bsz,λb _ _=>noA b,λb z=>absurd z (noA b),e0.funs,e0.frf⟩,
  rfl,e0.bare,Un.kept hk,⟨_,x.toInCall.ns,λi y v h1 h2 h3=>?_⟩,λy c h=>⟨_,x.cell y c h⟩,e0.hok.fresh (AT _),λy c h=>?_,λp hp=>absurd (show p∈([]:List (AI×CA))from hp) (by simp),e0.hok.kept hk,?_⟩
 .exact name_of_addr x.apart (C3 h1) (C3 h2)
 .have hy:scope.names.lookup y=AA .cell \/ scope.names.lookup y=AA .free:=hy;rcases hy with hy|hy
  .exact zfO hy
  .exact absurd rfl (S.nofree _ (C3 hy))
 .exact Fd (x.above y c (C3 h))
 .have hi:i<vs.length:=by
   unfold start at h2
   by_cases hi:i<vs.length
   .exact hi
   .rw[Ak (by simpa using hi)]at h2;rw[E8]at h2;split at h2<;>cases h2
  have ha:vs[i]?=AA v:=by
   unfold start at h2;rw[Ag (by simpa using hi),Bw]at h2
   cases e:vs[i]? with
   |none=>rw[e]at h2;cases h2
   |some a=>rw[e]at h2;cases h2;rfl
  let⟨u,hu,rv⟩:=r.get ha;have hp:ps[i]?=AA y:=by
   rw[<-S.pre,List.getElem?_take_of_lt (by lia)];exact h1
  have ndP:ps.Nodup:=by rw[<-S.pre];exact S.nd.sublist (List.take_sublist _ _)
  refine⟨u,rv,?_⟩;rcases S.par y (A2 hp)with k|k
  .exact .inl ⟨k,zeO ndP hp hu k⟩
  .let⟨c,e⟩:=zfO (n:=s.heap.objs.size+1) k;refine .inr ⟨.inl k,c,e,?_⟩;have q:=x.cell y c e;rw[zd4 ndP hp hu (by show scope.names.lookup y≠_;rw[k];decide)]at q;exact q
 .exact e0.hok.fresh (Fd (x.above y c (C3 h)))
 .unfold start;show _=N.length;rw[A9,BC,List.length_replicate];lia
theorem zoo{CX:CXT}{P:A5}{w:Ai}{K:AE}{mg:AR->Option AF}{base:Az}{k:Nat}{f:AI}{name qual:AR}{params:Arguments}{body:List Bt}{scope:Bl}{dV kV doc pm cdv ct oc:AF}{an od:Option AI}
  {osl:Array (Option AF)} {N ps:List AR} {sp:Sp} (lk:K.lookup f=AA ⟨oc,od,.func (B4 name qual params body scope dV kV doc pm an cdv ct),osl⟩) (hcd:CJ K cdv qual=AB) (S:ya2 N ps scope)
  (len:∀vs H Q E,sp vs H Q E->vs.length=ps.length)
  (hbody:∀(A:Ao) (outer:List Env) (s:AJ) (H:Hp) (vs:List V) (Q:VK) (E:XK),yao k (A.deeper (envOfC qual scope s.heap.objs.size f cdv))->sp vs H Q E ->
   ∃t,PSs (yaQ CX P w K mg base N qual scope f cdv A outer s H E) body t/\t {nx:=λ_ H'=>Q .non H',rt:=Q} (start N vs) H):
  yaB P w K mg base CX (k+1) f (B4 name qual params body scope dV kV doc pm an cdv ct) ps sp:=by
 refine⟨len,λA outer s H args us vs Q E hr e0 hb r hsp=>?_⟩;have hl:=len _ _ _ _ hsp;have KX:K.In s.heap:=e0.mod.kin.keeps λb o e=>(e0.bs b o e).1;have lim:s.heap.NoLimit:=e0.mod.nolimit.keeps λb o e=>(e0.bs b o e).1;have hkind:∀y∈ps.zip us,scope.names.lookup y.1=AA .local \/ (scope.names.lookup y.1=AA .cell/\((cellsFrom (s.heap.objs.size+1) scope.names []).lookup y.1).isSome=AB):=λ⟨n,v⟩ hy=>by
  rcases S.par n (Et hy).1 with q|q
  .exact .inl q
  .exact .inr ⟨q,Eg _ _ _ (.inl q)⟩
 refine codeAny_call_function hr.depth (KX _ _ lk) rfl S.co S.gen rfl (PySem.W.codeRec_of KX hcd) (hb _ _ _ _ ?_);refine wpAny_newFunctionEnv_cells S.kind hkind λenv he s1 x=>?_;subst he;refine⟨lim.keeps x.toInCall.keep,codeAny_func ?_⟩;let⟨t,ht,hq⟩:=hbody A outer s H vs Q E (hr.deeper _) hsp;have I:Inv (yaQ CX P w K mg base N qual scope f cdv A outer s H E) [] (start N vs) H s1:=zht S hr.hd e0 hl r x;refine CV (ht [] s1 (start N vs) H _ I hq) (λfl s' hs=>?_) λe s' hs=>hs;have fin:∀{σ':St} {H':Hp} {v:V} {u:AF},Inv (yaQ CX P w K mg base N qual scope f cdv A outer s H E) [] σ' H' s'->RelV v u->Q v H'->CE outer P w H s Q u s':=
  λ{σ' H' v u} J rv q=>⟨v,H',J.os,J.bare,J.base,J.hok,rv,q⟩
 cases fl with
 |ret u=>
  let⟨v,σ',H',J,rv,q⟩:=hs;exact fin J rv q
 |next=>
  let⟨σ',H',J,q⟩:=hs;exact fin (v:=V.non) (u:=CH) J rfl q
 |brk=>
  let⟨_,_,_,q⟩:=hs;exact Be q
 |cont=>
  let⟨_,_,_,q⟩:=hs;exact Be q
section
variable {X:Cx}{x:AR}{p pos:CP}{e:AU}{es:List AU}{t:TA}{id T:String}{r:List V->Hp->VK->Prop}
def tCB(r:List V->Hp->VK->Prop)(t:TA):TE:=λσ H Q=>t σ H λvs H1=>r vs H1 Q
theorem zfK(hc:yac X (.builtin id) r)(hg:Gl X x)(hm:X.mg x=AD)(hv:bootBuiltins x=AA (.builtin id))(ha:PA X (e::es) t)(hn:x ≠ "__name__":=by decide)(hdb:(x==("__debug__":AR))=false:=by decide)
  (he:starEach (e::es) X.env=(AC,eval e X.env)::starEach es X.env:=by rfl) (hpl:(backTo pos (starEach es X.env)).any (·.1)=false:=by rfl):PE X (.Call (.Name x p) (e::es) [] pos) (tCB r t):=by
 intro pins s σ H Q I h;refine BZ (zdd I hg hm hv ?_ hn hdb);exact GH (thn (ha pos pins s σ H _ I h) λus s1 ⟨vs,H1,I1,r1,q1⟩=>hc pins s1 σ H1 vs us Q I1 r1 q1) he hpl
theorem zii(hc:yac X (.type T) r)(hg:Gl X x)(hm:X.mg x=AD)(hv:bootBuiltins x=AA (.type T))(ha:PA X (e::es) t)(hn:x ≠ "__name__":=by decide)(hdb:(x==("__debug__":AR))=false:=by decide)
  (he:starEach (e::es) X.env=(AC,eval e X.env)::starEach es X.env:=by rfl) (hpl:(backTo pos (starEach es X.env)).any (·.1)=false:=by rfl):PE X (.Call (.Name x p) (e::es) [] pos) (tCB r t):=by
 intro pins s σ H Q I h;refine BZ (zdd I hg hm hv ?_ hn hdb);exact CC (thn (ha pos pins s σ H _ I h) λus s1 ⟨vs,H1,I1,r1,q1⟩=>hc pins s1 σ H1 vs us Q I1 r1 q1) he hpl
end
end L2
namespace HT
open PySem PyProof.Rows
section
open PySem.SeqAt
open PySem.AutoSeq1 (wpAny_loadPart')
open PySem.MeetsSeq PySem.MeetsSeq2 PySem.MeetsSeq3
end
section
variable {prog:A5}{w:Ai}{A:Ao}{E:AF->AJ->Prop}{s:AJ}
theorem cat_tup{t b:AI}{vs ws:List AF}{Q:AF->AJ->Prop}(ht:G5 s.heap t vs.toArray)(hb:G5 s.heap b ws.toArray)(hv:vs≠[])
  (h1:ws=[]->Q (.ref t) s) (h2:ws≠[]->Q (.ref s.heap.objs.size) {s with heap:=s.heap.push {cls:=.type "tuple",data:=.seq (vs++ws).toArray} })
  (hsz:vs.length+ws.length<=sizeLine):A1 (model prog w) A (binaryOp .Add (.ref t) (.ref b)) Q E s:=by
 let⟨⟨cls,dd,data,sl⟩,ho,hc,n,hd⟩:=id ht;let⟨⟨cls2,dd2,data2,sl2⟩,ho2,hc2,n2,hd2⟩:=id hb;simp only at hc hd hc2 hd2;subst hc hd hc2 hd2;have e:vs.toArray++ws.toArray=(vs++ws).toArray:=by simp
 by_cases hw:ws=[]
 .exact Fi ⟨_,ho,rfl⟩ ⟨_,ho2,rfl⟩ C4 Cw Bo Bf (Ba _ _)
   (tuple_addW1 t b vs.toArray ws.toArray n n2 dd dd2 sl sl2 (by simpa using hv) (by simp[hw])) ⟨ho,ho2,h1 hw⟩
 .refine Fi ⟨_,ho,rfl⟩ ⟨_,ho2,rfl⟩ C4 Cw Bo Bf (Ba _ _)
   (tuple_addW2 t b vs.toArray ws.toArray n n2 dd dd2 sl sl2 (by simpa using hv) (by simpa using hw) (by rw[AX,AX];exact hsz)) ⟨ho,ho2,?_⟩
  rw[e];exact h2 hw
def sIx(n d:Nat):Option Int->Nat
 |none=>d
 |some v=>if v<0 then(v+(n:Int)).toNat else min v.toNat n
theorem sIx_le(n d:Nat)(hd:d<=n)(o:Option Int):sIx n d o<=n:=by
 cases o with
 |none=>exact hd
 |some v=>
  show (if v<0 then(v+(n:Int)).toNat else min v.toNat n)<=n
  by_cases hv:v<0
  .rw[if_pos hv];lia
  .rw[if_neg hv];exact Nat.min_le_right _ _
theorem zh6(v:Int)(n d:Nat):(if v<0 then max (v+(n:Int)) 0 else min v (n:Int))=((sIx n d (AA v):Nat):Int):=by
 show (if v<0 then max (v+(n:Int)) 0 else min v (n:Int))=(((if v<0 then(v+(n:Int)).toNat else min v.toNat n):Nat):Int)
 by_cases hv:v<0
 .simp only[if_pos hv];lia
 .simp only[if_neg hv];lia
theorem zf9(lo hi:Option Int)(n:Nat):Ct lo hi 1 (n:Int)=(((sIx n 0 lo:Nat):Int),((sIx n n hi:Nat):Int)):=by
 have h1:¬((1:Int)<0):=by lia
 unfold Ct;erw[h1,if_false];refine Prod.ext ?_ ?_
 .cases lo with
  |none=>rfl
  |some v=>exact zh6 v n 0
 .cases hi with
  |none=>rfl
  |some v=>exact zh6 v n n
theorem zgl(i j:Nat):CN (i:Int) (j:Int) 1=j-i:=by
 unfold CN;have h1:(1:Int) > 0:=by lia
 erw[h1,if_true,Dl];split<;>lia
theorem zdh{v:AF}{o:Option Int}{Q:Option Int->AJ->Prop}(p:Eh v o)(h:Q o s):A1 (model prog w) A (GX v) Q E s:=by
 cases p with
 |none=>exact slicePart_none h
 |int i t=>exact slicePart_int h
theorem sliceApplied_gen{sl:AI}{vl vu:AF}{lo hi:Option Int}{n:Nat}{Q:Int×Int×Nat->AJ->Prop}(hs:s.heap.IsSliceOf sl vl vu .none)(pl:Eh vl lo)(pu:Eh vu hi)
  (h:Q (((sIx n 0 lo:Nat):Int),1,sIx n n hi-sIx n 0 lo) s):A1 (model prog w) A (Dy (.ref sl) (pure (n:Int))) Q E s:=by
 let⟨os,hos,hcs,hds⟩:=id hs;unfold Dy Gh;refine AH (AH (BU hos hds (x:=vl) rfl (AH (BU hos hds (x:=vu) rfl (AH (BU hos hds (x:=.none) rfl (AV ?_)))))));refine AH (slicePart_none ?_);show A1 _ _ (if ((1:Int)==0)=AB then _ else _) _ _ s;rw[if_neg (by decide)];refine AH (zdh pl (AH (zdh pu (AH (AV ?_)))));show A1 _ _ (match Ct lo hi 1 (n:Int)with|(lo,hi)=>pure (lo,(1:Int),CN lo hi 1)) _ _ s;rw[zf9 lo hi n];show A1 _ _ (pure (((sIx n 0 lo:Nat):Int),(1:Int),CN ((sIx n 0 lo:Nat):Int) ((sIx n n hi:Nat):Int) 1)) _ _ s;rw[zgl];exact AV h
theorem zjk(xs:Array AF)(i k:Nat):((CU k).filterMap λ(m:Nat)=>xs[((i:Int)+(m:Int)*1).toNat]?).toArray=((xs.toList.drop i).take k).toArray:=by
 have e:(λ(m:Nat)=>xs[((i:Int)+(m:Int)*1).toNat]?)=λm=>xs[i+m]?:=by
  funext m
  have:((i:Int)+(m:Int)*1).toNat=i+m:=by lia
  rw[this]
 rw[e];have:=pick_run xs i k;rw[List.filterMap_map]at this;have e2:((λx=>xs[x]?) ∘ λx=>i+x)=λm=>xs[i+m]?:=rfl;rw[e2]at this;rw[this]
theorem getItem_tuple_cut{t sl:AI}{items:Array AF}{vl vu:AF}{lo hi:Option Int}{Q:AF->AJ->Prop}(ht:G5 s.heap t items)(hs:s.heap.IsSliceOf sl vl vu .none)(pl:Eh vl lo)(pu:Eh vu hi)
  (hw:¬(sIx items.size 0 lo=0/\sIx items.size items.size hi=items.size))
  (h:Q (.ref s.heap.objs.size) {s with heap:=s.heap.push {cls:=.type "tuple",data:=.seq ((items.toList.drop (sIx items.size 0 lo)).take (sIx items.size items.size hi-sIx items.size 0 lo)).toArray} })
  (hsz:items.size<=sizeLine):A1 (model prog w) A (getItem (.ref t) (.ref sl)) Q E s:=by
 have htake:sizeOk (.seq ((items.toList.drop (sIx items.size 0 lo)).take (sIx items.size items.size hi-sIx items.size 0 lo)).toArray):=by
  show ((items.toList.drop (sIx items.size 0 lo)).take (sIx items.size items.size hi-sIx items.size 0 lo)).toArray.size<=sizeLine;rw[AX,EZ,GI,CB];lia
 have hj:sIx items.size items.size hi<=items.size:=sIx_le _ _ (AT _) hi;let⟨os,hos,hcs,hds⟩:=id hs;have hTs:s.TypeIs (.ref sl) "slice":=⟨os,hos,hcs⟩;unfold getItem
 try with_reducible refine DY ?_
 first|refine AH (AV ?_)|skip
 refine AH (Fj ht.typeIs (by decide) ?_);refine AH (Bg (name:=AG "__getitem__") ht.typeIs BG
  (C5 BG ht.typeIs FT ?_ (F7 _ _)))
 show A1 _ _ (Dz (.ref t) >>= _) _ _ s;refine AH (FO ht ?_);refine AH (Fk hTs ?_);rw[if_pos (by decide)];refine AH (sliceApplied_gen hs pl pu ?_);have hno:¬((((sIx items.size 0 lo:Nat):Int)==0&&(1:Int)==1&&(sIx items.size items.size hi-sIx items.size 0 lo)==items.size)=AB):=by
  intro q;rw[AK,AK]at q;have q1:((sIx items.size 0 lo:Nat):Int)=0:=eq_of_beq q.1.1;have q2:sIx items.size items.size hi-sIx items.size 0 lo=items.size:=eq_of_beq q.2;exact hw ⟨by lia,by lia⟩
 show A1 _ _ (if (((sIx items.size 0 lo:Nat):Int)==0&&(1:Int)==1&&(sIx items.size items.size hi-sIx items.size 0 lo)==items.size)=AB then _ else _) _ _ s;rw[if_neg hno,zjk]
 first
  |exact AH (m:=CW _) (Bn (AV ⟨_,rfl,AV h⟩) htake)
  |exact AH (m:=CW _) (Bn (AH (AV (AV ⟨_,rfl,AV h⟩))) htake)
  |exact AH (AH (m:=CW _) (Bn (AV (AV ⟨_,rfl,AV h⟩)) htake))
  |exact AH (AH (m:=CW _) (Bn (AV ⟨_,rfl,AV h⟩) htake))
end
end HT
namespace L2
open PySem PySem.Spec PyProof.Rows
abbrev TO:=St->Hp->(Option Int->Hp->Prop)->Prop
def PO(X:Cx)(e:Option AU)(t:TO):Prop:=
 ∀(pins:List (AI×CA)) (s:AJ) (σ:St) (H:Hp) (Q:Option Int->Hp->Prop),Inv X pins σ H s->t σ H Q ->
  A1 (model X.prog X.w) X.A (evalPart e X.env) (λu s'=>∃o H',Inv X pins σ H' s'/\Eh u o/\Q o H') X.xe s
def ycD:TO:=λ_ H Q=>Q AD H
theorem zfZ{ns:List Int}:∀{us:List AF},Vals (ns.map V.int) us->FP us ns:=by
 induction ns with
 |nil=>intro us r;rw[Ac]at r;cases r;exact .nil
 |cons n ns ih=>
  intro us r;rw[AL]at r
  cases r with
  |cons r1 r2=>
   let⟨t,e⟩:=r1;subst e;exact .cons n t (ih r2)
section
variable {X:Cx}{e:AU}{te:TE}{lo hi:Option AU}{tl th:TO}{pos p2:CP}
theorem zki:PO X AD ycD:=by
 intro pins s σ H Q I h;rw[evalPart_none];exact AV ⟨AD,H,I,.none,h⟩
def SlR(X:Cx)(r:V->Option Int->Option Int->Hp->VK->Prop):Prop:=
 ∀(pins:List (AI×CA)) (s:AJ) (σ:St) (H:Hp) (x:V) (v vl vu:AF) (lo hi:Option Int) (sl:AI) (Q:VK),Inv X pins σ H s->RelV x v->s.heap.IsSliceOf sl vl vu .none->Eh vl lo->Eh vu hi->r x lo hi H Q ->
  ∃T id,typeLookup (.type T) "__getitem__"=pure (AA (.builtin id))/\s.TypeIs v T/\A1 (model X.prog X.w) X.A (getItem v (.ref sl)) (EP X pins σ Q) X.xe s
def tSl(r:V->Option Int->Option Int->Hp->VK->Prop)(te:TE)(tl th:TO):TE:=λσ H Q=>te σ H λx H1=>tl σ H1 λl H2=>th σ H2 λu H3=>r x l u H3 Q
theorem zjx{r:V->Option Int->Option Int->Hp->VK->Prop}(hr:SlR X r)(he:PE X e te)(hl:PO X lo tl)(hu:PO X hi th):PE X (.Subscript e (.Slice lo hi AD p2) pos) (tSl r te tl th):=by
 intro pins s σ H Q I h;refine Ga (thn (he pins s σ H _ I h) λv s1 kq=>?_);let⟨x,H1,I1,r1,q1⟩:=kq;refine wpAny_Slice (thn (hl pins s1 σ H1 _ I1 q1) λvl s2 kq=>?_);let⟨l,H2,I2,pl,q2⟩:=kq;refine thn (hu pins s2 σ H2 _ I2 q2) λvu s3 kq=>?_;let⟨u,H3,I3,pu,q3⟩:=kq;rw[evalPart_none];refine AV ?_;have I4:Inv X pins σ H3 {s3 with heap:=s3.heap.push {cls:=.type "slice",data:=.fields #[vl,vu,.none]} }:=I3.kept (t':=s3.toks) λb ob q=>AQ _ q;let⟨T,id,hT,ht,hg⟩:=hr pins {s3 with heap:=s3.heap.push {cls:=.type "slice",data:=.fields #[vl,vu,.none]} } σ H3 x v vl vu l u s3.heap.objs.size Q I4 r1 (HN ..) pl pu q3;show A1 (model X.prog X.w) X.A (subscriptTail e (.Slice lo hi AD p2) v (.ref s3.heap.objs.size)) (EP X pins σ Q) X.xe {s3 with heap:=s3.heap.push {cls:=.type "slice",data:=.fields #[vl,vu,.none]} };exact tail_any (ops:=[.ref s3.heap.objs.size,v]) ht hT hg (by ac_rfl)
def ych(xs:List V)(lo hi:Option Int):List V:=(xs.drop (HT.sIx xs.length 0 lo)).take (HT.sIx xs.length xs.length hi-HT.sIx xs.length 0 lo)
theorem zcS(xs:List V)(lo hi:Option Int):(ych xs lo hi).length<=xs.length:=by
 unfold ych;rw[EZ,GI];lia
def yfs(K:AE):V->Option Int->Option Int->Hp->VK->Prop:=λx lo hi H Q=>∃a xs,x=.ref a/\SqT K H a xs /\
 ¬(HT.sIx xs.length 0 lo=0/\HT.sIx xs.length xs.length hi=xs.length)/\∀p,H p=AD->Q (.ref p) (upd H p (.tup (ych xs lo hi)))
theorem zmw:SlR X (yfs X.K):=by
 intro pins s σ H x v vl vu lo hi sl Q I rx hs pl pu h;let⟨a,xs,rfl,hx,hw,q⟩:=h
 cases rx
 let⟨its,r,ht,hz⟩:=I.tuple hx;have hlen:its.toArray.size=xs.length:=by rw[AX];exact r.length.symm
 refine⟨"tuple",_,BG.lookup,ht.typeIs,?_⟩;refine HT.getItem_tuple_cut ht hs pl pu (by rw[hlen];exact hw) ?_ (by rw[hlen];exact hz);rw[hlen];refine⟨.ref s.heap.objs.size,_,I.laid (t':=s.toks) (o:=.tup (ych xs lo hi)) (λb ob q=>AQ _ q) (AT _) ?_,rfl,q _ (I.hok.fresh (AT _))⟩;exact⟨BW (zcS xs lo hi) hz,_,(r.drop (HT.sIx xs.length 0 lo)).take (HT.sIx xs.length xs.length hi-HT.sIx xs.length 0 lo),FM _ _⟩
def ydT(K:AE):R2:=λx y H Q=>∃a b xs ys,x=.ref a/\y=.ref b/\SqT K H a xs/\SqT K H b ys/\xs≠[]/\xs.length+ys.length<=sizeLine /\
 (ys=[]->Q (.ref a) H)/\(ys≠[]->∀p,H p=AD->Q (.ref p) (upd H p (.tup (xs++ys))))
theorem Vals.nil_iff{xs:List V}{us:List AF}(r:Vals xs us):us=[] ↔ xs=[]:=by
 cases r with
 |nil=>simp
 |cons _ _=>simp
theorem zk7:OpR X (binaryOp .Add) (ydT X.K):=by
 intro pins s σ H x y v u Q I rx ry h;let⟨a,b,xs,ys,rfl,rfl,ha,hb,hx,hz,q1,q2⟩:=h
 cases rx
 cases ry
 let⟨its,r1,p1,_⟩:=I.tuple ha;let⟨its2,r2,p2,_⟩:=I.tuple hb;refine HT.cat_tup p1 p2 (λz=>hx (r1.nil_iff.mp z)) (λz=>⟨.ref a,H,I,rfl,q1 (r2.nil_iff.mp z)⟩) (λz=>?_) (by rw[<-r1.length,<-r2.length];exact hz);refine⟨.ref s.heap.objs.size,_,I.laid (t':=s.toks) (o:=.tup (xs++ys)) (λb ob q=>AQ _ q) (AT _) ?_,rfl,q2 (λw=>z (r2.nil_iff.mpr w)) _ (I.hok.fresh (AT _))⟩;exact⟨by rw[A9];exact hz,_,r1.append r2,FM _ _⟩
end
def ixN(n:Nat)(i:Int):Option Nat:=if 0<=i then(if i<n then AA i.toNat else AD)else if -(n:Int)<=i then AA (i+n).toNat else AD
def atI{α:Type}(xs:List α)(i:Int):Option α:=(ixN xs.length i).bind λj=>xs[j]?
theorem zhN{n:Nat}{i:Int}{j:Nat}(h:ixN n i=AA j):seqIndex? i n=AA j/\j<n/\-(n:Int)<=i/\i<n:=by
 unfold ixN at h
 by_cases h0:0<=i
 .rw[if_pos h0]at h
  by_cases h1:i<n
  .rw[if_pos h1]at h;have e:i.toNat=j:=AZ h;exact⟨by rw[GT h0 h1,e],by lia,by lia,h1⟩
  .rw[if_neg h1]at h;cases h
 .rw[if_neg h0]at h
  by_cases h1:-(n:Int)<=i
  .rw[if_pos h1]at h;have e:(i+n).toNat=j:=AZ h;exact⟨by rw[seqIndex_neg (by lia) h1,e],by lia,h1,by lia⟩
  .rw[if_neg h1]at h;cases h
theorem ze6{α:Type}{xs:List α}{i:Int}{v:α}(h:atI xs i=AA v):∃j,seqIndex? i xs.length=AA j/\xs[j]?=AA v/\j<xs.length/\-(xs.length:Int)<=i/\i<xs.length:=by
 unfold atI at h
 cases e:ixN xs.length i with
 |none=>rw[e]at h;cases h
 |some j=>
  rw[e]at h;let⟨h1,h2,h3,h4⟩:=zhN e;exact⟨j,h1,h,h2,h3,h4⟩
def ybt(b:AU):Prop:=∀o i,subscripted b AC o i=operate [o,i] (getItem o i)
def IxR(X:Cx)(r:R2):Prop:=
 ∀(value slice:AU) (pins:List (AI×CA)) (s:AJ) (σ:St) (H:Hp) (x y:V) (v u:AF) (Q:VK),Inv X pins σ H s->RelV x v->RelV y u->r x y H Q ->
  subscripted slice AC v u=operate [v,u] (getItem v u)->A1 (model X.prog X.w) X.A (subscriptTail value slice v u) (EP X pins σ Q) X.xe s
def MtR(X:Cx)(id:String)(r:V->List V->Hp->VK->Prop):Prop:=
 ∀(pins:List (AI×CA)) (s:AJ) (σ:St) (H:Hp) (x:V) (xs:List V) (v:AF) (us:List AF) (Q:VK),Inv X pins σ H s->RelV x v->Vals xs us->r x xs H Q ->
  A1 (model X.prog X.w) X.A (call (.builtin id) (v::us)) (EP X pins σ Q) X.xe s
section
variable {X:Cx}{a b:AU}{ta tb:TE}{pos:CP}
theorem IxR.or{r r':R2}(h:IxR X r)(h':IxR X r'):IxR X (λx y H Q=>r x y H Q \/ r' x y H Q):=by
 intro value slice pins s σ H x y v u Q I rx ry q hs;rcases q with q|q
 .exact h value slice pins s σ H x y v u Q I rx ry q hs
 .exact h' value slice pins s σ H x y v u Q I rx ry q hs
theorem zoV{r:R2}(hr:IxR X r)(ha:PE X a ta)(hb:PE X b tb)(hs:ybt b):PE X (.Subscript a b pos) (tOp r ta tb):=by
 intro pins s σ H Q I h;exact Ga (yei ha hb I h λv u s2 x y H2 I2 rx ry q=>hr a b pins s2 σ H2 x y v u Q I2 rx ry q (hs _ _))
def yeI(K:AE):R2:=λx y H Q=>∃p xs i v,x=.ref p/\y=.int i/\SqL K H p xs/\atI xs i=AA v/\Q v H
def yeO(K:AE):R2:=λx y H Q=>∃p xs i v,x=.ref p/\y=.int i/\SqT K H p xs/\atI xs i=AA v/\Q v H
def yeW:R2:=λx y H Q=>∃z i c,x=.str z/\y=.int i/\z.length<=sizeLine/\atI z.cps.toList i=AA c/\Q (.str ⟨#[c]⟩) H
theorem ycE:IxR X (yeI X.K):=by
 intro value slice pins s σ H x y v u Q I rx ry h hs;let⟨p,xs,i,z,rfl,rfl,hq,he,q⟩:=h
 cases rx
 let⟨t,rfl⟩:=ry;let⟨its,r,pl,hz⟩:=I.list hq;let⟨j,h1,h2,h3,h4,h5⟩:=ze6 he;let⟨w,ew,rw'⟩:=r.get h2;have hl:=r.length;have hn:=yaH;have fin:EP X pins σ Q w s:=⟨z,H,I,rw',q⟩
 by_cases h0:0<=i
 .have hj:i.toNat=j:=by
   rw[GT h0 h5]at h1;exact AZ h1
  exact item_listR pl.isList h0 (by lia) (by rw[hj];simpa using ew) fin hs
 .have hj:(i+(its.toArray.size:Int)).toNat=j:=by
   rw[seqIndex_neg (by lia) h4]at h1;rw[AX,<-hl];exact AZ h1
  exact Ei (x:=w) pl.isList.typeIs Fm.lookup
   (wpAny_getItem_list_neg (Q:=λr s'=>r=w/\EP X pins σ Q r s') pl.isList (by lia) (by rw[AX]<;>lia) (by lia) (by rw[hj];simpa using ew) ⟨rfl,fin⟩) hs
theorem ydn:IxR X (yeO X.K):=by
 intro value slice pins s σ H x y v u Q I rx ry h hs;let⟨p,xs,i,z,rfl,rfl,hq,he,q⟩:=h
 cases rx
 let⟨t,rfl⟩:=ry;let⟨its,r,pl,hz⟩:=I.tuple hq;let⟨j,h1,h2,h3,h4,h5⟩:=ze6 he;let⟨w,ew,rw'⟩:=r.get h2;have hl:=r.length;have hn:=yaH;have fin:EP X pins σ Q w s:=⟨z,H,I,rw',q⟩;exact Ei (x:=w) pl.typeIs BG.lookup
  (getItem_tuple (j:=j) (Q:=λr s'=>r=w/\EP X pins σ Q r s') pl (by lia) (by lia) (by rw[AX,<-hl];exact h1) (by simpa using ew) ⟨rfl,fin⟩) hs
theorem zl7:IxR X yeW:=by
 intro value slice pins s σ H x y v u Q I rx ry h hs;let⟨z,i,c,rfl,rfl,hz,he,q⟩:=h;let⟨t,rfl⟩:=rx;let⟨t',rfl⟩:=ry;let⟨j,h1,h2,h3,h4,h5⟩:=ze6 he;have hl:z.cps.toList.length=z.length:=by simp[Str.length]
 rw[hl]at h1 h4 h5;have hn:=yaH;exact tail_any (Gb s z t) slot_str_getitem.lookup (getItem_str (c:=c) (by
  have e1:decide (i < -(2^63:Int))=false:=decide_eq_false (by lia);have e2:decide (i ≥ 2^63)=false:=decide_eq_false (by lia);rw[e1,e2,Gm]) (by rw[h1];simpa using h2) ⟨.str ⟨#[c]⟩,H,I.tok _,⟨_,rfl⟩,q⟩) hs
def rIx(K:AE):R2:=λx y H Q=>yeI K x y H Q \/ yeO K x y H Q \/ yeW x y H Q
theorem zfs:IxR X (rIx X.K):=ycE.or (ydn.or zl7)
theorem zgq(its:List AF)(n j:Nat)(u:AF):Ej (·.setIfInBounds j u) {cls:=.type "list",data:=.seq its.toArray n}={cls:=.type "list",data:=.seq (its.set j u).toArray n}:=by
 simp[Ej]
theorem Inv.lst{pins:List (AI×CA)}{σ:St}{H:Hp}{s:AJ}{p:AI}{xs:List V}(I:Inv X pins σ H s)(h:H p=AA (.lst xs)):
  ∃(its:List AF) (n:Nat),Vals xs its/\s.heap.get? p=AA {cls:=.type "list",data:=.seq its.toArray n}/\xs.length<=sizeLine:=by
 let⟨z,its,n,r,e⟩:=I.hok p _ h;exact⟨its,n,r,e,z⟩
theorem Inv.lstUpd{pins:List (AI×CA)}{σ:St}{H:Hp}{s:AJ}{p:AI}{xs ys:List V}{its its':List AF}{n n':Nat}{f:CA->CA}(I:Inv X pins σ H s)(h:H p=AA (.lst xs))
  (ho:s.heap.get? p=AA {cls:=.type "list",data:=.seq its.toArray n}) (hf:f {cls:=.type "list",data:=.seq its.toArray n}={cls:=.type "list",data:=.seq its'.toArray n'}) (r:Vals ys its') (hz:ys.length<=sizeLine) (t:Nat):
  Inv X pins σ (upd H p (.lst ys)) {s with heap:=s.heap.update p f,toks:=t}:=by
 have e:(s.heap.update p f).get? p=AA {cls:=.type "list",data:=.seq its'.toArray n'}:=by
  rw[Ey f ho (by rw[hf]<;>rfl),hf]
 refine I.write (x:=p) (e:=p) (by rw[h];trivial) (.inl rfl) (λb u hb q=>(DF _ _ (BK hb)).trans q) ⟨_,e⟩ ?_;exact⟨hz,its',n',r,e⟩
def yc5:V->V->V->Hp->(Hp->Prop)->Prop:=λo i v H Q=>∃p xs k j,o=.ref p/\i=.int k/\H p=AA (.lst xs)/\ixN xs.length k=AA j/\Q (upd H p (.lst (xs.set j v)))
theorem zfr:ye4 X yc5:=by
 intro pins s σ H o i v ov iv u Q I ro ri rv h;let⟨p,xs,k,j,rfl,rfl,hp,hj,q⟩:=h
 cases ro
 let⟨t,rfl⟩:=ri;let⟨its,n,r,ho,hz⟩:=I.lst hp;let⟨h1,h2,h3,h4⟩:=zhN hj;have hl:=r.length;have hn:=yaH;have I':Inv X pins σ (upd H p (.lst (xs.set j v))) {s with heap:=s.heap.update p (Ej (·.setIfInBounds j u))}:=
  I.lstUpd hp ho (zgq its n j u) (r.set rv j) (by rw[B3];exact hz) s.toks
 by_cases h0:0<=k
 .have hk:k.toNat=j:=by
   rw[GT h0 h4]at h1;exact AZ h1
  exact PySem.W.ki_setAt ho h0 (by lia) (by rw[AX,<-hl];exact h4) (by rw[hk];exact⟨_,I',q⟩)
 .have hk:(k+(its.toArray.size:Int)).toNat=j:=by
   rw[seqIndex_neg (by lia) h3]at h1;rw[AX,<-hl];exact AZ h1
  exact PySem.W.ki_setBack ho (by lia) (by rw[AX,<-hl];exact h3) (by lia) (by rw[hk];exact⟨_,I',q⟩)
theorem zeS(lo hi:Option Int)(n:Nat):(sliceBounds lo hi AD n).1=((HT.sIx n 0 lo:Nat):Int)/\(sliceBounds lo hi AD n).2.1=((HT.sIx n n hi:Nat):Int)/\(sliceBounds lo hi AD n).2.2=1:=by
 refine⟨?_,?_,rfl⟩
 .cases lo with
  |none=>simp[sliceBounds,HT.sIx]
  |some i=>
   erw[sliceBounds,HT.sIx,GJ,show (1:Int) > 0 by decide,if_true]
   by_cases h:i<0
   .simp only[h,if_true]<;>lia
   .simp only[h,if_false]<;>lia
 .cases hi with
  |none=>simp[sliceBounds,HT.sIx]
  |some i=>
   erw[sliceBounds,HT.sIx,GJ,show (1:Int) > 0 by decide,if_true]
   by_cases h:i<0
   .simp only[h,if_true]<;>lia
   .simp only[h,if_false]<;>lia
theorem zdA(its:List AF)(lo hi:Option Int):slicePick its.toArray lo hi AD=((its.drop (HT.sIx its.length 0 lo)).take (HT.sIx its.length its.length hi-HT.sIx its.length 0 lo)).toArray:=by
 let⟨h1,h2,h3⟩:=zeS lo hi its.toArray.size;unfold slicePick;rw[h1,h2,h3];erw[sliceRange_one,pick_run,AX]<;>rfl
def yfT(K:AE):V->Option Int->Option Int->Hp->VK->Prop:=λx lo hi H Q=>∃a xs,x=.ref a/\SqL K H a xs/\∀p,H p=AD->Q (.ref p) (upd H p (.lst (ych xs lo hi)))
theorem zhC:SlR X (yfT X.K):=by
 intro pins s σ H x v vl vu lo hi sl Q I rx hs pl pu h;let⟨a,xs,rfl,hx,q⟩:=h
 cases rx
 let⟨its,r,ht,hz⟩:=I.list hx;have hlen:=r.length;refine⟨"list",_,Fm.lookup,ht.isList.typeIs,?_⟩;refine wpAny_getItem_list_slice ht.isList hs pl pu .none (by simp) ?_ (by rw[AX]<;>lia);rw[zdA,<-hlen];refine⟨.ref s.heap.objs.size,_,I.laid (t':=s.toks) (o:=.lst (ych xs lo hi)) (λb ob q=>AQ _ q) (AT _) ?_,rfl,q _ (I.hok.fresh (AT _))⟩;exact⟨BW (zcS xs lo hi) hz,_,0,(r.drop (HT.sIx xs.length 0 lo)).take (HT.sIx xs.length xs.length hi-HT.sIx xs.length 0 lo),A0 _ rfl⟩
def yaR:V->Bool
 |.non=>AB
 |.bl _=>AB
 |.int _=>AB
 |.str _=>AB
 |_=>AC
def eqV:V->V->Bool
 |.non,.non=>AB
 |.bl a,.bl b=>a==b
 |.bl a,.int b=>(if a then 1 else 0)==b
 |.int a,.bl b=>a==(if b then 1 else 0)
 |.int a,.int b=>a==b
 |.str a,.str b=>a==b
 |_,_=>AC
theorem zob{A:Ao}{s:AJ}{y x:V}{u v:AF}(ry:RelV y u)(rx:RelV x v)(fy:yaR y=AB)(fx:yaR x=AB):HP A s u v (eqV y x):=by
 cases y with
 |non=>
  cases ry
  cases x with
  |non=>cases rx;exact SeqAt.EqAt.same _
  |bl b=>cases rx;exact SeqAt.EqAt.none_bool b
  |int b=>let⟨t,rfl⟩:=rx;exact SeqAt.EqAt.none_int b t
  |str b=>let⟨t,rfl⟩:=rx;exact SeqAt.EqAt.none_str b t
  |_=>exact absurd (show AC=AB from fx) Aw
 |bl a=>
  cases ry
  cases x with
  |non=>cases rx;exact SeqAt.EqAt.bool_none a
  |bl b=>cases rx;exact SeqAt.EqAt.bool_bool a b
  |int b=>let⟨t,rfl⟩:=rx;exact SeqAt.EqAt.bool_int a b t
  |str b=>let⟨t,rfl⟩:=rx;exact SeqAt.EqAt.bool_str a b t
  |_=>exact absurd (show AC=AB from fx) Aw
 |int a=>
  let⟨t',rfl⟩:=ry
  cases x with
  |non=>cases rx;exact SeqAt.EqAt.int_none a t'
  |bl b=>cases rx;exact SeqAt.EqAt.int_bool a t' b
  |int b=>let⟨t,rfl⟩:=rx;exact SeqAt.EqAt.int_int a t' b t
  |str b=>let⟨t,rfl⟩:=rx;exact F4 a t' b t
  |_=>exact absurd (show AC=AB from fx) Aw
 |str a=>
  let⟨t',rfl⟩:=ry
  cases x with
  |non=>cases rx;exact SeqAt.EqAt.str_none a t'
  |bl b=>cases rx;exact SeqAt.EqAt.str_bool a t' b
  |int b=>let⟨t,rfl⟩:=rx;exact F5 a t' b t
  |str b=>let⟨t,rfl⟩:=rx;exact SeqAt.EqAt.str_str a t' b t
  |_=>exact absurd (show AC=AB from fx) Aw
 |_=>exact absurd (show AC=AB from fy) Aw
def eqU(x:V)(u:AF):Bool:=match u with
 |.none=>eqV .non x
 |.bool b=>eqV (.bl b) x
 |.int i _=>eqV (.int i) x
 |.str z _=>eqV (.str z) x
 |_=>AC
theorem zjJ{x y:V}{u:AF}(r:RelV y u)(f:yaR y=AB):eqU x u=eqV y x:=by
 cases y with
 |non=>cases r;rfl
 |bl b=>cases r;rfl
 |int i=>let⟨t,rfl⟩:=r;rfl
 |str z=>let⟨t,rfl⟩:=r;rfl
 |_=>exact absurd (show AC=AB from f) Aw
theorem zfh{x:V}:∀{xs:List V} {us:List AF},Vals xs us->xs.all yaR=AB->us.any (eqU x)=xs.any λy=>eqV y x
 |_,_,.nil,_=>rfl
 |y::xs,u::us,.cons r t,f=>by
  rw[Bb,AK]at f;rw[BN,BN,zjJ r f.1,zfh t f.2]
theorem zdu{A:Ao}{s:AJ}{x:V}{v:AF}(rx:RelV x v)(fx:yaR x=AB):∀{xs:List V} {us:List AF},Vals xs us->xs.all yaR=AB->∀u∈us,HP A s u v (eqU x u)
 |_,_,.nil,_=>λu hu=>by cases hu
 |y::xs,u::us,.cons r t,f=>λu' hu=>by
  rw[Bb,AK]at f;rcases A3.mp hu with rfl|hu
  .rw[zjJ r f.1];exact zob r rx f.1 fx
  .exact zdu rx fx t f.2 u' hu
def inV(x:V)(xs:List V):Bool:=xs.any λy=>eqV y x
def rIn(K:AE)(neg:Bool):R2:=λx y H Q=>∃p xs,y=.ref p/\(SqL K H p xs \/ SqT K H p xs)/\yaR x=AB/\xs.all yaR=AB/\Q (.bl (if neg then !inV x xs else inV x xs)) H
theorem zeR:OpR X (compareOp .In) (rIn X.K AC):=by
 intro pins s σ H x y v u Q I rx ry h;let⟨p,xs,rfl,hq,fx,fs,q⟩:=h
 cases ry
 rcases hq with hq|hq
 .let⟨its,r,pl,hz⟩:=I.list hq;refine SeqAt.in_listAt (eqU x) pl.isList (λw hw=>zdu rx fx r fs w (by simpa using hw)) ⟨.bl _,H,I,rfl,?_⟩;rw[show its.toArray.any (eqU x)=its.any (eqU x)by simp,zfh r fs];exact q
 .let⟨its,r,pl,hz⟩:=I.tuple hq;refine SeqAt.in_tupleAt (eqU x) pl (λw hw=>zdu rx fx r fs w (by simpa using hw)) ⟨.bl _,H,I,rfl,?_⟩;rw[show its.toArray.any (eqU x)=its.any (eqU x)by simp,zfh r fs];exact q
theorem zeD:yac X (.builtin "len") (λxs H Q=>∃p ys,xs=[.ref p]/\(SqL X.K H p ys \/ SqT X.K H p ys)/\Q (.int ys.length) H):=by
 intro pins s σ H xs us Q I r h;let⟨p,ys,rfl,hq,q⟩:=h;let⟨u,rfl,rx⟩:=vals1 r
 cases rx
 have hn:=yaH;rcases hq with hq|hq
 .let⟨its,r',pl,hz⟩:=I.list hq;have hlen:=r'.length;exact Calls.call_len_list pl.isList (by erw[AX]<;>lia) ⟨.int ys.length,H,I.tok _,⟨s.toks+1,by rw[AX,hlen]⟩,q⟩
 .let⟨its,r',pl,hz⟩:=I.tuple hq;have hlen:=r'.length;exact len_tuple pl (by erw[AX]<;>lia) ⟨.int ys.length,H,I.tok _,⟨s.toks+1,by rw[AX,hlen]⟩,q⟩
theorem zdZ:yac X (.builtin "len") (λxs H Q=>∃z,xs=[.str z]/\z.length<=sizeLine/\Q (.int z.length) H):=by
 intro pins s σ H xs us Q I r h;let⟨z,rfl,hz,q⟩:=h;let⟨u,rfl,t,rfl⟩:=vals1 r;have hn:=yaH;exact len_str (by lia) ⟨.int z.length,H,I.tok _,⟨_,rfl⟩,q⟩
theorem zbN:yac X (.type "tuple") (λxs H Q=>∃p ys,xs=[.ref p]/\((SqL X.K H p ys/\∀l,H l=AD->Q (.ref l) (upd H l (.tup ys))) \/ (SqT X.K H p ys/\Q (.ref p) H))):=by
 intro pins s σ H xs us Q I r h;let⟨p,ys,rfl,h⟩:=h;let⟨u,rfl,rx⟩:=vals1 r
 cases rx
 rcases h with⟨hq,q⟩|⟨hq,q⟩
 .let⟨its,r',pl,hz⟩:=I.list hq;have hlen:=r'.length;refine call_tuple_list pl.isList (λh' kp=>?_) (by erw[AX]<;>lia);have I1:Inv X pins σ H {s with heap:=h'}:=I.kept (t':=s.toks) kp;have I2:Inv X pins σ (upd H h'.objs.size (.tup ys)) {s with heap:=h'.push {cls:=.type "tuple",data:=.seq its.toArray} }:=
   I1.laid (t':=s.toks) (λb o e=>AQ _ e) (AT _) (show yO X.prog X.w _ _ _ (.tup ys)from ⟨hz,its,r',FM _ _⟩)
  exact⟨.ref h'.objs.size,_,I2,rfl,q _ (I1.hok.fresh (AT _))⟩
 .let⟨its,r',pl,hz⟩:=I.tuple hq;exact call_tuple_same pl ⟨.ref p,H,I,rfl,q⟩
def tyV(K:AE)(T:String)(x:V)(H:Hp):Prop:=match x with
 |.str _=>T="str"
 |.int _=>T="int"
 |.ref p=>(T="list"/\∃xs,SqL K H p xs) \/ (T="tuple"/\∃o,K.lookup p=AA o/\o.cls=.type "tuple"/\o.dict=AD) \/
   (T="dict"/\((∃kvs,H p=AA (.dK kvs)) \/ ∃kvs,H p=AA (.dT kvs))) \/ (T="set"/\∃S n,H p=AA (.set S n))
 |_=>False
theorem znF{pins:List (AI×CA)}{σ:St}{H:Hp}{s:AJ}{T:String}{x:V}{v:AF}(I:Inv X pins σ H s)(r:RelV x v)(ty:tyV X.K T x H):
  s.TypeIs v T/\∀a,v=.ref a->∃ob,s.heap.get? a=AA ob/\ob.dict=none:=by
 cases x with
 |str z=>
  let⟨t,rfl⟩:=r
  cases (show T="str" from ty)
  exact⟨Gb s z t,λ_ e=>nomatch e⟩
 |int i=>
  let⟨t,rfl⟩:=r
  cases (show T="int" from ty)
  exact⟨typeIs_int s i t,λ_ e=>nomatch e⟩
 |ref p=>
  cases r
  rcases ty with⟨rfl,xs,hq⟩|⟨rfl,o,hk,hc,hd⟩|⟨rfl,hk⟩|⟨rfl,S,n,hk⟩
  .let⟨its,_,pl,_⟩:=I.list hq;refine⟨pl.isList.typeIs,λa e=>?_⟩
   cases e
   let⟨o,n,e,c,hd,_⟩:=pl;exact⟨o,e,hd⟩
  .refine⟨⟨o,I.kIn p o hk,hc⟩,λa e=>?_⟩
   cases e
   exact⟨o,I.kIn _ o hk,hd⟩
  .have z:∃o,s.heap.get? p=AA o/\o.ExactDict:=by
    rcases hk with⟨kvs,hk⟩|⟨kvs,hk⟩
    .let⟨_,_,_,_,o,_,_,e,ex,_⟩:=I.hok p _ hk;exact⟨o,e,ex⟩
    .let⟨_,_,_,_,o,_,_,e,ex,_⟩:=I.hok p _ hk;exact⟨o,e,ex⟩
   let⟨o,e,ex⟩:=z;refine⟨⟨o,e,ex.1⟩,λa e2=>?_⟩
   cases e2
   exact⟨o,e,ex.2.1⟩
  .let⟨o,_,_,_,e,ex,_⟩:=I.hok p _ hk;refine⟨⟨o,e,ex.1⟩,λa e2=>?_⟩
   cases e2
   exact⟨o,e,ex.2.1⟩
 |_=>exact Be ty
def tBM(K:AE)(T:String)(r:V->List V->Hp->VK->Prop)(to:TE)(t:TA):TE:=λσ H Q=>to σ H λx H1=>tyV K T x H1/\t σ H1 λxs H2=>r x xs H2 Q
variable {o e:AU}{es:List AU}{to:TE}{t:TA}{name:AR}{apos cpos:CP}{T id:String}{r:V->List V->Hp->VK->Prop}
theorem zon(pa:PlainAttrs T)(slot:Slot T name id)(hty:typeOf (.builtin id)=pure (.type "method_descriptor"))(hm:MtR X id r)(ho:PE X o to)(ha:PA X (e::es) t)
  (hbase:attributeBase o name X.env (eval o X.env)=eval o X.env:=by rfl)
  (hfew:((backTo cpos (starEach (e::es) X.env)).all (λx=>!x.1)&&(backToKw cpos (keywordEach [] X.env)).all (λx=>x.1.isSome)
   && decide ((e::es).length+([]:List C2).length+(if ([]:List C2).isEmpty then 0 else 1)<30))=true:=by rfl)
  (hline:(apos.endLine==cpos.line)=true:=by rfl) (hs:starEach (e::es) X.env=(AC,eval e X.env)::starEach es X.env:=by rfl) (hplain:(backTo cpos (starEach es X.env)).any (·.1)=false:=by rfl):
  PE X (.Call (.Attribute o name apos) (e::es) [] cpos) (tBM X.K T r to t):=by
 intro pins s σ H Q I h;refine wpAny_Call_method_late hbase hfew hline rfl (thn (ho pins s σ H _ I h) λv s1 kq=>?_);let⟨x,H1,I1,r1,ty,q1⟩:=kq;let⟨h1,h2⟩:=znF I1 r1 ty;refine⟨T,id,pa,slot,hty,h1,h2,?_⟩;have hA:=ha cpos pins s1 σ H1 _ I1 q1;rw[hs]at hA ⊢;refine Ek (by show (AC || (backTo cpos (starEach es X.env)).any (·.1))=AC;rw[hplain]<;>rfl) (FE ?_);exact thn hA λus s2 ⟨vs,H2,I2,r2,q2⟩=>hm pins s2 σ H2 x vs v us Q I2 r1 r2 q2
/- xs.append(e),list.index on a module's tuple .. are MtR facts of 06m -/
end
def MtM(X:Cx)(id:String)(r:V->List V->Hp->VK->Prop):Prop:=
 ∀(pins:List (AI×CA)) (s:AJ) (σ:St) (H:Hp) (x:V) (xs:List V) (v:AF) (us:List AF) (Q:VK),Inv X pins σ H s->RelV x v->Vals xs us->r x xs H Q ->
  A1 (model X.prog X.w) X.A (call (.builtin id) (v::us)) (EP X pins σ Q) X.xe s
theorem Vals.one:∀{x:V} {us:List AF},Vals [x] us->∃u,us=[u]/\RelV x u
 |_,_,.cons r .nil=>⟨_,rfl,r⟩
theorem Vals.reverse{xs:List V}{us:List AF}(h:Vals xs us):Vals xs.reverse us.reverse:=by
 induction h with
 |nil=>exact .nil
 |cons r t ih=>rw[DG,DG];exact Vals.append ih (.cons r .nil)
section
variable {X:Cx}{pins:List (AI×CA)}{σ:St}{H:Hp}{s:AJ}{l b:AI}{xs ys zs:List V}
theorem Inv.lset{its its':List AF}{n:Nat}{f:Array AF->Array AF}{t':Nat}(I:Inv X pins σ H s)(hH:H l=AA (.lst xs))
  (e:s.heap.get? l=AA {cls:=.type "list",data:=.seq its.toArray n}) (hf:f its.toArray=its'.toArray) (hv:Vals ys its') (hz:ys.length<=sizeLine):
  Inv X pins σ (upd H l (.lst ys)) {s with heap:=s.heap.update l (Ej f),toks:=t'}:=by
 have q:=PySem.IsL.update e f;rw[hf]at q;refine I.write (x:=l) (e:=l) (by rw[hH];exact trivial) (.inl rfl) (λb' u hb hu=>(DF s.heap (Ej f) (BK hb)).trans hu) ⟨_,q⟩ ?_;exact⟨hz,its',_,hv,q⟩
theorem Inv.lnew{its:List AF}{t':Nat}(I:Inv X pins σ H s)(hv:Vals ys its)(hz:ys.length<=sizeLine):
  Inv X pins σ (upd H s.heap.objs.size (.lst ys)) {s with heap:=s.heap.push {cls:=.type "list",data:=.seq its.toArray},toks:=t'}:=
 I.laid (λ_ _ q=>AQ _ q) (AT _) ⟨hz,its,0,hv,A0 _ rfl⟩
theorem Inv.fresh(I:Inv X pins σ H s):H s.heap.objs.size=none:=I.hok.fresh (AT _)
theorem Inv.lstM(I:Inv X pins σ H s)(hH:H l=AA (.lst xs)):xs.length<=sizeLine/\∃(its:List AF) (n:Nat),Vals xs its/\xs.length=its.length/\s.heap.get? l=AA {cls:=.type "list",data:=.seq its.toArray n}:=by
 let⟨z,its,n,r,e⟩:=I.hok l _ hH;exact⟨z,its,n,r,r.length,e⟩
end
section
variable {X:Cx}
def ycI:V->List V->Hp->VK->Prop:=λx vs H Q=>∃l xs y,x=.ref l/\vs=[y]/\H l=AA (.lst xs)/\xs.length<sizeLine/\Q .non (upd H l (.lst (xs++[y])))
theorem zd7:MtM X "list.append" ycI:=by
 intro pins s σ H x vs v us Q I rx rv h;let⟨l,xs,y,rfl,rfl,hH,hz,q⟩:=h
 cases rx
 let⟨u,rfl,ru⟩:=rv.one;let⟨z,its,n,r,hl,e⟩:=I.lstM hH;refine F8 Ez ⟨_,e,rfl⟩ F.entry_list_append (F.args_list_append_2 _ _) (PySem.list_append l its.toArray n u (by rw[AX];lia)) ⟨e,?_⟩;refine⟨.non,_,I.lset (its':=its++[u]) hH e (by simp) (r.append (.cons ru .nil)) ?_,rfl,q⟩;rw[A9,DO];lia
def yfd:R2:=λx y H Q=>∃l b xs zs,x=.ref l/\y=.ref b/\H l=AA (.lst xs)/\H b=AA (.lst zs)/\xs.length+zs.length<=sizeLine/\∀p,H p=AD->Q (.ref p) (upd H p (.lst (xs++zs)))
theorem zmB:OpR X (binaryOp .Add) yfd:=by
 intro pins s σ H x y v u Q I rx ry h;let⟨l,b,xs,zs,rfl,rfl,hH,hB,hz,q⟩:=h
 cases rx
 cases ry
 let⟨z,its,n,r,hl,e⟩:=I.lstM hH;let⟨z2,its2,n2,r2,hl2,e2⟩:=I.lstM hB;refine PySem.P.add_list e e2 ?_ (by rw[AX,AX];lia);have ea:its.toArray++its2.toArray=(its++its2).toArray:=by simp
 rw[ea];exact⟨.ref _,_,I.lnew (t':=s.toks) (r.append r2) (by rw[A9];lia),rfl,q _ I.fresh⟩
end
section
variable {prog:A5}{w:Ai}{A:Ao}{E:AF->AJ->Prop}{s:AJ}
end
section
variable {X:Cx}
end
end L2
namespace Att
open PySem PySem.W PySem.Calls PyProof.Rows
theorem zcK{P:Params}{h:Az}:∀(ns:List Int) (vs:List AF),WellAll P h vs (ns.map HW)->FP vs ns:=by
 intro ns
 induction ns with
 |nil=>
  intro vs w;rw[Ac]at w
  cases w
  exact .nil
 |cons n ns ih=>
  intro vs w;rw[AL]at w
  cases w with
  |cons a b=>
   cases a
   exact .cons _ _ (ih _ b)
theorem zif{l:Ec}{n:Nat}(hn:l.most=AA n){P:Params}{h:Az}{args:List WData}{vals:List AF}
  (hpre:l.row.toRowW.claim.pre args=AB) (hwl:WellAll P h vals args):
  ∃a vs ns,vals=[Ah a]/\args=[WData.list (ns.map HW)]/\h.get? a=AA {cls:=.type "list",data:=.seq vs.toArray}/\FP vs ns/\ns.length<=n:=by
 have hsh:WShape.hasAll [] args [.list .int]=true:=(pre_splitW hpre).1;have hc:l.pre.holds [] {args:=args}=true:=(pre_splitW hpre).2;let⟨d,r,rfl,h1,h2⟩:=hasAllW_cons hsh;obtain rfl:=hasAllW_nil h2;let⟨xs,rfl,h3⟩:=hasW_list h1;let⟨ns,rfl⟩:=items_int h3;have hlen:ns.length<=n:=by
  unfold OpenLaw.pre at hc;have h4:(WTm.not (.lt (.lit (.int (n:Int))) (.len (.arg 0)))).holds [] {args:=[.list (ns.map .int)]}=true:=by
   have h4:=(holds_andW hc).1;rw[hn]at h4;exact h4
  have h5:=condW_of h4 (w_not (w_lt w_lit (w_len_list (w_arg rfl))));rw[BC]at h5;refine Nat.le_of_not_lt λq=>?_;have q':(n:Int)<((ns.length:Nat):Int):=by lia
  first
   |(rw[decide_eq_true q']at h5;exact absurd h5 (by decide))
   |(simp at h5;lia)
 cases hwl with
 |cons w1 w2=>
  cases w2
  cases w1 with
  |list ho hall=>exact⟨_,_,ns,rfl,rfl,ho,zcK ns _ hall,hlen⟩
theorem zhx(l:Ec)(args:List WData):l.row.toRowW.claim.post args (.bool AB) args=true:=
 postW_of (r:=l.row.toRowW) (X:=(AB==AB))
  (show HQ [] (.bool AB) .bool=AB by first|rfl|decide|simp[HQ,WShape.arms,WShape.armsAll])
  (show (WTm.eq .res (.lit (.bool AB))).value [] {args:=args,res:=AA (.bool AB),after:=args}=AA (.bool (AB==AB))from w_eq_bool (w_res rfl) w_lit) rfl
theorem attach_call{l:Ec}{n:Nat}{q:A5}{loose:List AR}{XP:(AR->Option AF)->Az->Prop}{YP:Ai->Az->Prop}{d:DefRec}
  (hn:l.most=AA n) (hdf:d.params.defaults=[])
  (call:∀(w:Ai) (s₀ s₁:AJ) (mg mb:AR->Option AF) (fa:AI) (o:CA) (pm cd doc:AF) (a:AI) (vs:List AF) (ns:List Int),
   Ground q loose [] XP w s₀ mg mb s₁.heap->YP w s₁.heap ->
   s₁.heap.get? fa=AA o->o.data=.func (docDef d.name d.params d.body d.scope pm cd doc)->s₁.heap.CodeRec cd d.name->mg d.name=AA (.ref fa) ->
   s₁.heap.get? a=AA {cls:=.type "list",data:=.seq vs.toArray}->FP vs ns->ns.length<=n->s₁.gens=#[] ->
   codeAny (model l.prog w) callerA (.call (.ref fa) ⟨[.ref a],[]⟩) (λr s'=>r=.ok (.ret (.bool AB))/\OldK s₁.heap s'.heap/\s'.os=s₁.os/\DX s'.gens) s₁):
  G3 q loose XP YP l.row.toRowW d [] (λf vs=>Gc f vs):=by
 intro w s₀ s₁ mg mb G Y fa o pm cd doc dV kV ho hd hcd hD hmg hg args vals as hpre hlay hrd hwl hlo;obtain rfl:dV=.none:=Dflts.none hD hdf;obtain rfl:kV=.none:=Dflts.noKw hD;let⟨a,vs,ns,rfl,rfl,hobj,hints,hlen⟩:=zif hn hpre hwl;refine enter_call (Dj (call w s₀ s₁ mg mb fa o pm cd doc a vs ns G Y ho (fd_plain hd) hcd hmg hobj hints hlen hg) λr s' hq=>?_);let⟨rfl,h2,h3,h4⟩:=hq;exact⟨.inl ⟨.bool AB,.bool AB,[],rfl,λ_=>rfl,.bool AB,zhx l _,λ_=>⟨HU,λ_ hm=>(nomatch hm)⟩⟩,h2,h3,h4⟩
section
variable {prog:A5}{w:Ai}{A:Ao}{E:AF->AJ->Prop}{s:AJ}{K:AE}
end
end Att
namespace L2
open PySem PySem.Spec PyProof.Rows
theorem zeH:∀{vs:List AF} {ns:List Int},FP vs ns->Vals (ns.map V.int) vs
 |_,_,.nil=>.nil
 |_,_,.cons n t h=>.cons ⟨t,rfl⟩ (zeH h)
def Only(H:Hp):Prop:=∀b,H b=AD \/ ∃o xs,H b=AA (.frz o (.lst xs))
theorem zjy{P:A5}{w:Ai}{K:AE}{mg mb:AR->Option AF}{CX:CXT}{k:Nat}{fa a:AI}{fd:BA}{x:AR}{sp:Sp}{s₁:AJ}{vs:List AF}{ns:List Int}
  (KX:K.In s₁.heap) (hns:s₁.heap.Ns mainGlobals mg) (hb:s₁.heap.Ns builtinsNs mb) (hbb:∀x:AR,x ≠ "__name__"->mb x=bootBuiltins x) (hlim:s₁.heap.NoLimit) (hg:s₁.gens=#[])
  (ha:s₁.heap.get? a=AA {cls:=.type "list",data:=.seq vs.toArray}) (hi:FP vs ns) (hl:ns.length<=sizeLine) (hr:yao k callerA)
  (F:∀base:Az,K.In base->base.Ns mainGlobals mg->yaB P w K mg base CX k fa fd [x] sp) (hbind:∀(s:AJ) (u:AF),FN s fd ⟨[u],[]⟩ [(x,u)])
  (hsp:∀H:Hp,Only H->SqL K H a (ns.map V.int)->sp [.ref a] H (λv _=>v=.bl AB) λ_ _ _=>False)
  (hCX:∀H e s',CX [] H s₁ (λ_ _ _=>False) e s'->False):
  codeAny (model P w) callerA (.call (.ref fa) ⟨[.ref a],[]⟩) (λr s'=>r=.ok (.ret (.bool AB))/\OldK s₁.heap s'.heap/\s'.os=s₁.os/\DX s'.gens) s₁:=by
 have rv:=zeH hi;have lenV:=hi.length;have core:∀H:Hp,Only H->SqL K H a (ns.map V.int)->HOk P w H s₁.heap->(∀b,H b≠AD->b=a)->(H a≠AD->K.lookup a=AD) ->
   codeAny (model P w) callerA (.call (.ref fa) ⟨[.ref a],[]⟩) (λr s'=>r=.ok (.ret (.bool AB))/\OldK s₁.heap s'.heap/\s'.os=s₁.os/\DX s'.gens) s₁:=by
  intro H hO hS hok hA hK;have base_of:∀{b:AI} {o:CA},s₁.heap.get? b=AA o->H b=AD->(ycb s₁.heap H).get? b=AA o:=λe n=>zjA e n;have noA:∀{b:AI} {o:CA} {es:Array CF} {ep:Nat},s₁.heap.get? b=AA o->o.data=.dict es ep->H b=none:=λ{b o es ep} e d=>by
   cases q:H b with
   |none=>rfl
   |some u=>
    have e':b=a:=hA b (by rw[q];simp);subst e';rw[ha]at e;cases e;have d':Data.seq vs.toArray _=Data.dict es ep:=d
    cases d'
  have nsK:∀{b:AI} {m:AR->Option AF},s₁.heap.Ns b m->(ycb s₁.heap H).Ns b m:=λ{b m} ⟨o,es,ep,e,d,r⟩=>⟨o,es,ep,base_of e (noA e d),d,r⟩;have hKb:K.In (ycb s₁.heap H):=λb o e=>base_of (KX b o e) (by
   cases q:H b with
   |none=>rfl
   |some u=>
    have e':b=a:=hA b (by rw[q];simp);subst e';rw[hK (by rw[q];simp)]at e;cases e)
  have hM:Mod K mg (ycb s₁.heap H):=⟨hKb,nsK hns,⟨mb,nsK hb,hbb⟩,let ⟨mc,h1,h2⟩:=hlim;⟨mc,nsK h1,h2⟩⟩;have e0:ycy P w K mg (ycb s₁.heap H) callerA [] s₁ H:=⟨rfl,hM,λb o e=>zkJ e,Gr (zhk _ _),trivial,λb hb=>absurd (show b∈([]:List AI)from hb) (by simp),hok,.of_eq hg⟩;refine Dj ((F _ hKb (nsK hns)).run callerA [] s₁ H ⟨[.ref a],[]⟩ [.ref a] [.ref a] _ _ hr e0 (hbind s₁ (.ref a)) (.cons rfl .nil) (hsp H hO hS)) λr s' h=>?_
  cases r with
  |error e=>exact(hCX H e s' h).elim
  |ok fl=>
   cases fl with
   |next=>exact Be h
   |brk=>exact Be h
   |cont=>exact Be h
   |ret u=>
    let⟨v,H',os,bare,un,hok',r',q⟩:=h;have q':v=.bl true:=q;subst q';obtain rfl:u=Dp true:=r';refine⟨rfl,OldK.of_keep λb o e=>?_,os,bare⟩
    cases q:H b with
    |none=>exact un.keep b o e q (by intro z;exact absurd (show b∈([]:List AI)from z) (by simp)) (by simp)
    |some u=>
     rcases hO b with z|⟨ob,xs,z⟩
     .rw[q]at z;cases z
     .have z2:=un.frzs b ob _ z;let⟨e1,_⟩:=hok b _ z;let⟨e2,_⟩:=hok' b _ z2;rw[e]at e1;cases e1;exact e2
 cases hk:K.lookup a with
 |some o=>
  have e:=KX a o hk;rw[ha]at e
  cases e
  refine core (λ_=>AD) (λ_=>.inl rfl) (.inr ⟨_,vs.toArray,_,hk,rfl,rfl,rfl,by rw[AX,lenV];exact hl,by simpa using rv⟩) (λb u z=>by have z':(AD:Option HO)=AA u:=z;cases z') (λb z=>absurd rfl z) λz=>absurd rfl z
 |none=>
  refine core (λb=>if b=a then AA (.frz {cls:=.type "list",data:=.seq vs.toArray} (.lst (ns.map V.int)))else AD) (λb=>?_) (.inl (.inr ⟨{cls:=.type "list",data:=.seq vs.toArray},if_pos rfl⟩)) (λb u z=>?_) (λb z=>?_) λ_=>hk
  .by_cases hb:b=a
   .exact .inr ⟨_,_,if_pos hb⟩
   .exact .inl (if_neg hb)
  .by_cases hb:b=a
   .have z':=(if_pos hb).symm.trans z
    cases z'
    subst hb;exact⟨ha,by rw[BC];exact hl,vs,_,rv,ha⟩
   .have z':=(if_neg hb).symm.trans z
    cases z'
  .by_cases hb:b=a
   .exact hb
   .exact absurd (if_neg hb) z
theorem walk_of{l:Ec}{n k:Nat}{q:A5}{loose:List AR}{XP:(AR->Option AF)->Az->Prop}{YP:Ai->Az->Prop}{d:DefRec}{K:Params->AE}{CX:Ai->CXT}{sp:Ai->Sp}{x:AR}
  (hn:l.most=AA n) (hn2:n<=sizeLine) (hdf:d.params.defaults=[]) (hr:yao k callerA)
  (hY:∀(w:Ai) (h:Az),YP w h->(K w.params).In h)
  (F:∀(w:Ai) (mg:AR->Option AF) (fa:AI) (h:Az),(K w.params).In h->h.Ns mainGlobals mg->mg d.name=AA (.ref fa) ->
   ∃fd:BA,(∀(s:AJ) (u:AF),FN s fd ⟨[u],[]⟩ [(x,u)]) /\
    ∀base:Az,(K w.params).In base->base.Ns mainGlobals mg->yaB l.prog w (K w.params) mg base (CX w) k fa fd [x] (sp w))
  (hsp:∀(w:Ai) (H:Hp) (a:AI) (ns:List Int),ns.length<=n->Only H->SqL (K w.params) H a (ns.map V.int)->sp w [.ref a] H (λv _=>v=.bl AB) λ_ _ _=>False)
  (hCX:∀(w:Ai) (H:Hp) (s:AJ) (e:AF) (s':AJ),CX w [] H s (λ_ _ _=>False) e s'->False):
  G3 q loose XP YP l.row.toRowW d [] (λf vs=>Gc f vs):=by
 refine Att.attach_call hn hdf λw s₀ s₁ mg mb fa o pm cd doc a vs ns G Y ho hd hcd hmg hobj hints hlen hg=>?_;have KX:=hY w _ Y;let⟨fd,hb,hF⟩:=F w mg fa _ KX G.T.g hmg;exact zjy KX G.T.g G.T.b G.T.builtins G.T.nolimit hg hobj hints (BW hlen hn2) hr hF hb (λH hO hS=>hsp w H a ns hlen hO hS) λH e s'=>hCX w H s₁ e s'
def inClass(s:Bt)(j:Nat):Stmt:=match s with
 |.ClassDef _ _ _ body _ _ _ _ _ _ _=>body.getD j (.Pass ⟨0,0,0,0⟩)
 |_=>.Pass ⟨0,0,0,0⟩
def yaa(s:Bt):Arguments:=match s with
 |.FunctionDef _ a _ _ _ _ _ _ _ _=>a
 |_=>{posonlyargs:=[],args:=[],vararg:=AD,kwonlyargs:=[],kw_defaults:=[],kwarg:=AD,defaults:=[]}
def yS(s:Bt):List Stmt:=match s with
 |.FunctionDef _ _ b _ _ _ _ _ _ _=>b
 |_=>[]
def yu(s:Bt):Scope:=match s with
 |.FunctionDef _ _ _ _ _ _ sc _ _ _=>sc
 |_=>{kind:=.function,names:=[],isGenerator:=AC,isCoroutine:=AC}
structure Fun(K:AE)(x qual:AR)(st:Bt)(f:AI)(fd:BA):Prop where
 ex:∃(oc:AF) (od:Option AI) (kV doc pm:AF) (an:Option AI) (cdv ct:AF) (osl:Array (Option AF)),
  fd=B4 x qual (yaa st) (yS st) (yu st) .none kV doc pm an cdv ct/\K.lookup f=AA ⟨oc,od,.func fd,osl⟩/\CJ K cdv qual=AB
 kp:Ap K (.ref f)=AB
section
variable {P:A5}{w:Ai}{K:AE}{mg:AR->Option AF}{base:Az}
theorem Fun.binds{x qual:AR}{st:Bt}{f:AI}{fd:BA}{ps:List AR}(F:Fun K x qual st f fd)
  (h:∀(kV doc pm:AF) (an:Option AI) (cdv ct:AF) (us:List AF),us.length=ps.length->bindArgs (B4 x qual (yaa st) (yS st) (yu st) .none kV doc pm an cdv ct) ⟨us,[]⟩=pure (ps.zip us)):Binds K fd ps []:=by
 let⟨oc,od,kV,doc,pm,an,cdv,ct,osl,rfl,lk,hcd⟩:=F.ex;exact .all (h kV doc pm an cdv ct)
end
theorem zlv{A:Ao}{k:Nat}(hr:yao k A):A.units+1<cLine:=Nat.lt_of_le_of_lt (Nat.add_le_add_left (by decide:1<=64) _) hr.units
section
variable {X:Cx}
end
end L2
namespace WE
open PySem PySem.Spec PyProof.Rows
open AutoSeq1 (wpAny_loadPart')
section
variable {pg:A5}{wd:Ai}{A:Ao}{Er:AF->AJ->Prop}{s:AJ}
theorem zbY{it t:AI}{i:Nat}{xs:Array AF}{x:AF}{Q:AF->AJ->Prop}(hi:s.heap.IsTupleIter it t i)(ht:s.heap.IsTuple t xs)(hx:xs[i]?=AA x)
  (k:∀h',h'.IsTupleIter it t (i+1)->C9 it s.heap h'->Q x {s with heap:=h'}):A1 (model pg wd) A (BS (.ref it)) Q Er s:=by
 let⟨oi,gi,ci,di⟩:=id hi;let⟨ot,gt,_,nt,dt⟩:=ht;unfold BS;refine AH (Bg (name:=AG "__next__") hi.typeIs CK (C5 CK hi.typeIs Dm ?_ (D8 _)));show A1 _ _ (field (.ref it) 0 >>= _) _ _ _;refine AH (BU gi di (x:=.ref t) rfl ?_);show A1 _ _ (if (Ah t==CH)=AB then _ else _) _ _ _;rw[if_neg (show ¬((Ah t==CH)=AB)from λz=>Aw z)];show A1 _ _ (field (.ref it) 1 >>= _) _ _ _;refine AH (BU gi di (x:=.int i 0) rfl ?_);show A1 _ _ (seqItems? (.ref t) >>= _) _ _ _;refine AH (C6 gt dt ?_);erw[CQ,hx];refine AH (FF gi di (by simp) (AV ⟨x,rfl,AV (k _ ?_ (FU ..))⟩));refine⟨_,Ey _ gi (Obj.isFreed_of_fields (F9 di _)),(Obj.cls_mapFields ..).trans ci,?_⟩;rw[F9 di];simp[rawInt]
theorem zeq{it t:AI}{i:Nat}{xs:Array AF}{Q:AF->AJ->Prop}(hh:A.handled=AD)(hi:s.heap.IsTupleIter it t i)(ht:s.heap.IsTuple t xs)(hx:xs[i]?=AD)
  (k:∀h' e,Heap.ExtBut it s.heap h'->(∃o,h'.get? e=AA o/\o.cls=.type "StopIteration")->Er (.ref e) {s with heap:=h'}):A1 (model pg wd) A (BS (.ref it)) Q Er s:=by
 let⟨oi,gi,ci,di⟩:=id hi;let⟨ot,gt,_,nt,dt⟩:=ht;unfold BS;refine AH (Bg (name:=AG "__next__") hi.typeIs CK (C5 CK hi.typeIs Dm ?_ (D8 _)));show A1 _ _ (field (.ref it) 0 >>= _) _ _ _;refine AH (BU gi di (x:=.ref t) rfl ?_);show A1 _ _ (if (Ah t==CH)=AB then _ else _) _ _ _;rw[if_neg (show ¬((Ah t==CH)=AB)from λz=>Aw z)];show A1 _ _ (field (.ref it) 1 >>= _) _ _ _;refine AH (BU gi di (x:=.int i 0) rfl ?_);show A1 _ _ (seqItems? (.ref t) >>= _) _ _ _;refine AH (C6 gt dt ?_);erw[CQ,hx];refine AH (Ee (AH (FF gi di (by simp) ?_)));show A1 _ _ (newExc (.type "StopIteration") [] >>= _) _ _ _;refine AH ?_;erw[newExc,newTuple];refine AH (Bn ?_ (by size_fits));refine AH (m:=firstArgMember _ _) (wpAny_of_eq (a:=CH) (by first|rfl|(erw[firstArgMember];rfl)) ?_);refine Bn ?_ (by size_fits);erw[raiseNew];refine AH (wpAny_handled ?_);first|rw[show A.in1.handled=AD from hh]|rw[hh]
 refine AH (AV (wpAny_throw ?_));exact k _ _ (((FU ..).extBut.push _).push _) ⟨_,A0 _ rfl,rfl⟩
end
theorem draws_tuple{pg:A5}{wd:Ai}{A:Ao}(hh:A.handled=AD)(it t:AI)(hne:t≠it)(xs:Array AF):
  Draws pg wd A it [it,t] xs.size (λi v=>xs[i]?=AA v) (λi h=>h.IsTupleIter it t i/\h.IsTuple t xs) where
 live:=λ_ _ st=>let ⟨o,g,_⟩:=st.1;⟨o,g⟩
 frame:=λ_ _ _ st kp=>⟨let ⟨o,g,r⟩:=st.1;⟨o,kp it (by simp) o g,r⟩,let ⟨o,g,r⟩:=st.2;⟨o,kp t (by simp) o g,r⟩⟩
 item:=λi s Q E hi st hQ=>zbY st.1 st.2 (x:=xs[i]) (by simp[hi]) λh' hit' hs'=>hQ _ h' s.toks (by simp[hi]) ⟨hit',st.2.extBut hs'.extBut hne⟩ hs'
 done:=λs Q E st hE=>zeq hh st.1 st.2 (by simp) hE
theorem zfb(l:AI)(xs:Array AF)(n:Nat)(dc:Option AI)(sl:Array (Option AF)):
  Meets (Gu.«enumerate.__new__» ⟨[.type "enumerate",.ref l],[]⟩) (λ_ R s=>s.heap.get? l=AA {cls:=.type "tuple",dict:=dc,data:=.seq xs n,slots:=sl} /\
   R (.ok (.ret (.ref (s.heap.push {cls:=.type "tuple_iterator",data:=.fields #[.ref l,.int 0 0]}).objs.size)))
    {s with heap:=(s.heap.push {cls:=.type "tuple_iterator",data:=.fields #[.ref l,.int 0 0]}).push {cls:=.type "enumerate",data:=.fields #[.none,.bool AC,.ref s.heap.objs.size,rawInt 0,.none,.none]} }):=
 .of_wp λprog w A R s h=>by
  let⟨hp,g,d,tk,os⟩:=s;let⟨gl,h⟩:=h;have hsub:=sub_enumerate;have hT:Fp (GU ⟨hp,g,d,tk,os⟩) l xs:=⟨_,gl,rfl,n,rfl⟩
  wp_walk using wpAny_loadPart' gl
  refine wpAny_stack_any λst=>AV ?_;split
  .rename_i c _ _ _ _ _
   cases (c==Ed "enumerate")
   .wp_walk using wpAny_loadPart' gl,Br hT
    exact⟨_,rfl,h⟩
   .wp_walk using wpAny_loadPart' gl,Br hT
    exact⟨_,rfl,h⟩
  .wp_walk using wpAny_loadPart' gl,Br hT
   exact⟨_,rfl,h⟩
theorem call_enumT{pg:A5}{wd:Ai}{A:Ao}{Er:AF->AJ->Prop}{s:AJ}{l:AI}{xs:Array AF}{Q:AF->AJ->Prop}(hT:s.heap.IsTuple l xs)
  (k:∀h',IsEnum h' (s.heap.objs.size+1) s.heap.objs.size 0 .none->h'.IsTupleIter s.heap.objs.size l 0->h'.objs.size=s.heap.objs.size+2 ->
   (∀b o,s.heap.get? b=AA o->h'.get? b=AA o)->Q (.ref (s.heap.objs.size+1)) {s with heap:=h'}):A1 (model pg wd) A (call (.type "enumerate") [.ref l]) Q Er s:=by
 let⟨⟨c,dct,dt,sl⟩,gl,hc,n,hd⟩:=hT
 cases (show c=.type "tuple" from hc)
 cases (show dt=.seq xs n from hd)
 refine callType_new F.called_enumerate (by decide) (F.typeCall_enumerate_1 _) (F.newCall_enumerate_1 _) (λobj=>F.args_object_init_2 obj _) F.entry_enumerate_new (zfb l xs n dct sl) ⟨gl,?_⟩;have hz:(s.heap.push {cls:=.type "tuple_iterator",data:=.fields #[.ref l,.int 0 0]}).objs.size=s.heap.objs.size+1:=Bv ..;show _/\_;rw[hz];have he:IsEnum ((s.heap.push {cls:=.type "tuple_iterator",data:=.fields #[.ref l,.int 0 0]}).push {cls:=.type "enumerate",data:=.fields #[.none,.bool AC,.ref s.heap.objs.size,rawInt 0,.none,.none]}) (s.heap.objs.size+1) s.heap.objs.size 0 .none:=by
  have q:=A0 (s.heap.push {cls:=.type "tuple_iterator",data:=.fields #[.ref l,.int 0 0]}) (o:={cls:=.type "enumerate",data:=.fields #[.none,.bool AC,.ref s.heap.objs.size,rawInt 0,.none,.none]}) rfl;rw[hz]at q;exact q
 exact⟨⟨_,he,rfl⟩,k _ he ⟨_,AQ _ (A0 _ rfl),rfl,rfl⟩ (by rw[Bv,hz]) λb o y=>AQ _ (AQ _ y)⟩
end WE
namespace L2
open PySem PySem.Spec PyProof.Rows
section
variable {X:Cx}
def yc1(i j:Int):Prop:=0<j/\j<10000000000000000000000000000000000000000000000000000000000000000000000
theorem zjh:OpR X (binaryOp .FloorDiv) (rI yc1 λi j=>.int (i/j)):=opI λi j _ _ _ _ _ hc q=>by
 let⟨h1,h2⟩:=hc;refine floordiv_int (by lia) (by rw[Dv i (by lia)];exact q) (.inl (PyProof.noPylong_of_log2 ?_));have h0:j.natAbs≠0:=by lia
 refine A4 ((Nat.log2_lt h0).mpr (?_:j.natAbs<2^250)) (by decide);have e:(10000000000000000000000000000000000000000000000000000000000000000000000:Nat)<2^250:=by decide
 lia
end
section
variable {X:Cx}{pins:List (AI×CA)}{σ:St}{H:Hp}{s:AJ}{h':Az}
theorem Inv.turnLaid{t':Nat}{ch:List AI}{T:AI}{o:HO}(I:Inv X pins σ H s)(hf:∀b∈ch,ybf X pins H b)(k:∀b u,b∉ch->s.heap.get? b=AA u->h'.get? b=AA u)
  (hp:s.heap.objs.size<=T) (new:yO X.prog X.w (upd H T o) h' T o):Inv X pins σ (upd H T o) {s with heap:=h',toks:=t'}:=by
 have hn:H T=none:=I.hok.fresh hp;have nch:∀b u,H b=AA u->b∉ch:=λb u e z=>by
  have q:=(hf b z).1;rw[e]at q
  cases q
 refine I.step (g':=s.gens) (d':=s.drawn) (ch:=ch) (λb hb=>?_) (λb u _ _ hc e _=>k b u hc e) (λb u _ _ hc e _=>⟨u.slots,k b u hc e⟩) (λb u _ e n=>?_) (λb u hc e=>⟨u,k b u hc e⟩) (λb xs e=>?_) (λb u v e=>?_) (λb ps e=>⟨#[],?_⟩) (λm hm=>?_) (λb u e=>?_) I.bare
 .let⟨f0,f1,f2,f3,f4,f5⟩:=hf b hb;exact⟨f3,f1,f4,f5⟩
 .rw[zh (Aj (A4 (AW e) hp))];exact n
 .rw[zh (zm e hn)];exact e
 .rw[zh (zm e hn)];exact e
 .rw[zh (zm e hn),e];simp
 .let⟨ob,es,ep,ho,r⟩:=hm;exact⟨ob,es,ep,k _ ob (λz=>(hf _ z).2.1 rfl) ho,r⟩
 .by_cases hb:b=T
  .subst hb;rw[zq]at e
   cases e
   exact new
  .rw[zh hb]at e;refine(I.hok b u e).stay (λc v hc q=>k c v ?_ q) (λc q=>by rw[zh (zm q hn)];exact q) λc xs q=>by rw[zh (zm q hn)];exact q
   rcases hc with z|z
   .rw[z];exact nch b u e
   .exact nch c _ z
theorem Inv.turnedL{t':Nat}{ch:List AI}(I:Inv X pins σ H s)(hf:∀b∈ch,ybf X pins H b)(k:∀b u,b∉ch->s.heap.get? b=AA u->h'.get? b=AA u):Inv X pins σ H {s with heap:=h',toks:=t'}:=by
 have nch:∀b u,H b=AA u->b∉ch:=λb u e z=>by
  have q:=(hf b z).1;rw[e]at q
  cases q
 refine I.step (g':=s.gens) (d':=s.drawn) (ch:=ch) (λb hb=>?_) (λb u _ _ hc e _=>k b u hc e) (λb u _ _ hc e _=>⟨u.slots,k b u hc e⟩) (λ_ _ _ _ n=>n) (λb u hc e=>⟨u,k b u hc e⟩) (λ_ _ e=>e) (λ_ _ _ e=>e) (λb ps e=>⟨#[],by rw[e];simp⟩) (λm hm=>?_) (λb u e=>?_) I.bare
 .let⟨f0,f1,f2,f3,f4,f5⟩:=hf b hb;exact⟨f3,f1,f4,f5⟩
 .let⟨ob,es,ep,ho,r⟩:=hm;exact⟨ob,es,ep,k _ ob (λz=>(hf _ z).2.1 rfl) ho,r⟩
 .refine(I.hok b u e).stay (λc v hc q=>k c v ?_ q) (λ_ q=>q) λ_ _ q=>q;rcases hc with z|z
  .rw[z];exact nch b u e
  .exact nch c _ z
end
def Ite(K:AE)(a:AI):It:=
 ⟨λi H=>∃xs x,SqT K H a xs/\xs[i]?=AA x,λi H x H'=>∃T,H T=AD/\x=.ref T/\∀xs y,SqT K H a xs->xs[i]?=AA y->H'=upd H T (.tup [.int i,y]),λi H=>∃xs,SqT K H a xs/\xs.length=i⟩
theorem zdp{h:Az}{a b:AI}{o u:CA}(x:h.get? a=AA o)(y:h.get? b=AA u)(z:o.cls≠u.cls):a≠b:=λe=>by
 subst e;rw[x]at y
 cases y
 exact z rfl
theorem zgp{P:A5}{w:Ai}{K:AE}{es:List AU}{kk:Nat}{pos:CP}(a e it:AI):
  Turn P w K (.Tuple es kk pos) (Ite K a) [e,it] e (λi h=>(∃old,IsEnum h e it i old)/\h.IsTupleIter it a i) where
 mem:=by simp
 obj:=λi h st b hb=>by
  let⟨⟨old,he⟩,oi,gi,ci,di⟩:=st;rcases A3.mp hb with z|z
  .subst z;exact⟨_,he,λv y=>nomatch y⟩
  .have z:b=it:=by simpa using z
   subst z;exact⟨oi,gi,λv y=>by rw[di]at y;cases y⟩
 keep:=λi h h' st k=>by
  let⟨⟨old,he⟩,oi,gi,r⟩:=st;exact⟨⟨old,k e (by simp) _ he⟩,oi,k it (by simp) _ gi,r⟩
 item:=by
  intro X hP hw hK hc i pins s σ H E I hf st hg;subst hP hw hK;let⟨xs,x,hq,hx⟩:=hg;let⟨its,rv,p,hz⟩:=I.tuple hq;let⟨⟨old,he⟩,hi⟩:=st;let⟨oi,gi,ci,di⟩:=id hi;let⟨oa,ga,ca,na,da⟩:=id p;have nai:a≠it:=zdp ga gi (by rw[ca,ci];exact λz=>absurd (Cm z) (by decide));have nei:e≠it:=zdp he gi (by rw[ci];exact λz=>absurd (Cm z) (by decide));have nea:e≠a:=zdp he ga (by rw[ca];exact λz=>absurd (Cm z) (by decide));have hl:=rv.length;have hil:i<its.toArray.size:=by
   have:=(BJ.mp hx).1;simpa using (by lia:i<its.length)
  have W:=Fq (prog:=X.prog) (w:=X.w) (A:=X.A) (WE.draws_tuple (pg:=X.prog) (wd:=X.w) (A:=X.A.in1) (I.ok.hd hc) it a nai its.toArray) e nei (by simp[nei,nea]) (by simp);refine W.item i s _ E hil ⟨⟨old,he⟩,hi,p⟩ λT vals h1 tk hP hsz hT mid kp=>⟨.ref T,rfl,?_⟩;refine W.go es kk pos i T _ _ E mid λh2 st2 kp2=>?_;let⟨t,y,hy,rfl⟩:=hP;let⟨u,hu,ru⟩:=rv.get hx;have ey:y=u:=AZ (hy.symm.trans (by simpa using hu));subst ey;have hch:∀b o,b∉[e,it]->s.heap.get? b=AA o->h2.get? b=AA o:=λb o hb q=>kp2 b o hb (kp b o hb q);have hTw:=W.apart i T h1 mid;have new:yO X.prog X.w (upd H T (.tup [.int i,x])) h2 T (.tup [.int i,x]):=by
   let⟨o,g,r⟩:=hT;exact⟨by show 2<=sizeLine;decide,[.int i t,y],.cons ⟨t,rfl⟩ (.cons ru .nil),o,kp2 T o hTw g,r⟩
  have I2:=I.turnLaid (t':=tk) hf hch hsz new;refine⟨.ref T,_,I2,rfl,⟨T,I.hok.fresh hsz,rfl,λys z hy' hz'=>?_⟩,⟨st2.1,st2.2.1⟩,λb hb=>?_⟩
  .rw[I.tuple_inj hy' hq]at hz';rw[hx]at hz'
   cases hz'
   rfl
  .rw[zh (λz:b=T=>hTw (z ▸ hb))];exact(hf b hb).1
 done:=by
  intro X hP hw hK hc i pins s σ H E I hf st hg;subst hP hw hK;let⟨xs,hq,hx⟩:=hg;let⟨its,rv,p,hz⟩:=I.tuple hq;let⟨⟨old,he⟩,hi⟩:=st;let⟨oi,gi,ci,di⟩:=id hi;let⟨oa,ga,ca,na,da⟩:=id p;have nai:a≠it:=zdp ga gi (by rw[ca,ci];exact λz=>absurd (Cm z) (by decide));have nei:e≠it:=zdp he gi (by rw[ci];exact λz=>absurd (Cm z) (by decide));have nea:e≠a:=zdp he ga (by rw[ca];exact λz=>absurd (Cm z) (by decide));have hl:=rv.length;have W:=Fq (prog:=X.prog) (w:=X.w) (A:=X.A) (WE.draws_tuple (pg:=X.prog) (wd:=X.w) (A:=X.A.in1) (I.ok.hd hc) it a nai its.toArray) e nei (by simp[nei,nea]) (by simp);have en:its.toArray.size=i:=by simp;lia
  refine W.done s _ E (by rw[en];exact⟨⟨old,he⟩,hi,p⟩) λh2 tk kp=>⟨rfl,I.turnedL (t':=tk) hf kp⟩
 self:=λ_ _ _ _ _ st q=>by
  let⟨⟨old,he⟩,_⟩:=st;exact Fr he q
def yfO(K:AE)(ta:TA):TI:=λσ H R=>ta σ H λvs H1=>∃a,vs=[.ref a]/\(∃xs,SqT K H1 a xs)/\R (Ite K a) H1
theorem ziI{X:Cx}{a:AU}{es:List AU}{kk:Nat}{tp:CP}{ta:TA}{p pos:CP}(hg:Gl X "enumerate")(hm:X.mg "enumerate"=AD)(ha:PA X [a] ta)(hs:starEach [a] X.env=[(AC,eval a X.env)]:=by rfl):
  PI X (.Tuple es kk tp) (.Call (.Name "enumerate" p) [a] [] pos) (yfO X.K ta):=by
 intro pins s σ H R I h;refine BZ (zdd I hg hm boot_enumerate ?_);refine CC (thn (ha pos pins s σ H _ I h) λus s1 kq=>?_) hs rfl;let⟨vs,H1,I1,r1,q1⟩:=kq;let⟨l,rfl,⟨xs,hq⟩,q⟩:=q1;let⟨u,rfl,ru⟩:=Vals.one r1
 cases (show u=Ah l from ru)
 let⟨its,rv,pt,hz⟩:=I1.tuple hq;refine WE.call_enumT (show s1.heap.IsTuple l its.toArray from pt) λh1 he hi hsz kp=>?_;refine Fr he ?_;refine⟨_,[s1.heap.objs.size+1,s1.heap.objs.size],_,_,H1,rfl,I1.kept (t':=s1.toks) kp,zgp l _ s1.heap.objs.size,⟨⟨_,he⟩,hi⟩,λb hb=>?_,q⟩;have hb2:s1.heap.objs.size<=b:=by
  rcases A3.mp hb with z|z
  .subst z;exact Ck _
  .have z:b=s1.heap.objs.size:=by simpa using z
   subst z;exact AT _
 exact I1.fpOk hb2 (I1.hok.fresh hb2)
abbrev No:AF->AJ->Prop:=λ_ _=>False
abbrev yde(ifs:List AU)(env:Env):Gj Bool:=forIn ifs AB λc r=>if r=AB then do let ok <-isTrue c env (eval c env);pure (GY ok)else pure (GY r)
section
variable {pg:A5}{wd:Ai}{A:Ao}{R:G8->AJ->Prop}{s:AJ}
theorem zgw{elt tg iter:AU}{ifs:List AU}{sc:Bl}{pos:CP}{it acc:AF}{env:Env}(I:Nat->AJ->Prop)
  (turn:∀n s,I n s->A1 (model pg wd) A (pyNext it) (λr s1=>match r with
   |none=>R (.ok .next) s1
   |some v=>A1 (model pg wd) A (letOwnedTupleGo tg it v) (λ_ s2=>A1 (model pg wd) A (assign tg env v) (λ_ s3=>A1 (model pg wd) A (yde ifs env) (λok s4=>
     if ok=AB then A1 (model pg wd) A (eval elt env) (λx s5=>A1 (model pg wd) A (call (.builtin "list.append") [acc,x]) (λ_ s6=>∃m,m<n/\I m s6) No s5) No s4
     else ∃m,m<n/\I m s4) No s3) No s2) No s1) No s)
  (n:Nat) (h:I n s):codeAny (model pg wd) A (.compLoop (.ListComp elt [⟨tg,iter,ifs,0⟩] sc pos) 0 it acc env) R s:=by
 refine codeAny_loop rfl I (λn s hI=>?_) n h;show A1 _ A ((compTurn (.ListComp elt [⟨tg,iter,ifs,0⟩] sc pos) 0 it acc env).onRaise (λx=>do noteFrame x env;theTreesLotGoes x)) _ _ s;refine wpAny_noted ?_;rw[compTurn_list];refine AH (ET (AH (CV (turn n s hI) (λr s1 h1=>?_) λ_ _ f=>f.elim)))
 cases r with
 |none=>exact AV h1
 |some v=>
  refine AH (CV h1 (λ_ s2 h2=>AH (CV h2 (λ_ s3 h3=>AH (CV h3 (λok s4 h4=>?_) λ_ _ f=>f.elim)) λ_ _ f=>f.elim)) λ_ _ f=>f.elim)
  cases ok with
  |false=>exact AV ⟨rfl,h4⟩
  |true=>exact AH (AH (CV h4 (λx s5 h5=>AH (CV h5 (λ_ s6 h6=>AV (AV ⟨rfl,h6⟩)) λ_ _ f=>f.elim)) λ_ _ f=>f.elim))
end
def yaf(env:Env)(r:List (AR×AI))(x:AR×DE):List (AR×AI):=if x.2=.free then(x.1,(env.cells.lookup x.1).getD 0)::r else r
def yc2(sc:Bl)(env:Env):List (AR×AI):=sc.names.foldl (yaf env) []
theorem zgf{α β:Type}{l:List α}{f:α->β->Gj (ForInStep β)}{g:β->α->β}(h:∀x∈l,∀c,f x c=pure (.yield (g c x))):∀c:β,forIn l c f=pure (l.foldl g c):=by
 induction l with
 |nil=>exact λ_=>rfl
 |cons x l ih=>
  intro c;rw[Eu,h x BE,pure_bind,D9];exact ih (λy hy=>h y (AY _ hy)) (g c x)
theorem zcv{sc:Bl}{env:Env}(hf:∀y∈sc.names,y.2=.free->∃c,env.cells.lookup y.1=AA c):closureFor sc env=pure (yc2 sc env):=by
 erw[closureFor];rw[zgf (g:=yaf env) (λx hx c=>?_)]
 .rfl
 .let⟨n,k⟩:=x
  by_cases hk:k=.free
  .subst hk;let⟨a,ha⟩:=hf _ hx rfl;have ha':env.cells.lookup n=AA a:=ha;simp[yaf,cellOf,ha']
  .have hb:(k==Cf)=false:=by simpa using hk
   simp[yaf,hk,hb]
theorem zdj{env:Env}:∀(l:List (AR×DE)) (r:List (AR×AI)),(∀y∈l,y.2=.free->∃c,env.cells.lookup y.1=AA c)->(∀x c,r.lookup x=AA c->env.cells.lookup x=AA c) ->
  ∀x c,(l.foldl (yaf env) r).lookup x=AA c->env.cells.lookup x=AA c
 |[],r,_,h=>h
 |y::l,r,hf,h=>by
  refine zdj l (yaf env r y) (λz hz=>hf z (AY _ hz)) λx c e=>?_;unfold yaf at e
  by_cases hk:y.2=.free
  .let⟨a,ha⟩:=hf y BE hk;rw[if_pos hk,Bi]at e
   cases hx:x==y.1 with
   |true=>
    rw[hx,ha]at e;rw[eq_of_beq hx,ha];exact e
   |false=>
    rw[hx]at e;exact h x c e
  .rw[if_neg hk]at e;exact h x c e
theorem zcu{env:Env}{x:AR}:∀(l:List (AR×DE)) (r:List (AR×AI)),(∃c,r.lookup x=AA c)->∃c,(l.foldl (yaf env) r).lookup x=AA c
 |[],r,h=>h
 |y::l,r,h=>by
  refine zcu l (yaf env r y) ?_;unfold yaf
  by_cases hk:y.2=.free
  .rw[if_pos hk,Bi]
   cases hx:x==y.1 with
   |true=>exact⟨_,rfl⟩
   |false=>exact h
  .rw[if_neg hk];exact h
theorem zbZ{env:Env}:∀(l:List (AR×DE)) (r:List (AR×AI)),∀y∈l,y.2=.free->∃c,(l.foldl (yaf env) r).lookup y.1=AA c
 |[],_,y,hy,_=>nomatch hy
 |z::l,r,y,hy,hk=>by
  rcases A3.mp hy with e|e
  .subst e;refine zcu l (yaf env r y) ?_;unfold yaf;rw[if_pos hk,Bi,beq_self_eq_true];exact⟨_,rfl⟩
  .exact zbZ l (yaf env r z) y e hk
theorem mem_of_lookup{β:Type}{x:AR}{k:β}:∀{l:List (AR×β)},l.lookup x=AA k->(x,k)∈l
 |[],h=>nomatch h
 |y::l,h=>by
  rw[Bi]at h
  cases hx:x==y.1 with
  |true=>
   rw[hx]at h
   cases h
   rw[eq_of_beq hx];exact BE
  |false=>
   rw[hx]at h;exact AY _ (mem_of_lookup h)
def ycO(env:Env)(x:AR)(k:DE):NameKind:=if (k==.free&&env.scope.kind==.function&&env.kindOf x==AA .cell)=AB then .cell else k
theorem zc7{sc:Bl}{env:Env}(x:AR):(relabel sc env).names.lookup x=(sc.names.lookup x).map (ycO env x):=by
 unfold relabel;show (sc.names.map λ(n,k)=>if (k==Cf&&env.scope.kind==.function&&env.kindOf n==AA .cell)then(n,FY)else(n,k)).lookup x=_
 induction sc.names with
 |nil=>rfl
 |cons y l ih=>
  let⟨n,k⟩:=y;rw[AL];show Bu x ((if (k==Cf&&env.scope.kind==.function&&env.kindOf n==AA .cell)=AB then(n,FY)else(n,k))::_)=_
  cases hx:x==n with
  |true=>
   have e:=eq_of_beq hx;subst e
   by_cases hc:(k==Cf&&env.scope.kind==.function&&env.kindOf x==AA .cell)=AB
   .rw[if_pos hc,Bi,beq_self_eq_true];simp[ycO,hc]
   .rw[if_neg hc,Bi,beq_self_eq_true];simp[ycO,hc]
  |false=>
   by_cases hc:(k==Cf&&env.scope.kind==.function&&env.kindOf n==AA .cell)=AB
   .rw[if_pos hc];erw[Bi,hx];exact ih
   .rw[if_neg hc];erw[Bi,hx];exact ih
structure CI where
 C:AI
 s:AJ
 H:Hp
 fp:List AI
def cxC(X:Cx)(sc:Bl)(NC:List AR)(j:CI):Cx where
 prog:=X.prog
 w:=X.w
 K:=X.K
 mg:=X.mg
 base:=X.base
 A:=X.A
 N:=NC
 s₀:=j.s
 H₀:=j.H
 env:=compEnvC sc (yc2 sc X.env) j.C X.env
 outer:=X.stack
 stack:=X.stack
 ex:=j.fp
 fn:=λ_=>AC
 calm:=X.calm
 pn:=[]
 xe:=No
def inn(slots:List (Option Nat))(σ:St):St:=slots.map λo=>o.bind λj=>(σ[j]?).join
structure yai(X:Cx)(sc:Bl)(NC:List AR)(slots:List (Option Nat)):Prop where
 kind:sc.kind=.function
 names:∀y∈sc.names,y.2=.local->sc.names.lookup y.1=AA .local
 nocell:∀y∈sc.names,y.2 ≠ .cell
 free:∀y∈sc.names,y.2=.free->X.env.scope.names.lookup y.1=AA .cell
 slot:∀(i:Nat) (x:AR) (j:Nat),NC[i]?=AA x->slots[i]?=AA (AA j)->X.N[j]?=AA x/\sc.names.lookup x=AA .free
 len:slots.length=NC.length
theorem yc7{X:Cx}{sc:Bl}{NC:List AR}{slots:List (Option Nat)}(N:List AR)(so:Bl)(hN:X.N=N)(hs:X.env.scope=so)(kind:sc.kind=.function)
  (names:∀y∈sc.names,y.2=.local->sc.names.lookup y.1=AA .local) (nocell:∀y∈sc.names,y.2 ≠ .cell) (free:∀y∈sc.names,y.2=.free->so.names.lookup y.1=AA .cell)
  (slot:∀p∈NC.zip slots,(p.2.all λj=>decide (N[j]?=AA p.1/\sc.names.lookup p.1=AA .free))=AB) (len:slots.length=NC.length):yai X sc NC slots:=by
 subst hN hs;refine⟨kind,names,nocell,free,λi x j e1 e2=>?_,len⟩;have hm:(x,AA j)∈NC.zip slots:=A2 (i:=i) (by rw[List.getElem?_zip_eq_some];exact⟨e1,e2⟩);have:=slot _ hm;simpa using this
section
variable {X:Cx}{sc:Bl}{NC:List AR}{slots:List (Option Nat)}{pins:List (AI×CA)}{σ:St}{H:Hp}{s:AJ}
theorem yai.cells(O:yai X sc NC slots)(ok:X.Ok):∀y∈sc.names,y.2=.free->∃c,X.env.cells.lookup y.1=AA c:=λy hy hk=>ok.has y.1 (.inl (O.free y hy hk))
theorem yai.sub(O:yai X sc NC slots)(ok:X.Ok):∀x c,(yc2 sc X.env).lookup x=AA c->X.env.cells.lookup x=AA c:=zdj sc.names [] (O.cells ok) λ_ _ e=>nomatch e
theorem yai.rel(O:yai X sc NC slots)(ok:X.Ok){x:AR}(h:sc.names.lookup x=AA .free):(relabel sc X.env).names.lookup x=AA .cell:=by
 rw[zc7,h];have e:X.env.kindOf x=AA .cell:=O.free _ (mem_of_lookup h) rfl;simp[ycO,ok.kind,e]
theorem zgi(I:Inv X pins σ H s)(O:yai X sc NC slots){fp:List AI}(hf:∀b∈fp,ybf X pins H b)(hob:∀b∈fp,∃o,s.heap.get? b=AA o){h1:Az}{t':Nat}{m:AR->Option AF}(hns:h1.Ns s.heap.objs.size m)
  (hk:∀b o,s.heap.get? b=AA o->h1.get? b=AA o):Inv (cxC X sc NC ⟨s.heap.objs.size,s,H,fp⟩) [] (inn slots σ) H {s with heap:=h1,toks:=t'}:=by
 have sub:=O.sub I.ok;have fss:∀b,b≠X.env.locals->b∉X.fs->b∉frs X.stack:=λb h1 h2 hb=>(A3.mp (I.stkSub b hb)).elim h1 h2;have ltC:∀x c,(yc2 sc X.env).lookup x=AA c->c<s.heap.objs.size:=λx c e=>by
  let⟨v,q⟩:=I.cell x c (sub x c e);exact q.lt
 refine⟨⟨I.ok.mod,O.kind,I.ok.glob,I.ok.blt,AT _,λx y c e1 e2=>I.ok.inj x y c (sub x c e1) (sub y c e2),λx hx=>?_,λ_ _ z=>(nomatch z),I.ok.hd,I.ok.frames,.inl rfl,λb hb=>⟨?_,λx c e=>(hf b hb).2.2.2.2.1 x c (sub x c e)⟩,I.bs,BW I.ok.bsz I.sz,λb o e hb=>?_,λb hb=>fss b (hf b hb).2.1 (hf b hb).2.2.1,I.stack,I.stkFree⟩,
  rfl,I.bare,Un.kept hk,⟨m,hns,λi x v e1 e2 e3=>?_⟩,λx c e=>?_,I.hok.fresh (AT _),λx c e=>I.freeC x c (sub x c e),λp hp=>(nomatch hp),I.hok.kept hk,?_⟩
 .have hx':(relabel sc X.env).names.lookup x=AA .cell \/ (relabel sc X.env).names.lookup x=AA .free:=hx;rw[zc7]at hx'
  cases q:sc.names.lookup x with
  |none=>
   rw[q]at hx';rcases hx' with z|z<;>cases z
  |some k=>
   have hm:=mem_of_lookup q;have hkf:k=.free:=by
    rw[q]at hx';have nc:=O.nocell _ hm
    by_cases hk:k=.free
    .exact hk
    .exfalso;have hb:(k==Cf)=false:=by simpa using hk
     rcases hx' with z|z
     .simp[ycO,hb]at z;exact nc z
     .simp[ycO,hb]at z;exact hk z
   subst hkf;exact zbZ sc.names [] _ hm rfl
 .let⟨o,e⟩:=hob b hb;exact Aj (AW e)
 .rcases (hf b hb).2.2.2.1 with z|z
  .exact I.ok.noex b o e z
  .exact absurd (A4 (AW e) (BW I.ok.bsz z)) (Cv _)
 .obtain⟨j,e4,e5⟩:∃j,slots[i]?=AA (AA j)/\σ[j]?=AA (AA v):=by
   have e2':(slots.map λo=>o.bind λj=>(σ[j]?).join)[i]?=AA (AA v):=e2;rw[Bw]at e2'
   cases q:slots[i]? with
   |none=>
    rw[q]at e2'
    cases e2'
   |some o=>
    rw[q]at e2'
    cases o with
    |none=>cases e2'
    |some j=>
     refine⟨j,rfl,?_⟩;have e6:(σ[j]?).join=AA v:=AZ e2'
     cases q2:σ[j]? with
     |none=>
      rw[q2]at e6
      cases e6
     |some w=>
      rw[q2]at e6;have e7:w=AA v:=e6;rw[e7]
  let⟨e6,e7⟩:=O.slot i x j e1 e4;have kc:X.env.scope.names.lookup x=AA .cell:=O.free _ (mem_of_lookup e7) rfl;let⟨m0,hn0,hl⟩:=I.loc;let⟨u,r,lk⟩:=hl j x v e6 e5 (.inr (.inl kc));refine⟨u,r,.inr ⟨.inl (O.rel I.ok e7),?_⟩⟩;rcases lk with⟨z,_⟩|⟨_,c,hc,o,ho,hd⟩
  .rw[show X.env.kindOf x=AA .cell from kc]at z
   cases z
  .let⟨c',hc'⟩:=zbZ (env:=X.env) sc.names [] _ (mem_of_lookup e7) rfl;have e8:c'=c:=AZ ((sub x c' hc').symm.trans hc);subst e8;exact⟨c',hc',o,hk _ _ ho,hd⟩
 .let⟨v,o,ho,hd⟩:=I.cell x c (sub x c e);exact⟨v,o,hk _ _ ho,hd⟩
 .show (slots.map λo=>o.bind λj=>(σ[j]?).join).length=NC.length;rw[BC,O.len]
theorem zf2(I:Inv X pins σ H s){fp:List AI}(hf:∀b∈fp,ybf X pins H b){C:AI}(hC:s.heap.objs.size<=C){pl:List (AI×CA)}{σ':St}{H':Hp}{s':AJ}(J:Inv (cxC X sc NC ⟨C,s,H,fp⟩) pl σ' H' s')
  {h2:Az} (hb:C9 C s'.heap h2):Inv X pins σ H' {s' with heap:=h2}:=by
 have nC:∀b o,s.heap.get? b=AA o->b≠C:=λb o e=>Aj (A4 (AW e) hC);have B:Un (frs X.stack) fp H H' s.heap s'.heap:=J.base;have fC:H' C=none:=J.free;refine I.call' (ch:=fp) J.os ⟨λb o e n h3 h4=>(hb.2 b (nC b o e)).trans (B.keep b o e n h3 h4),λb o e n h3 h4=>?_,B.free,λb o e h4=>?_,B.tups,B.frzs,B.tbls⟩ (λb u e=>?_) J.bare λb h3=>⟨(hf b h3).2.2.2.1,(hf b h3).2.1,(hf b h3).2.2.2.2.1,(hf b h3).2.2.2.2.2⟩
 .let⟨sl,q⟩:=B.slot b o e n h3 h4;exact⟨sl,(hb.2 b (nC b o e)).trans q⟩
 .let⟨o',q⟩:=B.there b o e h4;exact⟨o',(hb.2 b (nC b o e)).trans q⟩
 .refine(J.hok b u e).stay (λc v hc q=>(hb.2 c λz=>?_).trans q) (λ_ q=>q) λ_ _ q=>q;subst z;rcases hc with z|z
  .rw[z,e]at fC
   cases fC
  .rw[z]at fC
   cases fC
end
def PTs(X:Cx)(ifs:List AU)(t:TT):Prop:=
 ∀(pins:List (AI×CA)) (s:AJ) (σ:St) (H:Hp) (Q:Bool->Hp->Prop),Inv X pins σ H s->t σ H Q->A1 (model X.prog X.w) X.A (yde ifs X.env) (TP X pins σ Q) X.xe s
def yfg:TT:=λ_ H Q=>Q AB H
theorem zlq{X:Cx}:PTs X [] yfg:=λ_ _ _ H _ I h=>wpAny_tests_nil ⟨H,I,h⟩
theorem zlW{X:Cx}{c:AU}{t:TT}(h:PT X c t):PTs X [c] t:=λpins s σ H Q I q=>wpAny_tests_one (h pins s σ H Q I q)
def ycJ(J:It)(D:AI)(g:TG)(ti:TT)(te:TE)(W:Nat->Nat->St->List V->Hp->Prop)(Q:Hp->Prop):Prop:=
 ∀i m σc ys H2,W i m σc ys H2->H2 D=AA (.lst ys)/\((J.stop i H2/\Q H2) \/ (J.go i H2/\ys.length<sizeLine/\∃N:St->List V->Hp->Prop,(∀σ' ys' H',N σ' ys' H'->∃m',m' < m/\W (i+1) m' σ' ys' H') /\
  ∀x H3,J.yld i H2 x H3->g x σc H3 λσ4 H4=>ti σ4 H4 λb H5=>if b=AB then te σ4 H5 λy H6=>H6 D=AA (.lst ys)/\N σ4 (ys++[y]) (upd H6 D (.lst (ys++[y])))else N σ4 ys H5))
def ydk(slots:List (Option Nat))(wi:TI)(g:TG)(ti:TT)(te:TE):TE:=λσ H Q=>wi σ H λJ H1=>∀D,H1 D=AD->∃W:Nat->Nat->St->List V->Hp->Prop,(∃m,W 0 m (inn slots σ) [] (upd H1 D (.lst [])))/\ycJ J D g ti te W (Q (.ref D))
section
variable {X:Cx}{sc:Bl}{NC:List AR}{slots:List (Option Nat)}{elt tg iter:AU}{ifs:List AU}{pos:CP}{g:TG}{ti:TT}{te:TE}
theorem zjw(hc:X.calm=AB)(hg:∀j,PG (cxC X sc NC j) tg g)(ht:∀j,PTs (cxC X sc NC j) ifs ti)(he:∀j,PE (cxC X sc NC j) elt te){cj:CI}{it D:AI}{tn:Nat->Az->Prop}{J:It}
  {W:Nat->Nat->St->List V->Hp->Prop} {Q:Hp->Prop} {R:G8->AJ->Prop} {s:AJ} {σc:St} {ys:List V} {H:Hp} (T:Turn X.prog X.w X.K tg J cj.fp it tn)
  (I:Inv (cxC X sc NC cj) [] σc H s) (hf:∀b∈cj.fp,ybf (cxC X sc NC cj) [] H b) (st:tn 0 s.heap) {m:Nat} (w0:W 0 m σc ys H) (step:ycJ J D g ti te W Q)
  (fin:∀σ' H' s',Inv (cxC X sc NC cj) [] σ' H' s'->Q H'->R (.ok .next) s'):
  codeAny (model X.prog X.w) X.A (.compLoop (.ListComp elt [⟨tg,iter,ifs,0⟩] sc pos) 0 (.ref it) (.ref D) (cxC X sc NC cj).env) R s:=by
 have stat:∀{H':Hp},(∀b∈cj.fp,H' b=AD)->∀b∈cj.fp,ybf (cxC X sc NC cj) [] H' b:=λhn b hb=>⟨hn b hb,(hf b hb).2⟩;refine zgw (λn s'=>∃i σ' ys' H',Inv (cxC X sc NC cj) [] σ' H' s'/\tn i s'.heap/\(∀b∈cj.fp,H' b=AD)/\W i n σ' ys' H') ?_ m ⟨0,σc,ys,H,I,st,λb hb=>(hf b hb).1,w0⟩
 rintro n s3 ⟨i,σ3,ys3,H3,I3,st3,fr3,w3⟩
 let⟨hD,q⟩:=step i n σ3 ys3 H3 w3;rcases q with⟨stop,qn⟩|⟨go,hz,N,hN,turn⟩
 .refine thn (T.done (cxC X sc NC cj) rfl rfl rfl hc i [] s3 σ3 H3 No I3 (stat fr3) st3 stop) λr s4 kq=>?_;let⟨hr,I4⟩:=kq;subst hr;exact fin σ3 H3 s4 I4 qn
 .refine thn (T.item (cxC X sc NC cj) rfl rfl rfl hc i [] s3 σ3 H3 No I3 (stat fr3) st3 go) λr s4 kq=>?_;let⟨u,hr,h4⟩:=kq;subst hr;refine thn h4 λ_ s5 kq=>?_;let⟨x,H5,I5,r5,y5,st5,fr5⟩:=kq;have I5':=I5.pinned (stat fr5) (T.obj _ _ st5);refine thn (hg cj _ s5 σ3 H5 x u _ I5' r5 (turn x H5 y5)) λ_ s6 kq=>?_;let⟨σ6,H6,I6,q6⟩:=kq;refine thn (ht cj _ s6 σ6 H6 _ I6 q6) λok s7 kq=>?_;let⟨H7,I7,q7⟩:=kq;have again:∀{σ8:St} {ys8:List V} {H8:Hp} {s8:AJ},Inv (cxC X sc NC cj) ([]++ybe cj.fp s5.heap) σ8 H8 s8->N σ8 ys8 H8->∃m,m<n/\∃i σ' ys' H',Inv (cxC X sc NC cj) [] σ' H' s8/\tn i s8.heap/\(∀b∈cj.fp,H' b=AD)/\W i m σ' ys' H':=λ{σ8 ys8 H8 s8} I8 n8=>by
   let⟨m',hm,w8⟩:=hN σ8 ys8 H8 n8;refine⟨m',hm,i+1,σ8,ys8,H8,I8.unpinned,T.keep _ _ _ st5 λb hb o e=>(I8.pin (b,o) (BF _ (BF _ (zaX hb e)))).1,λb hb=>?_,w8⟩;let⟨o,e,d⟩:=T.obj _ _ st5 b hb;exact(I8.pin (b,o) (BF _ (BF _ (zaX hb e)))).2.1
  cases ok with
  |false=>
   rw[if_neg Aw]at q7 ⊢;exact again I7 q7
  |true=>
   rw[if_pos rfl]at q7 ⊢;refine thn (he cj _ s7 σ6 H7 _ I7 q7) λy s8 kq=>?_;let⟨v,H8,I8,r8,hD8,q8⟩:=kq;refine thn (zd7 (X:=cxC X sc NC cj) _ s8 σ6 H8 (.ref D) [v] (.ref D) [y] (λz H'=>z=.non/\H'=upd H8 D (.lst (ys3++[v]))) I8 rfl (.cons r8 .nil) ⟨D,ys3,v,rfl,rfl,hD8,hz,rfl,rfl⟩) λz s9 kq=>?_;let⟨zv,H9,I9,r9,e1,e2⟩:=kq;subst e2;exact again I9 q8
theorem zgh(hc:X.calm=AB)(O:yai X sc NC slots)(hg:∀j,PG (cxC X sc NC j) tg g)(ht:∀j,PTs (cxC X sc NC j) ifs ti)(he:∀j,PE (cxC X sc NC j) elt te){pins:List (AI×CA)}{s:AJ}{σ:St}{H:Hp}(I:Inv X pins σ H s)
  {it:AI} {fp:List AI} {tn:Nat->Az->Prop} {J:It} (T:Turn X.prog X.w X.K tg J fp it tn) (st:tn 0 s.heap) (hf:∀b∈fp,ybf X pins H b) {Q:VK}
  (h:∀D,H D=AD->∃W:Nat->Nat->St->List V->Hp->Prop,(∃m,W 0 m (inn slots σ) [] (upd H D (.lst [])))/\ycJ J D g ti te W (Q (.ref D))) {RR:AF->AI->G8->AJ->Prop}
  (fin:∀D C s' H',Q (.ref D) H'->(∃o m,s'.heap.get? C=AA o/\s'.heap.Ns C m/\∀v,o.data ≠ .cell v)->ybf X pins H' C->(∀h2,C9 C s'.heap h2->Inv X pins σ H' {s' with heap:=h2})->RR (.ref D) C (.ok .next) s'):
  A1 (model X.prog X.w) X.A (newList []) (λacc s3=>A1 (model X.prog X.w) X.A (newFunctionEnv sc X.env.globals (yc2 sc X.env) [] X.env.qual AD .none (AA X.env)) (λcenv s4=>
   codeAny (model X.prog X.w) X.A (.compStart (.ListComp elt [⟨tg,iter,ifs,0⟩] sc pos) 0 (.ref it) acc {cenv with scope:=relabel sc X.env}) (RR acc cenv.locals) s4) X.xe s3) X.xe s:=by
 refine Bn (wpAny_newFunctionEnv O.nocell (by intro y hy;simp at hy) (λh1 hns1 hsb1=>?_) O.kind);dsimp only at hns1 hsb1 ⊢;have hDn:H s.heap.objs.size=none:=I.hok.fresh (AT _);let⟨W,⟨m,w0⟩,step⟩:=h s.heap.objs.size hDn;obtain⟨s3,hs3⟩:∃x:AJ,x=({s with heap:=s.heap.push {cls:=.type "list",dict:=AD,data:=.seq ([]:List AF).toArray} }:AJ):=⟨_,rfl⟩;have e3:s3.heap=s.heap.push {cls:=.type "list",dict:=AD,data:=.seq ([]:List AF).toArray}:=by rw[hs3]
 rw[<-e3]at hns1 hsb1;have hp3:∀b o,s.heap.get? b=AA o->s3.heap.get? b=AA o:=λb o e=>by
  rw[e3];exact AQ _ e
 have I3:Inv X pins σ (upd H s.heap.objs.size (.lst [])) s3:=by
  have q:=I.laid (a:=s.heap.objs.size) (o:=.lst []) (h':=s3.heap) (t':=s.toks) hp3 (AT _) ⟨DC _,[],_,.nil,by rw[e3];exact A0 _ rfl⟩;rw[hs3]at q ⊢;exact q
 have hf3:∀b∈fp,ybf X pins (upd H s.heap.objs.size (.lst [])) b:=λb hb=>by
  let⟨o,e,_⟩:=T.obj _ _ st b hb;refine⟨?_,(hf b hb).2⟩;rw[zh (Aj (AW e))];exact(hf b hb).1
 have st3:tn 0 s3.heap:=T.keep _ _ _ st λb _ o e=>hp3 b o e;have hob:∀b∈fp,∃o,s3.heap.get? b=AA o:=λb hb=>by
  let⟨o,e,_⟩:=T.obj _ _ st3 b hb;exact⟨o,e⟩
 have hk1:∀b o,s3.heap.get? b=AA o->h1.get? b=AA o:=λb o e=>hsb1.extBut b o (Aj (AW e)) (AQ _ e);have J1:=zgi (t':=s3.toks+([]:List (AR×AF)).length) I3 O hf3 hob hns1 hk1;have hfc:∀b∈fp,ybf (cxC X sc NC ⟨s3.heap.objs.size,s3,upd H s.heap.objs.size (.lst []),fp⟩) [] (upd H s.heap.objs.size (.lst [])) b:=λb hb=>
  ⟨(hf3 b hb).1,(J1.ok.exf b hb).1,J1.ok.exfs b hb,.inl hb,(J1.ok.exf b hb).2,λp hp=>nomatch hp⟩
 have loop:codeAny (model X.prog X.w) X.A (.compLoop (.ListComp elt [⟨tg,iter,ifs,0⟩] sc pos) 0 (.ref it) (.ref s.heap.objs.size) (cxC X sc NC ⟨s3.heap.objs.size,s3,upd H s.heap.objs.size (.lst []),fp⟩).env) (RR (.ref s.heap.objs.size) s3.heap.objs.size)
   {s3 with heap:=h1,toks:=s3.toks+([]:List (AR×AF)).length}:=by
  refine zjw (D:=s.heap.objs.size) (Q:=Q (.ref s.heap.objs.size)) hc hg ht he T J1 hfc (T.keep _ _ _ st3 λb _ o e=>hk1 b o e) w0 step λσ' H' s' J' q'=>?_;have fC:H' s3.heap.objs.size=none:=J'.free;refine fin _ _ s' H' q' ?_ (I3.fpOk (AT _) fC) λh2 hb=>zf2 I3 hf3 (AT _) J' hb;let⟨m',hn',_⟩:=J'.loc;let⟨o,es,ep,ho,hd,r⟩:=id hn';exact⟨o,m',ho,hn',λv z=>by rw[hd]at z;cases z⟩
 have self:=λ(RQ:AF->AJ->Prop) (EE:AF->AJ->Prop)=>T.self X.A 0 {s3 with heap:=h1,toks:=s3.toks+([]:List (AR×AF)).length} RQ EE (T.keep _ _ _ st3 λb _ o e=>hk1 b o e);subst hs3;exact codeAny_compStart_list loop (self _ _ loop)
variable {wi:TI}
theorem zke(hc:X.calm=AB)(O:yai X sc NC slots)(hi:PI X tg iter wi)(hg:∀j,PG (cxC X sc NC j) tg g)(ht:∀j,PTs (cxC X sc NC j) ifs ti)(he:∀j,PE (cxC X sc NC j) elt te)
  (hs:∀x,foldedSetIterable iter X.env x=pure x:=by intro _;rfl):PE X (.ListComp elt [⟨tg,iter,ifs,0⟩] sc pos) (ydk slots wi g ti te):=by
 intro pins s σ H Q I h;rw[eval_ListComp];refine wpAny_comprehension_free (use:=AD) rfl hs (zcv (O.cells I.ok)) O.kind O.names (thn (hi pins s σ H _ I h) λv s1 h1=>thn h1 λitv s2 h2=>?_);let⟨it,fp,tn,J,H2,rfl,I2,T,st2,f2,q2⟩:=h2;refine zgh hc O hg ht he I2 T st2 f2 q2 λD C s' H' q' ⟨o,m,ho,hn,_⟩ _ out=>⟨m,hn,λh2 hb=>⟨.ref D,H',out h2 hb,rfl,q'⟩⟩
end
theorem zdt:∀{bs:List Bool} {us:List AF},Vals (bs.map V.bl) us->LSm.BoolsAre us bs
 |[],_,.nil=>.nil
 |b::bs,_,.cons r q=>by
  cases (show _=Dp b from r)
  exact .cons b (zdt q)
section
variable {X:Cx}
def yfq(K:AE):List V->Hp->VK->Prop:=λxs H Q=>∃(l:AI) (bs:List Bool),xs=[.ref l]/\SqL K H l (bs.map V.bl)/\Q (.bl (bs.all id)) H
theorem zjs(hc:X.calm=AB):yac X (.builtin "all") (yfq X.K):=by
 intro pins s σ H xs us Q I r h;let⟨l,bs,rfl,hq,q⟩:=h;let⟨u,rfl,ru⟩:=Vals.one r
 cases (show u=Ah l from ru)
 let⟨its,rv,pl,hz⟩:=I.list hq;have hb:=zdt rv;have hl:=pl.isList;have hlt:l<s.heap.objs.size:=by
  let⟨_,e,_⟩:=hl;exact AW e
 refine call_all_walk (EL hl ?_);refine⟨s.heap.objs.size,[s.heap.objs.size,l],[s.heap.objs.size],its.toArray.size,_,_,λi=>(bs[i]?).getD AB,rfl,HR (A:=X.A.in1) (I.ok.hd hc) _ l (Aj hlt) its.toArray,⟨⟨_,A0 _ rfl,rfl,rfl⟩,hl.push _⟩,λi v s' Q' E' hP hQ=>?_,λh' tk hk=>?_⟩
 .let⟨b,e,rfl⟩:=hb.get i v (by simpa using hP);erw[e,Bj]at hQ;exact BX hQ
 .have e:((CU its.toArray.size).all λi=>(bs[i]?).getD AB)=bs.all id:=by
   rw[AX,hb.length];exact LSm.range_all bs
  rw[e];exact⟨.bl _,H,I.kept (t':=tk) (FZ hk),rfl,q⟩
end
section
variable {X:Cx}{pins:List (AI×CA)}{σ:St}{H:Hp}{s:AJ}
end
section
variable {X:Cx}{a:AU}{ta:TE}{K:AE}
end
end L2
namespace L2
end L2
namespace L2
open PySem PySem.Spec PyProof.Rows
def CX1(P:A5)(w:Ai):CXT:=λouter H s E e s'=>∃(a:AI) (cls a0:AF) (H':Hp) (B:Az),e=.ref a/\s'.os=s.os/\DX s'.gens/\Gv B outer a cls a0 s'.heap/\HOk P w H' s'.heap/\Un (frs outer) [] H H' s.heap s'.heap /\
 (∀b o,s.heap.get? b=AA o->H b=AD->b∉frs outer->B.get? b=AA o)/\(∀b u,H' b=AA u->∃o,B.get? b=AA o)/\(∀b o,s.heap.get? b=AA o->b∉frs outer->∃o',B.get? b=AA o')/\E cls AD H'
theorem yO.there{P:A5}{w:Ai}{H:Hp}{h:Az}{a:AI}{o:HO}(x:yO P w H h a o):∃ob,h.get? a=AA ob:=by
 induction o with
 |lst xs=>let⟨_,_,_,_,e⟩:=x;exact⟨_,e⟩
 |tup xs=>let⟨_,_,_,ob,e,_⟩:=x;exact⟨ob,e⟩
 |dK kvs=>let⟨_,_,_,_,ob,_,_,e,_⟩:=x;exact⟨ob,e⟩
 |dT kvs=>let⟨_,_,_,_,ob,_,_,e,_⟩:=x;exact⟨ob,e⟩
 |set S n=>let⟨ob,_,_,_,e,_⟩:=x;exact⟨ob,e⟩
 |ins C dx fs=>let⟨_,_,_,e,_⟩:=x;exact⟨_,e⟩
 |own y=>exact x
 |xd fs=>let⟨_,⟨ob,_,_,e,_⟩,_⟩:=x;exact⟨ob,e⟩
 |rng lo hi=>let⟨_,_,_,e⟩:=x;exact⟨_,e⟩
 |frz ob u ih=>exact⟨ob,x.1⟩
 |tbl ps=>exact⟨_,x⟩
 |met f y=>exact⟨_,x⟩
 |ext φ=>exact x.2.1
theorem HOk.inB{P:A5}{w:Ai}{H:Hp}{h h' B:Az}(ok:HOk P w H h)(hB:B.StaysIn h)(hB':B.StaysIn h')(tr:∀b u,H b=AA u->∃o,B.get? b=AA o):HOk P w H h':=λa o e=>
 (ok a o e).stay (λb u hb q=>by
  have hb':∃o,B.get? b=AA o:=by
   rcases hb with z|z
   .rw[z];exact tr a o e
   .exact tr b _ z
  let⟨o',q'⟩:=hb';have:=hB b o' q';rw[q]at this
  cases this
  exact hB' b u q') (λ_ q=>q) λ_ _ q=>q
section
variable {P:A5}{w:Ai}{K:AE}{mg:AR->Option AF}{base:Az}{N:List AR}{qual:AR}{scope:Bl}{f:AI}{cd:AF}{A:Ao}{outer:List Env}{s₀:AJ}{H₀:Hp}{E:XK}
 {pins:List (AI×CA)} {σ:St} {H:Hp} {s:AJ}
theorem zhq{h':Az}{e:AI}{cls:AF}{vs:List AF}(I:Inv (yaQ (CX1 P w) P w K mg base N qual scope f cd A outer s₀ H₀ E) pins σ H s)(hx:Gd s.heap h' e cls vs)(hE:E cls AD H):
  (yaQ (CX1 P w) P w K mg base N qual scope f cd A outer s₀ H₀ E).xe (.ref e) {s with heap:=h'}:=by
 have stk:s.heap.FunFrames base (envOfC qual scope s₀.heap.objs.size f cd::outer):=I.stack;have hst:∀b,b∈frs (envOfC qual scope s₀.heap.objs.size f cd::outer)->b=s₀.heap.objs.size \/ b∈frs outer:=λb hb=>by
  have hb':b∈s₀.heap.objs.size::frs outer:=hb;exact A3.mp hb'
 have inB:∀b o,s.heap.get? b=AA o->b∉frs (envOfC qual scope s₀.heap.objs.size f cd::outer)->(Cz s.heap (frs (envOfC qual scope s₀.heap.objs.size f cd::outer))).get? b=AA o:=λb o q n=>FQ _ q n;have hB:(Cz s.heap (frs (envOfC qual scope s₀.heap.objs.size f cd::outer))).StaysIn s.heap:=λb o q=>F6 _ q;have bse:Un (frs outer) [] H₀ H s₀.heap s.heap:=I.base;have lt:∀b o,s₀.heap.get? b=AA o->b≠s₀.heap.objs.size:=λb o q=>Aj (AW q);have tr:∀b u,H b=AA u->∃o,(Cz s.heap (frs (envOfC qual scope s₀.heap.objs.size f cd::outer))).get? b=AA o:=λb u q=>by
  let⟨o,ho⟩:=yO.there (I.hok b u q);exact⟨o,inB b o ho λhb=>by
   have:=I.stkFree b hb;rw[q]at this
   cases this⟩
 refine wpAny_leaves_madeW (base:=Cz s.heap (frs (envOfC qual scope s₀.heap.objs.size f cd::outer))) (h:=s.heap) I.ok.frames rfl hB (PySem.W.funFrames_hide stk λenv he a ha=>Du.mpr ⟨env,he,ha⟩) hx λh'' t fl tu tn up=>?_;have up':s.heap.UpToSlots h'':=(Go hx.keeps).trans up;refine⟨e,cls,_,H,_,rfl,I.os,I.bare,fl,HOk.inB I.hok hB fl.1 tr,⟨λb o q n hb _=>?_,λb o q n hb _=>?_,bse.free,λb o q _=>?_,bse.tups,bse.frzs,bse.tbls⟩,λb o q n hb=>?_,tr,λb o q hb=>?_,hE⟩
 .refine fl.1 b o (inB b o (bse.keep b o q n hb (by simp)) λz=>?_);rcases hst b z with z|z
  .exact lt b o q z
  .exact hb z
 .let⟨sl,q1⟩:=bse.slot b o q n hb (by simp);let⟨_,o',ho',hd⟩:=CL stk (show b∈DH (λ(z:Env)=>z.frame) _ from AY _ hb);let⟨sl',q2⟩:=up' b _ q1 (by rw[ho']at q1;cases q1;exact hd);exact⟨sl',q2⟩
 .let⟨o',q1⟩:=bse.there b o q (by simp)
  by_cases hb:b∈frs (envOfC qual scope s₀.heap.objs.size f cd::outer)
  .let⟨_,o2,ho',hd⟩:=CL stk hb;let⟨sl',q2⟩:=up' b _ ho' hd;exact⟨_,q2⟩
  .exact⟨o',fl.1 b o' (inB b o' q1 hb)⟩
 .refine inB b o (bse.keep b o q n hb (by simp)) λz=>?_;rcases hst b z with z|z
  .exact lt b o q z
  .exact hb z
 .let⟨o',q1⟩:=bse.there b o q (by simp);refine⟨o',inB b o' q1 λz=>?_⟩;rcases hst b z with z|z
  .exact lt b o q z
  .exact hb z
theorem ydJ:ybw (CX1 P w) (yaQ (CX1 P w) P w K mg base N qual scope f cd A outer s₀ H₀ E) E:=by
 intro pins σ H s e s' I h;let⟨a,cls,a0,H',B,rfl,os,bare,fl,hok,un,hB,tr,hT,hE⟩:=h;have bse:Un (frs outer) [] H₀ H s₀.heap s.heap:=I.base;have lt:∀b o,s₀.heap.get? b=AA o->b≠s₀.heap.objs.size:=λb o q=>Aj (AW q);have hst:∀b,b∈frs (envOfC qual scope s₀.heap.objs.size f cd::outer)->b=s₀.heap.objs.size \/ b∈frs outer:=λb hb=>by
  have hb':b∈s₀.heap.objs.size::frs outer:=hb;exact A3.mp hb'
 have un':Un (frs (envOfC qual scope s₀.heap.objs.size f cd::outer)) [] H H' s.heap s'.heap:=un;have kB:∀b o,s₀.heap.get? b=AA o->H₀ b=AD->b∉frs outer->B.get? b=AA o:=λb o q n hb=>hB b o (bse.keep b o q n hb (by simp)) (bse.free b o q n (by simp)) λz=>by
  rcases hst b z with z|z
  .exact lt b o q z
  .exact hb z
 have kT:∀b o,s₀.heap.get? b=AA o->b∉frs outer->∃o',B.get? b=AA o':=λb o q hb=>by
  let⟨o',q1⟩:=bse.there b o q (by simp);refine hT b o' q1 λz=>?_;rcases hst b z with z|z
  .exact lt b o q z
  .exact hb z
 refine wpAny_leaves_onW I.ok.frames rfl fl λh'' fl' up=>?_;refine⟨a,cls,a0,H',B,rfl,os.trans I.os,bare,fl',HOk.inB hok fl.1 fl'.1 tr,⟨λb o q n hb _=>fl'.1 b o (kB b o q n hb),λb o q n hb _=>?_,λb o q n _=>?_,λb o q _=>?_,λb xs q=>un'.tups b xs (bse.tups b xs q),λb o u q=>un'.frzs b o u (bse.frzs b o u q),λb ps q=>?_⟩,kB,tr,kT,hE⟩
 .let⟨sl,q1⟩:=bse.slot b o q n hb (by simp);have n1:=bse.free b o q n (by simp);let⟨sl1,q2⟩:=un'.slot b _ q1 n1 (AY _ hb) (by simp);let⟨_,o',ho',hd⟩:=CL fl.2.2.1 (show b∈DH (λ(z:Env)=>z.frame) _ from AY _ hb);let⟨sl',q3⟩:=up b _ q2 (by rw[ho']at q2;cases q2;exact hd);exact⟨sl',q3⟩
 .let⟨o',q1⟩:=bse.there b o q (by simp);exact un'.free b o' q1 (bse.free b o q n (by simp)) (by simp)
 .let⟨o',q1⟩:=bse.there b o q (by simp);let⟨o2,q2⟩:=un'.there b o' q1 (by simp)
  by_cases hb:b∈frs outer
  .let⟨_,o3,ho3,hd⟩:=CL fl.2.2.1 (show b∈DH (λ(z:Env)=>z.frame) _ from AY _ hb);let⟨sl',q3⟩:=up b _ ho3 hd;exact⟨_,q3⟩
  .let⟨o4,q4⟩:=kT b o q hb;exact⟨o4,fl'.1 b o4 q4⟩
 .let⟨m1,e1⟩:=bse.tbls b ps q;let⟨m2,e2⟩:=un'.tbls b _ e1;exact⟨m1++m2,by rw[e2,Dq]⟩
end
section
variable {X:Cx}{e:AU}{es:List AU}{te:TE}
end
section
variable {X:Cx}{e:AU}{es:List AU}{t:TA}{E:XK}
end
section
variable {pg:A5}{wd:Ai}{A:Ao}{E:AF->AJ->Prop}{h:Az}{g:Array GenState}{d:Drawn}{t:Nat}{os:OsState}{a C:AI}{o:CA}{K:AE}
end
def yfm(a C:AI):Az->Prop:=λh=>∃o,h.get? a=AA o/\o.cls=.ref C
section
variable {X:Cx}
end
section
variable {X:Cx}{pins:List (AI×CA)}{σ:St}{H:Hp}{s:AJ}
end
section
variable {X:Cx}{pins:List (AI×CA)}{σ:St}{H:Hp}{s:AJ}
end
section
variable {X:Cx}{body suite:List Bt}{b₀:Bt}{x n:AR}{np hpos pos:CP}{tb:XK->TS}{ts:TS}{W:AI}{i:Nat}
end
structure yc8(k:Nat)(A:Ao):Prop where
 dp:A.depth+3*k+5<recursionLimit
 un:A.units+16*k+200<cLine
section
variable {P:A5}{w:Ai}{K:AE}{mg:AR->Option AF}{base:Az}
end
section
variable {X:Cx}{k:Nat}{f:AI}{fd:BA}{ps:List AR}{sp:Sp}{x:AR}{p pos:CP}{e:AU}{es:List AU}{t:TA}
end
section
variable {P:A5}{w:Ai}{K:AE}{mg:AR->Option AF}{base:Az}
theorem own1{N:List AR}{qual:AR}{scope:Bl}{f:AI}{cd:AF}{A:Ao}{outer:List Env}{s:AJ}{H:Hp}{E:XK}{CX:CXT}:
  EX (model (yaQ CX P w K mg base N qual scope f cd A outer s H E).prog (yaQ CX P w K mg base N qual scope f cd A outer s H E).w) (yaQ CX P w K mg base N qual scope f cd A outer s H E).A (yaQ CX P w K mg base N qual scope f cd A outer s H E).env (yaQ CX P w K mg base N qual scope f cd A outer s H E).xe:=
 PassesOwn.leaving
end
section
variable {X:Cx}
end
section
variable {X:Cx}
def ygJ(K:AE):List V->Hp->VK->Prop:=λxs H Q=>∃(l:AI) (ns:List Int),xs=[.ref l]/\SqL K H l (ns.map V.int)/\0<ns.length/\∀M,M∈ns->(∀a,a∈ns->a<=M)->Q (.int M) H
theorem zh8(hc:X.calm=AB):yac X (.builtin "max") (ygJ X.K):=by
 intro pins s σ H xs us Q I r h;let⟨l,ns,rfl,hq,hne,q⟩:=h;let⟨u,rfl,ru⟩:=Vals.one r
 cases (show u=Ah l from ru)
 let⟨its,rv,pl,hz⟩:=I.list hq;have hi:FP its ns:=zfZ rv;let⟨ys,e⟩:=hi.allInts.items;have hns:ns=ys.toList.map (·.1):=by rw[<-hi.numsOf,<-nums_intItems,<-e]
 have hsz:0<ys.size:=by
  rw[hns,BC,CB]at hne;exact hne
 have hl:=pl.isList;rw[e]at hl;refine max_intList (I.ok.hd hc) hl hsz λv h' tk hv hk=>?_;let⟨t,rfl⟩:=intItems_at hv;let⟨h1,h2⟩:=argBest_gt (numAt ys) (ys.size-1);refine⟨.int _,H,I.kept (t':=tk) hk,⟨t,rfl⟩,q _ ?_ λa ha=>?_⟩
 .rw[hns,numAt_eq];exact getD_mem (by rw[BC,CB];lia)
 .rw[hns]at ha;let⟨j,hj,rfl⟩:=mem_getD ha;rw[BC,CB]at hj;rw[<-numAt_eq];exact h2 j (by lia)
end
section
variable {κ:Type}[DecidableEq κ]
def ybz(kvs:List (κ×V))(k:κ):Option V:=(kvs.find? λkv=>decide (kv.1=k)).map (·.2)
def putK(kvs:List (κ×V))(k:κ)(v:V):List (κ×V):=
 if (kvs.any λkv=>decide (kv.1=k))=AB then kvs.map (λkv=>if kv.1=k then(kv.1,v)else kv)else kvs++[(k,v)]
theorem zbG{p:κ×V}{r:List (κ×V)}{k:κ}(e:p.1=k):ybz (p::r) k=AA p.2:=by simp[ybz,Bz,e]
theorem zbv{p:κ×V}{r:List (κ×V)}{k:κ}(e:¬p.1=k):ybz (p::r) k=ybz r k:=by simp[ybz,Bz,e]
theorem zfj(k:κ):∀kvs:List (κ×V),(kvs.any λkv=>decide (kv.1=k))=(ybz kvs k).isSome
 |[]=>rfl
 |p::r=>by
  rw[BN]
  by_cases e:p.1=k
  .simp only[zbG e,decide_eq_true e,El,Option.isSome_some]
  .rw[zbv e,decide_eq_false e,F0];exact zfj k r
theorem zcL(kvs:List (κ×V))(k:κ)(v:V):(putK kvs k v).length<=kvs.length+1:=by
 unfold putK;split
 .rw[BC];lia
 .rw[A9,AS,Am];lia
theorem ybj.isSome_eq{o:Option V}{u:Option AF}(r:ybj o u):o.isSome=u.isSome:=by
 cases o with
 |none=>cases u with
  |none=>rfl
  |some _=>exact(show False from r).elim
 |some _=>cases u with
  |none=>exact(show False from r).elim
  |some _=>rfl
theorem ybj.getD{o:Option V}{u:Option AF}{d:V}{d':AF}(r:ybj o u)(rd:RelV d d'):RelV (o.getD d) (u.getD d'):=by
 cases o with
 |none=>cases u with
  |none=>exact rd
  |some _=>exact(show False from r).elim
 |some _=>cases u with
  |none=>exact(show False from r).elim
  |some _=>exact r
theorem KV.val{kvs:List (κ×V)}{vs:List (κ×AF)}(r:KV kvs vs)(k:κ):ybj (ybz kvs k) (valueAt vs k):=by
 unfold KV at r
 induction r with
 |nil=>exact Ca
 |@cons p q ps qs h t ih=>
  let⟨h1,h2⟩:=h
  by_cases e:p.1=k
  .have e':q.1=k:=h1.symm.trans e;have b:valueAt (q::qs) k=AA q.2:=by simp[valueAt,Bz,e']
   rw[zbG e,b];exact h2
  .have e':¬q.1=k:=λz=>e (h1.trans z);have b:valueAt (q::qs) k=valueAt qs k:=by simp[valueAt,Bz,e']
   rw[zbv e,b];exact ih
theorem KV.any{kvs:List (κ×V)}{vs:List (κ×AF)}(r:KV kvs vs)(k:κ):(kvs.any λkv=>decide (kv.1=k))=vs.any λkv=>decide (kv.1=k):=by
 unfold KV at r
 induction r with
 |nil=>rfl
 |cons h t ih=>rw[BN,BN,ih,h.1]
theorem KV.repl{kvs:List (κ×V)}{vs:List (κ×AF)}(r:KV kvs vs)(k:κ){y:V}{u:AF}(ry:RelV y u):
  KV (kvs.map λkv=>if kv.1=k then(kv.1,y)else kv) (vs.map λkv=>if kv.1=k then(kv.1,u)else kv):=by
 unfold KV at r ⊢
 induction r with
 |nil=>exact .nil
 |@cons p q ps qs h t ih=>
  rw[AL,AL];refine .cons ?_ ih;let⟨h1,h2⟩:=h
  by_cases e:p.1=k
  .rw[if_pos e,if_pos (h1.symm.trans e)];exact⟨h1,ry⟩
  .rw[if_neg e,if_neg (λz=>e (h1.trans z))];exact⟨h1,h2⟩
theorem KV.put{kvs:List (κ×V)}{vs:List (κ×AF)}(r:KV kvs vs)(k:κ){y:V}{u:AF}(ry:RelV y u):KV (putK kvs k y) (stored vs k u):=by
 unfold putK stored;rw[r.any k]
 by_cases e:(vs.any λkv=>decide (kv.1=k))=AB
 .rw[if_pos e,if_pos e];exact r.repl k ry
 .rw[if_neg e,if_neg e];exact HH r ⟨rfl,ry⟩
theorem KV.length{kvs:List (κ×V)}{vs:List (κ×AF)}(r:KV kvs vs):kvs.length=vs.length:=ES r
end
theorem zku{P:A5}{w:Ai}{k:Key}{u:AF}(r:RelV (kV k) u):(yL P w).is k u=true:=by
 cases k with
 |inl i=>let⟨t,e⟩:=(show ∃t,u=EW i t from r);subst e;exact zff P w i t
 |inr x=>let⟨t,e⟩:=(show ∃t,u=GA x t from r);subst e;exact ze8 P w x t
theorem zd2{P:A5}{w:Ai}:∀{ks:List Key} {us:List AF},Vals (ks.map kV) us->ItemsAre (yL P w) ks us
 |[],_,r=>by rw[Ac]at r;cases r;exact .nil
 |k::ks,_,r=>by
  rw[AL]at r
  cases r with
  |cons h t=>exact .cons (zku h) (zd2 t)
abbrev KT(H:Hp):List (List Key×V)->List (List Key×AI×AF)->Prop:=G4 λp q=>p.1=q.1/\H q.2.1=AA (.tup (p.1.map kV))/\RelV p.2 q.2.2
theorem KT.val{H:Hp}{kvs:List (List Key×V)}{xs:List (List Key×AI×AF)}(r:KT H kvs xs)(k:List Key):ybj (ybz kvs k) ((atKey xs k).map (·.2)):=by
 induction r with
 |nil=>exact Ca
 |@cons p q ps qs h t ih=>
  let⟨h1,_,h2⟩:=h
  by_cases e:p.1=k
  .have e':q.1=k:=h1.symm.trans e;have b:atKey (q::qs) k=AA q.2:=by simp[atKey,Bz,e']
   rw[zbG e,b];exact h2
  .have e':¬q.1=k:=λz=>e (h1.trans z);have b:atKey (q::qs) k=atKey qs k:=by simp[atKey,Bz,e']
   rw[zbv e,b];exact ih
theorem KT.repl{H:Hp}{kvs:List (List Key×V)}{xs:List (List Key×AI×AF)}(r:KT H kvs xs)(k:List Key){y:V}{u:AF}(ry:RelV y u):
  KT H (kvs.map λkv=>if kv.1=k then(kv.1,y)else kv) (xs.map (putAt k u)):=by
 induction r with
 |nil=>exact .nil
 |@cons p q ps qs h t ih=>
  rw[AL,AL];refine .cons ?_ ih;let⟨h1,h2,h3⟩:=h;unfold putAt
  by_cases e:p.1=k
  .rw[if_pos e,if_pos (h1.symm.trans e)];exact⟨h1,h2,ry⟩
  .rw[if_neg e,if_neg (λz=>e (h1.trans z))];exact⟨h1,h2,h3⟩
theorem KT.put{H:Hp}{kvs:List (List Key×V)}{xs:List (List Key×AI×AF)}(r:KT H kvs xs)(k:List Key){b:AI}{y:V}{u:AF}(hb:H b=AA (.tup (k.map kV)))(ry:RelV y u):
  KT H (putK kvs k y) (storedH xs k b u):=by
 have e:(kvs.any λkv=>decide (kv.1=k))=(atKey xs k).isSome:=by
  rw[zfj,(r.val k).isSome_eq,Option.isSome_map]
 unfold putK storedH;rw[e]
 by_cases q:(atKey xs k).isSome=AB
 .rw[if_pos q,if_pos q];exact r.repl k ry
 .rw[if_neg q,if_neg q];exact HH r ⟨rfl,hb,ry⟩
theorem KT.keeps{H H':Hp}{kvs:List (List Key×V)}{xs:List (List Key×AI×AF)}(r:KT H kvs xs)(ht:∀b ys,H b=AA (.tup ys)->H' b=AA (.tup ys)):KT H' kvs xs:=
 Paired.mapP r λ_ _ z=>⟨z.1,ht _ _ z.2.1,z.2.2⟩
section
variable {P:A5}{w:Ai}{H:Hp}{h:Az}{a:AI}
theorem zmC{u:HO}(ok:HOk P w H h)(e:Rd H a u):yO P w H h a u:=e.ok ok
theorem zkf{kvs:List (Key×V)}(ok:HOk P w H h)(e:Rd H a (.dK kvs)):kvs.length<=sizeLine/\(a==sysModules)=AC/\∃vs,KV kvs vs/\h.DictOf (yL P w) a vs:=
 show yO P w H h a (.dK kvs)from zmC ok e
theorem zoR{kvs:List (Key×V)}(ok:HOk P w H h)(e:H a=AA (.dK kvs)):kvs.length<=sizeLine/\(a==sysModules)=AC/\∃vs,KV kvs vs/\h.DictOf (yL P w) a vs:=zkf ok (.inl e)
theorem zhW{ks:List Key}(ok:HOk P w H h)(e:H a=AA (.tup (ks.map kV))):(tupleKind (yL P w)).is h ks a:=by
 let⟨_,its,r,o,h1,h2,n,h3⟩:=(show yO P w H h a (.tup (ks.map kV))from ok a _ e);exact⟨o,its.toArray,n,h1,h2,h3,by simpa using zd2 r⟩
theorem zlp{kvs:List (List Key×V)}(ok:HOk P w H h)(e:Rd H a (.dT kvs)):kvs.length<=sizeLine/\(a==sysModules)=AC /\
  ∃xs,KT H kvs xs/\h.DictOfH (tupleKind (yL P w)) a xs:=by
 let⟨z,y,xs,r,o,es,ep,h1,h2,h3,h4,h5⟩:=(show yO P w H h a (.dT kvs)from zmC ok e);refine⟨z,y,xs,r,o,es,ep,h1,h2,h3,h4,λx hx=>?_,h5⟩;have all:∀{l:List (List Key×V)} {m:List (List Key×AI×AF)},KT H l m->∀x∈m,(tupleKind (yL P w)).is h x.1 x.2.1:=by
  intro l m q
  induction q with
  |nil=>intro x hx;exact nomatch hx
  |@cons p q ps qs hq t ih=>
   intro x hx;rcases A3.mp hx with e|hx
   .subst e;exact zhW ok (by rw[<-hq.1];exact hq.2.1)
   .exact ih x hx
 exact all r x hx
theorem zox{kvs:List (List Key×V)}(ok:HOk P w H h)(e:H a=AA (.dT kvs)):kvs.length<=sizeLine/\(a==sysModules)=AC /\
  ∃xs,KT H kvs xs/\h.DictOfH (tupleKind (yL P w)) a xs:=zlp ok (.inl e)
end
def yeK(H:Hp)(a:AI)(y:V)(r:Option V):Prop:=
 (∃kvs k,Rd H a (.dK kvs)/\y=kV k/\r=ybz kvs k) \/ ∃kvs k b,Rd H a (.dT kvs)/\y=.ref b/\H b=AA (.tup (k.map kV))/\r=ybz kvs k
def yeR(H:Hp)(a:AI)(y v:V)(H':Hp):Prop:=
 (∃kvs k,H a=AA (.dK kvs)/\y=kV k/\kvs.length<sizeLine/\H'=upd H a (.dK (putK kvs k v))) \/
 ∃kvs k b,H a=AA (.dT kvs)/\y=.ref b/\H b=AA (.tup (k.map kV))/\kvs.length<sizeLine/\H'=upd H a (.dT (putK kvs k v))
section
variable {X:Cx}{pins:List (AI×CA)}{σ:St}{H:Hp}{s:AJ}{a:AI}{y v:V}{u r:AF}{o:Option V}{A:Ao}{E:AF->AJ->Prop}
theorem Inv.big(I:Inv X pins σ H s):sysModules<s.heap.objs.size:=by
 have h:mainGlobals<s.heap.objs.size:=(I.mod.glob.keeps I.bk).lt;exact Nat.lt_trans (by decide) h
theorem zhX{h':Az}{t':Nat}{ob:HO}(I:Inv X pins σ H s)(mu:Mut (H a))(hs:C9 a s.heap h')(he:∃q,h'.get? a=AA q)(new:yO X.prog X.w (upd H a ob) h' a ob):
  Inv X pins σ (upd H a ob) {s with heap:=h',toks:=t'}:=
 I.write (x:=a) (e:=a) mu (.inl rfl) (λb q hb z=>(hs.2 b hb).trans z) he new
theorem zmg{P:A5}{w:Ai}{H':Hp}{h':Az}{kvs:List (Key×V)}{vs:List (Key×AF)}(z:kvs.length<=sizeLine)(hd:(a==sysModules)=AC)(rel:KV kvs vs)(dd:h'.DictOf (yL P w) a vs):
  yO P w H' h' a (.dK kvs):=⟨z,hd,vs,rel,dd⟩
theorem zic{H':Hp}{Q:Unit->AJ->Prop}(hu:A.units+1<cLine)(I:Inv X pins σ H s)(g:yeR H a y v H')(ry:RelV y u)(rv:RelV v r)(h:∀s',Inv X pins σ H' s'->Q () s'):
  A1 (model X.prog X.w) A (setItem (.ref a) u r) Q E s:=by
 rcases g with⟨kvs,k,e,ey,l,eH⟩|⟨kvs,k,b,e,ey,eb,l,eH⟩
 .subst ey eH;let⟨z,hd,vs,rel,dd⟩:=zoR I.hok e;have hz:vs.length<=sizeLine:=by rw[<-rel.length];exact z
  have hl:(putK kvs k v).length<=sizeLine:=by have:=zcL kvs k v;lia
  refine wpAny_setItem_pairs (hsz:=hz) (zku ry) dd λh' dd' hs=>h _ ?_;have he:∃q,h'.get? a=AA q:=let ⟨q,_,_,hq,_⟩:=dd';⟨q,hq⟩
  exact zhX I (by rw[e];exact Ca) hs he (zmg hl hd (rel.put k rv) dd')
 .subst ey eH
  cases (show u=Ah b from ry)
  let⟨z,hd,xs,rel,dd⟩:=zox I.hok e;have hz:xs.length<=sizeLine:=by rw[<-ES rel];exact z
  have hl:(putK kvs k v).length<=sizeLine:=by have:=zcL kvs k v;lia
  refine wpAny_setItem_heap (hsz:=hz) (Fa hu) (zhW I.hok eb) dd λh' dd' hs=>h _ ?_;let⟨q,es,ep,hq,h2,h3,h4,_,h5⟩:=dd';refine zhX I (by rw[e];exact Ca) hs ⟨q,hq⟩ ⟨hl,hd,_,(rel.put k eb rv).keeps λc ys ec=>?_,q,es,ep,hq,h2,h3,h4,h5⟩;rw[zh (zoj ec e (λz=>nomatch z))];exact ec
end
section
variable {X:Cx}{pins:List (AI×CA)}{σ:St}{H:Hp}{s:AJ}{a:AI}{kvs:List (Key×V)}{k:Key}{u:AF}{A:Ao}{E:AF->AJ->Prop}
end
def ycL(i:AU):Prop:=∀ov iv,subscripted i AC ov iv=operate [ov,iv] (getItem ov iv)
theorem zhv{prog:A5}{w:Ai}{A:Ao}{E:AF->AJ->Prop}{s:AJ}{env:Env}{value slice:AU}{pos:CP}{T id:String}{Q:AF->AJ->Prop}
  (hl:typeLookup (.type T) "__getitem__"=pure (AA (.builtin id))) (hs:ycL slice)
  (h:A1 (model prog w) A (eval value env) (λo s₁=>A1 (model prog w) A (eval slice env) (λi s₂=>s₂.TypeIs o T/\A1 (model prog w) A (getItem o i) Q E s₂) E s₁) E s):
  A1 (model prog w) A (eval (.Subscript value slice pos) env) Q E s:=by
 refine Ga (CV h (λo s₁ h₁=>CV h₁ (λi s₂ h₂=>?_) λ_ _ x=>x) λ_ _ x=>x);let⟨hT,h₂⟩:=h₂;unfold subscriptTail;refine AH ?_;rw[getitemInPython_of_ne hT.not_modules];refine AH (wpAny_specialOf hT hl ?_);have fin:A1 (model prog w) A (subscripted slice AC o i) (λr s₃=>A1 (model prog w) A (letTemporaryGo value o r >>= λ_=>pure r) Q E s₃) E s₂:=by
  rw[hs o i];exact wpAny_operating (CV h₂ (λr s₃ h₃=>AH (wpAny_letTemporaryGo (AV h₃))) λ_ _ x=>x)
 first
  |exact AV (AH fin)
  |exact AH (AV (AH fin))
  |exact AH fin
def yeD(td ty tv:TE):TS:=λD σ H=>tv σ H λv H1=>td σ H1 λx H2=>ty σ H2 λy H3=>∃a H4,x=.ref a/\yeR H3 a y v H4/\D.nx σ H4
section
variable {X:Cx}{o i e value:AU}{pos pos' tpos:CP}{td ty tv:TE}
theorem zkh(hu:X.A.units+1<cLine)(ho:PE X o td)(hi:PE X i ty)(hv:PE X value tv)(hs:swapsWith value (AA (.Subscript o i pos')) pos.line X.env=pure AC):
  PS X (.Assign [.Subscript o i pos'] value pos) (yeD td ty tv):=by
 intro pins s σ H D I h;refine wpAny_Assign_Subscript (thn (hv pins s σ H _ I h) λr s1 kq=>?_) hs;let⟨v,H1,I1,rv,q1⟩:=kq;refine thn (ho pins s1 σ H1 _ I1 q1) λu s2 kq=>?_;let⟨x,H2,I2,rx,q2⟩:=kq;refine thn (hi pins s2 σ H2 _ I2 q2) λiv s3 kq=>?_;let⟨y,H3,I3,ry,a,H4,ex,g,q3⟩:=kq;subst ex;obtain rfl:u=Ah a:=rx;exact zic hu I3 g ry rv λs4 I4=>⟨σ,H4,I4,q3⟩
end
theorem ziw{P:A5}{w:Ai}{H:Hp}(h:Az)(hb:sysModules<h.objs.size):yO P w H (h.push {cls:=.type "dict",data:=.dict #[]}) h.objs.size (.dT []):=
 ⟨DC _,beq_eq_false_iff_ne.mpr (BK (Aj hb)),[],.nil,_,#[],0,A0 _ rfl,⟨rfl,rfl,rfl⟩,rfl,rfl,List.nodup_nil⟩
def ydi:TE:=λ_ H Q=>∀p,H p=AD->Q (.ref p) (upd H p (.dT []))
section
variable {X:Cx}{pos:CP}
theorem yb6:PE X (.Dict [] [] pos) ydi:=λpins s σ H Q I h=>
 wpAny_Dict_empty ⟨.ref s.heap.objs.size,_,I.laid (a:=s.heap.objs.size) (o:=.dT []) (t':=s.toks) (λ_ _ q=>AQ _ q) (AT _) (ziw s.heap I.big),rfl,h _ (I.hok.fresh (AT _))⟩
end
structure M2(X:Cx)(o:AU)(m:AR)(apos:CP)(e f:AU)(cpos:CP):Prop where
 base:attributeBase o m X.env (eval o X.env)=eval o X.env
 few:((backTo cpos (starEach [e,f] X.env)).all (λx=>!x.1)&&(backToKw cpos (keywordEach [] X.env)).all (λx=>x.1.isSome)
  && decide (([e,f]:List AU).length+([]:List C2).length+(if ([]:List C2).isEmpty then 0 else 1)<30))=AB
 line:(apos.endLine==cpos.line)=AB
 trees:backTo cpos (starEach [e,f] X.env)=[(AC,eval e X.env),(AC,eval f X.env)]
def IsD(H:Hp)(a:AI):Prop:=(∃kvs,Rd H a (.dK kvs)) \/ ∃kvs,Rd H a (.dT kvs)
theorem zny{X:Cx}{pins:List (AI×CA)}{σ:St}{H:Hp}{s:AJ}{a:AI}(I:Inv X pins σ H s)(d:IsD H a):
  s.TypeIs (.ref a) "dict"/\(∀b,Ah a=.ref b->∃ob,s.heap.get? b=AA ob/\ob.dict=AD)/\(a==sysModules)=false:=by
 rcases d with⟨kvs,e⟩|⟨kvs,e⟩
 .let⟨_,hd,vs,_,dd⟩:=zkf I.hok e;refine⟨dd.typeIs,λb q=>?_,hd⟩
  cases q
  let⟨ob,_,_,h1,h2,_⟩:=dd;exact⟨ob,h1,h2.2.1⟩
 .let⟨_,hd,xs,_,dd⟩:=zlp I.hok e;refine⟨dd.typeIs,λb q=>?_,hd⟩
  cases q
  let⟨ob,_,_,h1,h2,_⟩:=dd;exact⟨ob,h1,h2.2.1⟩
section
variable {X:Cx}{pins:List (AI×CA)}{σ:St}{H:Hp}{s:AJ}{a:AI}{y d:V}{u r:AF}{o:Option V}{A:Ao}{E:AF->AJ->Prop}
theorem znm{Q:AF->AJ->Prop}(hu:A.units+1<cLine)(I:Inv X pins σ H s)(g:yeK H a y o)(ry:RelV y u)(rd:RelV d r)(h:∀w' s',Inv X pins σ H s'->RelV (o.getD d) w'->Q w' s'):
  A1 (model X.prog X.w) A (call (.builtin "dict.get") [.ref a,u,r]) Q E s:=by
 rcases g with⟨kvs,k,e,ey,l⟩|⟨kvs,k,b,e,ey,eb,l⟩
 .subst ey;let⟨z,hd,vs,rel,dd⟩:=zkf I.hok e;refine call_meetsIn DP dd.typeIs Em (E9 _ _ _) (meets_dict_get_default (yL X.prog X.w) a (zku ry) hd r) ⟨_,dd.mapOf,h _ _ (I.tok _) ?_⟩;rw[l];exact(rel.val k).getD rd
 .subst ey
  cases (show u=Ah b from ry)
  let⟨z,hd,xs,rel,dd⟩:=zlp I.hok e;refine call_meetsIn DP dd.typeIs Em (E9 _ _ _) (meetsH_dict_get_default (tupleKind (yL X.prog X.w)) a b hd r) ⟨Fa hu,k,xs,zhW I.hok eb,dd,h _ _ (I.tok _) ?_⟩;rw[l];exact(rel.val k).getD rd
end
def ycZ(td ty tx:TE):TE:=λσ H Q=>td σ H λx H1=>∃a,x=.ref a/\IsD H1 a/\ty σ H1 λy H2=>tx σ H2 λz H3=>∃o,yeK H3 a y o/\Q (o.getD z) H3
section
variable {X:Cx}{o e f:AU}{apos cpos:CP}{td ty tx:TE}
theorem zir(hu:X.A.units+1<cLine)(ho:PE X o td)(he:PE X e ty)(hf:PE X f tx)(m:M2 X o "get" apos e f cpos):PE X (.Call (.Attribute o "get" apos) [e,f] [] cpos) (ycZ td ty tx):=by
 intro pins s σ H Q I h;refine wpAny_Call_method m.base m.few m.line PySem.F.plainAttrs_dict DP PySem.F.type_dict_get (thn (ho pins s σ H _ I h) λu s1 kq=>?_);let⟨x,H1,I1,rx,a,ex,d,q1⟩:=kq;subst ex;obtain rfl:u=Ah a:=rx;let⟨t1,t2,_⟩:=zny I1 d;refine⟨t1,t2,?_⟩;rw[m.trees];refine Ek rfl (FE (Dx (thn (he pins s1 σ H1 _ I1 q1) λiv s2 ⟨y,H2,I2,ry,q2⟩=>
  Dx (thn (hf pins s2 σ H2 _ I2 q2) λfv s3 ⟨z,H3,I3,rz,ov,g,q3⟩=>Fh ?_))))
 exact znm hu I3 g ry rz λw' s4 I4 rw'=>⟨_,H3,I4,rw',q3⟩
end
section
variable {X:Cx}{pins:List (AI×CA)}{σ:St}{H:Hp}{s:AJ}{a:AI}{kvs:List (Key×V)}{A:Ao}{E:AF->AJ->Prop}
end
section
variable {X:Cx}{pins:List (AI×CA)}{σ:St}{H:Hp}{s:AJ}{a:AI}{y:V}{u:AF}{A:Ao}{E:AF->AJ->Prop}
end
end L2
namespace IC
open PySem
inductive PV where
 |non|bl (b:Bool)|int (i:Int)|str (x:AR)|tp (k:Bool) (xs:List PV)|lst (xs:List PV)|loc (n:Nat)|exn (c:Nat)|scr (xs:List PV)
deriving Inhabited
noncomputable abbrev PV.tup(xs:List PV):PV:=.tp AC xs
mutual
noncomputable def nL:PV->Bool
 |.loc _=>AC
 |.exn _=>AC
 |.tp _ xs=>nLs xs
 |.lst xs=>nLs xs
 |.scr xs=>nLs xs
 |_=>AB
noncomputable def nLs:List PV->Bool
 |[]=>AB
 |x::xs=>nL x&&nLs xs
end
mutual
noncomputable def shd(n:Nat):PV->Bool
 |.non=>AB
 |.bl _=>AB
 |.int _=>AB
 |.str x=>x.cps.all (· < 0x110000)
 |.tp _ xs=>decide (0<n)&&ybl (n-1) xs
 |.lst xs=>decide (0<n)&&ybl (n-1) xs
 |_=>AC
noncomputable def ybl(n:Nat):List PV->Bool
 |[]=>AB
 |x::xs=>shd n x&&ybl n xs
end
abbrev shp(v:PV):Bool:=shd 60 v
noncomputable def flat:PV->Bool
 |.non=>AB
 |.bl _=>AB
 |.int _=>AB
 |.str _=>AB
 |_=>AC
noncomputable def bi(b:Bool):Int:=if b then 1 else 0
mutual
noncomputable def peq:PV->PV->Bool
 |.non,.non=>AB
 |.bl a,.bl b=>a==b
 |.bl a,.int j=>bi a==j
 |.int i,.bl b=>i==bi b
 |.int i,.int j=>i==j
 |.str x,.str y=>x==y
 |.tp _ xs,.tp _ ys=>ya9 xs ys
 |.lst xs,.lst ys=>ya9 xs ys
 |_,_=>AC
noncomputable def ya9:List PV->List PV->Bool
 |[],[]=>AB
 |x::xs,y::ys=>peq x y&&ya9 xs ys
 |_,_=>AC
end
inductive Ob where
 |lst (xs:List PV)|dct (t:Bool) (kvs:List (PV×PV))|dead|ins (c:Nat) (fs:List (AR×PV))
noncomputable abbrev Env:=List (Option PV)
noncomputable abbrev SO:=List Ob
inductive R(α:Type) where
 |ok (a:α) (st:SO)|exc (c:Nat) (st:SO)|bad
noncomputable def R.bind{α β:Type}(r:R α)(k:α->SO->R β):R β:=
 match r with
 |.ok a st=>k a st
 |.exc c st=>.exc c st
 |.bad=>.bad
inductive BOp where
 |add|sub|mul|fdiv|mod|pow|shl|shr|band|bor|bxor
inductive COp where
 |eq|ne|lt|le|gt|ge|is|isnot|isin|notin
inductive Ty where
 |int|bool|str|tuple|list|cls (c:Nat)|val
inductive Blt where
 |len|int|abs|min|max|tuple|list|all|sum|dict|rev|str|any
inductive Mth where
 |append|extend|get|bits|upper|insert|count|index|join|split|sidx|clear
inductive Tg where
 |n (i:Nat)|t (l:List Nat)
set_option genInjectivity false
mutual
inductive Ce where
 |cst (v:PV)
 |var (i:Nat)
 |bin (o:BOp) (a b:Ce)
 |neg (a:Ce)
 |not (a:Ce)
 |and (a b:Ce)
 |or (a b:Ce)
 |cmp (o:COp) (a b:Ce)
 |chain (o p:COp) (a b c:Ce)
 |ite (c a b:Ce)
 |tup (es:Ces)
 |lst (es:Ces)
 |newl (es:Ces)
 |dict0 (t:Bool)
 |idx (a i:Ce)
 |slc (a:Ce) (lo hi:Ce)
 |call (f:Nat) (args:Ces)
 |blt (b:Blt) (args:Ces)
 |mth (m:Mth) (o:Ce) (args:Ces)
 |isi (a:Ce) (t:List Ty)
 |comp (sl:List (Option Nat)) (tg:Tg) (it:Cit) (c:Ce) (e:Ce)
 |frz (a:Ce)
 |nope
 |dix (D:List (AR×PV)) (a:Ce)
 |din (a:Ce) (D:List (AR×PV))
 |fld (c:Nat) (a:Ce) (f:AR)
 |new (c i:Nat) (es:Ces)
 |mcl (c i:Nat) (m:AR) (o:Ce) (es:Ces)
inductive Ces where
 |nil
 |cons (e:Ce) (es:Ces)
inductive Cit where
 |seq (e:Ce)
 |range1 (a:Ce)
 |range2 (a b:Ce)
 |rangeD (a b:Ce)
 |enum (e:Ce)
 |zip (a b:Ce)
 |revl (e:Ce)
 |revr (a:Ce)
 |chars (e:Ce)
end
set_option genInjectivity true
abbrev Ce.i(n:Int):Ce:=.cst (.int n)
abbrev Ce.s(x:AR):Ce:=.cst (.str x)
abbrev Ce.v:=Ce.var
abbrev Ces.k:=Ces.cons
abbrev Ces.e:=Ces.nil
mutual
inductive Cs where
 |expr (e:Ce)
 |asg (t:Tg) (e:Ce)
 |six (o i e:Ce)
 |dput (o i e:Ce)
 |aug (i:Nat) (o:BOp) (e:Ce)
 |ret (e:Ce)
 |ite (c:Ce) (a b:Css)
 |for (t:Tg) (it:Cit) (b:Css)
 |while (c:Ce) (b:Css)
 |nope
 |sfl (c:Nat) (o:Ce) (f:AR) (e:Ce)
 |mkr (i:Nat) (D:List (AR×Nat)) (n:Ce) (es:Ces)
inductive Css where
 |nil
 |cons (s:Cs) (ss:Css)
end
abbrev Css.k:=Css.cons
abbrev Css.e:=Css.nil
noncomputable def yat(i j:Int):Bool:=(decide (i.natAbs<18446744073709551616)) || (decide (j.natAbs<18446744073709551616))
def binI(o:BOp)(i j:Int):Option PV:=
 match o with
 |.add=>AA (.int (i+j))
 |.sub=>AA (.int (i-j))
 |.mul=>if yat i j then AA (.int (i*j))else AD
 |.fdiv=>if 0<j/\j<10000000000000000000000000000000000000000000000000000000000000000000000 then AA (.int (i/j))else AD
 |.mod=>if 0<j then AA (.int (i%j))else AD
 |.pow=>if 0<=j/\j<=1000000/\i.natAbs<18446744073709551616 then AA (.int (i^j.toNat))else AD
 |.shl=>if 0<=j/\j<=1000000/\i.natAbs<18446744073709551616 then AA (.int (i*2^j.toNat))else AD
 |.shr=>if 0<=j then AA (.int (i/2^j.toNat))else AD
 |.band=>AA (.int (As i j))
 |.bor=>AA (.int (B2 i j))
 |.bxor=>AA (.int (Ay i j))
noncomputable def sizeMax:Nat:=16777216
noncomputable def ydS(k:Bool)(a:List PV)(j:Bool)(b:List PV):PV:=if a.isEmpty then .tp j b else if b.isEmpty then .tp k a else .tup (a++b)
def yq(o:BOp)(x y:PV):Option PV:=
 match x,y with
 |.int i,.int j=>binI o i j
 |.int i,.bl b=>match o with
  |.add=>AA (.int (i+bi b))
  |_=>AD
 |.str a,.str b=>match o with
  |.add=>if a.length+b.length<=sizeMax then AA (.str (a++b))else AD
  |_=>AD
 |.tp k a,.tp j b=>match o with
  |.add=>if a.length+b.length<=sizeMax then AA (ydS k a j b)else AD
  |_=>AD
 |.lst a,.lst b=>match o with
  |.add=>if a.length+b.length<=sizeMax then AA (.lst (a++b))else AD
  |_=>AD
 |_,_=>AD
def ybJ(o:BOp)(x y:PV):Option PV:=
 match x,y with
 |.int i,.int j=>binI o i j
 |_,_=>AD
noncomputable def isNon:PV->Bool
 |.non=>AB
 |_=>AC
def inL(x:PV):List PV->Bool
 |[]=>AC
 |y::ys=>peq y x || inL x ys
noncomputable def inS(a b:AR):Bool:=(CU (b.length+1)).any λi=>decide (i+a.length<=b.length)&&(b.cps.extract i (i+a.length)==a.cps)
noncomputable def ybB(o:COp)(i j:Int):Option PV:=
 match o with
 |.lt=>AA (.bl (decide (i<j)))
 |.le=>AA (.bl (decide (i<=j)))
 |.gt=>AA (.bl (decide (j<i)))
 |.ge=>AA (.bl (decide (j<=i)))
 |_=>AD
noncomputable def ydP(o:COp)(a b:AR):Option PV:=
 match o with
 |.lt=>AA (.bl (decide (a.cps.toList<b.cps.toList)))
 |.le=>AA (.bl (!decide (b.cps.toList<a.cps.toList)))
 |_=>AD
def yw(o:COp)(x y:PV):Option PV:=
 match o with
 |.eq=>if shp x&&shp y then AA (.bl (peq x y))else AD
 |.ne=>if shp x&&shp y then AA (.bl (!peq x y))else AD
 |.is=>match y with
  |.non=>AA (.bl (isNon x))
  |.bl b=>match x with
   |.bl a=>AA (.bl (a==b))
   |_=>AD
  |_=>AD
 |.isnot=>match y with
  |.non=>AA (.bl (!isNon x))
  |.bl b=>match x with
   |.bl a=>AA (.bl (!(a==b)))
   |_=>AD
  |_=>AD
 |.isin=>match x,y with
  |.str a,.str b=>AA (.bl (inS a b))
  |x,.tp _ l=>if flat x&&l.all flat then AA (.bl (inL x l))else AD
  |x,.lst l=>if flat x&&l.all flat then AA (.bl (inL x l))else AD
  |_,_=>AD
 |.notin=>match x,y with
  |.str a,.str b=>AA (.bl (!inS a b))
  |x,.tp _ l=>if flat x&&l.all flat then AA (.bl (!inL x l))else AD
  |x,.lst l=>if flat x&&l.all flat then AA (.bl (!inL x l))else AD
  |_,_=>AD
 |o=>match x,y with
  |.int i,.int j=>ybB o i j
  |.str a,.str b=>ydP o a b
  |_,_=>AD
def yaF(st:SO)(x:PV):Option Bool:=
 match x with
 |.non=>AA AC
 |.bl b=>AA b
 |.int i=>AA (i != 0)
 |.str y=>if y.length<=sizeMax then AA ((y.length:Int) != 0)else AD
 |.tp _ xs=>AA (!xs.isEmpty)
 |.lst xs=>AA (!xs.isEmpty)
 |.loc n=>match st[n]? with
  |some (.lst xs)=>AA (!xs.isEmpty)
  |_=>AD
 |_=>AD
noncomputable def ixI(n:Nat)(i:Int):Option Nat:=if 0<=i then(if i<n then AA i.toNat else AD)else if -(n:Int)<=i then AA (i+n).toNat else AD
def at?{α:Type}(xs:List α)(i:Int):Option α:=(ixI xs.length i).bind λj=>xs[j]?
def look(k:PV):List (PV×PV)->Option PV
 |[]=>AD
 |(a,b)::r=>if peq a k then AA b else look k r
def put(k v:PV)(kvs:List (PV×PV)):List (PV×PV):=
 if (kvs.any λp=>peq p.1 k)=AB then kvs.map (λp=>if peq p.1 k=AB then(p.1,v)else p)else kvs++[(k,v)]
noncomputable def yby:PV->Bool
 |.int _=>AB
 |.str _=>AB
 |_=>AC
def isKey(t:Bool)(k:PV):Bool:=
 match t with
 |false=>yby k
 |true=>match k with
  |.tp AC xs=>xs.all yby
  |_=>AC
noncomputable def yaZ{α:Type}(xs:List α)(i:PV):Option α:=
 match i with
 |.int k=>at? xs k
 |_=>AD
def idxV(st:SO)(x i:PV):Option PV:=
 match x with
 |.tp _ xs=>yaZ xs i
 |.lst xs=>yaZ xs i
 |.str s=>if s.length<=sizeMax then(yaZ s.cps.toList i).map λc=>.str ⟨#[c]⟩else AD
 |.loc n=>match st[n]? with
  |some (.lst xs)=>yaZ xs i
  |_=>AD
 |_=>AD
noncomputable def ybb(n:Nat)(v:Int):Nat:=if v<0 then(v+(n:Int)).toNat else min v.toNat n
def ycp(n:Nat)(lo:Option Int):Nat:=
 match lo with
 |none=>0
 |some i=>ybb n i
def ycN(n:Nat)(hi:Option Int):Nat:=
 match hi with
 |none=>n
 |some i=>ybb n i
def cut{α:Type}(xs:List α)(lo hi:Option Int):List α:=(xs.drop (ycp xs.length lo)).take (ycN xs.length hi-ycp xs.length lo)
noncomputable def ybQ:PV->Option (Option Int)
 |.non=>AA AD
 |.int i=>AA (AA i)
 |_=>AD
def ycm(x:PV)(a b:Option Int):Option PV:=
 match x with
 |.tp k xs=>if ycp xs.length a=0/\ycN xs.length b=xs.length then AA (.tp k xs)else AA (.tup (cut xs a b))
 |.str s=>if s.length<=sizeMax then AA (.str ⟨(cut s.cps.toList a b).toArray⟩)else AD
 |.lst xs=>AA (.lst (cut xs a b))
 |.scr xs=>AA (.lst (cut xs a b))
 |_=>AD
def ycf(x:PV)(a:Option Int)(hi:PV):Option PV:=
 match ybQ hi with
 |some b=>ycm x a b
 |none=>AD
noncomputable def ybo(x:PV)(t:Ty):Bool:=
 match x,t with
 |.int _,.int=>AB
 |.bl _,.int=>AB
 |.bl _,.bool=>AB
 |.str _,.str=>AB
 |.tp _ _,.tuple=>AB
 |.lst _,.list=>AB
 |.exn c,.cls d=>c==d
 |.exn _,.val=>AB
 |_,_=>AC
noncomputable def ydh:Ty->Bool
 |.cls _=>AC
 |.val=>AC
 |_=>AB
def yaD(x:PV)(ts:List Ty):Option PV:=
 match x with
 |.loc _=>AD
 |.scr _=>AD
 |.exn c=>if ts.all ydh then AD else AA (.bl (ts.any (ybo (.exn c))))
 |x=>match ts with
  |[t]=>if ydh t then AA (.bl (ybo x t))else AD
  |_=>AD
noncomputable def allB:List PV->Option Bool
 |[]=>AA AB
 |.bl b::r=>match allB r with
  |some c=>AA (b&&c)
  |none=>AD
 |_::_=>AD
noncomputable def ye7:List PV->Option Int
 |[]=>AA 0
 |.int i::r=>match ye7 r with
  |some c=>AA (i+c)
  |none=>AD
 |_::_=>AD
noncomputable def ydq:List PV->Option Int
 |[]=>AD
 |[.int i]=>AA i
 |.int i::r=>match ydq r with
  |some c=>AA (if i<c then c else i)
  |none=>AD
 |_::_=>AD
noncomputable def ybO(st:SO):PV->Option (List PV)
 |.tp _ xs=>AA xs
 |.lst xs=>AA xs
 |.loc n=>match st[n]? with
  |some (.lst xs)=>AA xs
  |_=>AD
 |_=>AD
noncomputable def yU(st:SO):PV->Option (List PV)
 |.lst xs=>AA xs
 |.loc n=>match st[n]? with
  |some (.lst xs)=>AA xs
  |_=>AD
 |_=>AD
def lenV(st:SO)(x:PV):Option PV:=
 match x with
 |.str s=>if s.length<=sizeMax then AA (.int s.length)else AD
 |x=>(ybO st x).map λxs=>.int xs.length
def ydN(x:PV):Option PV:=
 match x with
 |.int i=>AA (.int i)
 |.bl k=>AA (.int (bi k))
 |_=>AD
noncomputable def yer(x:PV):Option PV:=
 match x with
 |.int i=>AA (.int (if i<0 then -i else i))
 |_=>AD
noncomputable def yeZ(x y:PV):Option PV:=
 match x,y with
 |.int i,.int j=>AA (.int (if j<i then j else i))
 |_,_=>AD
noncomputable def maxV(x y:PV):Option PV:=
 match x,y with
 |.int i,.int j=>AA (.int (if i<j then j else i))
 |_,_=>AD
def yeb(st:SO)(x:PV):Option PV:=
 match x with
 |.tp k xs=>AA (.tp k xs)
 |x=>(yU st x).map .tup
noncomputable def yek:PV->Option PV
 |.tp _ xs=>if xs.isEmpty then AD else AA (.tup xs.reverse)
 |.lst xs=>AA (.lst xs.reverse)
 |_=>AD
noncomputable def anyB:List PV->Option Bool
 |[]=>AA AC
 |.bl b::r=>match anyB r with
  |some c=>AA (b || c)
  |none=>AD
 |_=>AD
noncomputable def anyI:List PV->Option Bool
 |[]=>AA AC
 |.int i::r=>match anyI r with
  |some c=>AA ((i != 0) || c)
  |none=>AD
 |_=>AD
noncomputable def yfA:PV->Option PV
 |.int i=>if i=0 then AA (.str "0")else if i=1 then AA (.str "1")else AD
 |_=>AD
def yah(b:Blt)(st:SO)(vs:List PV):Option PV:=
 match vs with
 |[x]=>match b with
  |.len=>lenV st x
  |.int=>ydN x
  |.abs=>yer x
  |.max=>(yU st x).bind λxs=>(ydq xs).map .int
  |.tuple=>yeb st x
  |.list=>(ybO st x).map .lst
  |.all=>(yU st x).bind λxs=>(allB xs).map .bl
  |.sum=>(yU st x).bind λxs=>(ye7 xs).map .int
  |.rev=>yek x
  |.str=>yfA x
  |.any=>match x with
   |.tp _ xs=>(anyI xs).map .bl
   |x=>(yU st x).bind λxs=>(anyB xs).map .bl
  |_=>AD
 |[x,y]=>match b with
  |.min=>yeZ x y
  |.max=>maxV x y
  |_=>AD
 |_=>AD
noncomputable def ya8(st:SO):PV->Option (Bool×List (PV×PV))
 |.loc n=>match st[n]? with
  |some (.dct t xs)=>AA (t,xs)
  |_=>AD
 |_=>AD
def yaE(m:Mth)(st:SO)(x:PV):Option Bool:=
 match m with
 |.append=>(yU st x).map λ_=>AB
 |.extend=>(yU st x).map λ_=>AB
 |.insert=>(yU st x).map λ_=>AB
 |.count=>(yU st x).map λ_=>AB
 |.index=>(yU st x).map λ_=>AB
 |.get=>(ya8 st x).map λ_=>AB
 |.bits=>match x with
  |.int _=>AA AB
  |_=>AD
 |.upper=>match x with
  |.str _=>AA AB
  |_=>AD
 |.join=>match x with
  |.str _=>AA AB
  |_=>AD
 |.split=>match x with
  |.str _=>AA AB
  |_=>AD
 |.sidx=>match x with
  |.str _=>AA AB
  |_=>AD
 |.clear=>match x with
  |.loc n=>(yU st (.loc n)).map λ_=>AB
  |_=>AD
noncomputable def ydx(st:SO)(o v:PV):R PV:=
 match o with
 |.loc n=>match st[n]? with
  |some (.lst xs)=>if xs.length<1000000 then .ok .non (st.set n (.lst (xs++[v])))else .bad
  |_=>.bad
 |_=>.bad
noncomputable def yfo(st:SO)(o v:PV):R PV:=
 match o with
 |.loc n=>match st[n]? with
  |some (.lst xs)=>match v with
   |.lst ys=>if xs.length+ys.length<=1000000 then .ok .non (st.set n (.lst (xs++ys)))else .bad
   |_=>.bad
  |_=>.bad
 |_=>.bad
noncomputable def ygc(st:SO)(o i v:PV):R PV:=
 match o with
 |.loc n=>match st[n]? with
  |some (.lst xs)=>match i with
   |.int k=>if 0<=k/\k<=xs.length/\xs.length<1000000 then .ok .non (st.set n (.lst (xs.take k.toNat++v::xs.drop k.toNat)))else .bad
   |_=>.bad
  |_=>.bad
 |_=>.bad
def ydz(st:SO)(o k d:PV):R PV:=
 match ya8 st o with
 |some (t,kvs)=>if isKey t k then .ok ((look k kvs).getD d) st else .bad
 |none=>.bad
def ygf(st:SO)(o v:PV):R PV:=
 match yU st o with
 |some xs=>if flat v&&xs.all flat then .ok (.int (xs.countP λy=>peq y v)) st else .bad
 |none=>.bad
def ydf(v:PV):List PV->Option Nat
 |[]=>AD
 |y::ys=>if peq y v then AA 0 else(ydf v ys).map (·+1)
def yga(st:SO)(o v:PV):R PV:=
 match yU st o with
 |some xs=>if flat v&&xs.all flat then(match ydf v xs with
  |some j=>.ok (.int j) st
  |none=>.bad)else .bad
 |none=>.bad
noncomputable def upC(c:Nat):Nat:=if 97<=c/\c<=122 then c-32 else c
def upS(s:AR):Str:=⟨(s.cps.toList.map upC).toArray⟩
noncomputable def ybW(c:Nat):List Nat->List (List Nat)
 |[]=>[[]]
 |x::xs=>if x=c then []::ybW c xs else match ybW c xs with
  |[]=>[[x]]
  |p::ps=>(x::p)::ps
noncomputable def strsOf:List PV->Option (List AR)
 |[]=>AA []
 |.str s::r=>(strsOf r).map (s :: ·)
 |_=>AD
def yew(st:SO)(o v:PV):R PV:=
 match o,yU st v with
 |.str s,AA xs=>match strsOf xs with
  |some ys=>if s.length<=10/\xs.length<=1000/\(ys.all λy=>decide (y.length<=1000))=AB then .ok (.str (Str.join s ys)) st else .bad
  |none=>.bad
 |_,_=>.bad
noncomputable def yfN(st:SO)(o:PV):R PV:=
 match o with
 |.loc n=>match st[n]? with
  |some (.lst _)=>.ok .non (st.set n (.lst []))
  |_=>.bad
 |_=>.bad
noncomputable def yez(st:SO)(o v:PV):R PV:=
 match o,v with
 |.str s,.str y=>if s=AG "01" then(if y=AG "0" then .ok (.int 0) st else if y=AG "1" then .ok (.int 1) st else .bad)else .bad
 |_,_=>.bad
def yc6(st:SO)(o v:PV):R PV:=
 match o,v with
 |.str s,.str y=>match y.cps.toList with
  |[c]=>if s.length<=100000 then .ok (.lst ((ybW c s.cps.toList).map λl=>.str ⟨l.toArray⟩)) st else .bad
  |_=>.bad
 |_,_=>.bad
def yca(m:Mth)(st:SO)(o:PV)(vs:List PV):R PV:=
 match m,vs with
 |.append,[v]=>ydx st o v
 |.extend,[v]=>yfo st o v
 |.insert,[i,v]=>ygc st o i v
 |.get,[k,d]=>ydz st o k d
 |.count,[v]=>ygf st o v
 |.index,[v]=>yga st o v
 |.join,[v]=>yew st o v
 |.split,[v]=>yc6 st o v
 |.sidx,[v]=>yez st o v
 |.clear,[]=>yfN st o
 |.bits,[]=>match o with
  |.int i=>.ok (.int (Builtin.Int.intBits i)) st
  |_=>.bad
 |.upper,[]=>match o with
  |.str s=>if s.cps.toList.all (· < 128)/\s.length<=1000000 then .ok (.str (upS s)) st else .bad
  |_=>.bad
 |_,_=>.bad
noncomputable def toR(o:Option PV)(st:SO):R PV:=
 match o with
 |some v=>.ok v st
 |none=>.bad
noncomputable def yC(t:Tg)(v:PV)(ρ:Env):Option Env:=
 match t,v with
 |.n i,v=>AA (ρ.set i (AA v))
 |.t l,.tp _ xs=>if l.length=xs.length then AA ((l.zip xs).foldl (λρ p=>ρ.set p.1 (AA p.2)) ρ)else AD
 |_,_=>AD
noncomputable def yP:Nat->List PV->List PV
 |_,[]=>[]
 |k,x::xs=>.tup [.int k,x]::yP (k+1) xs
noncomputable def yaL:List PV->List PV->List PV
 |x::xs,y::ys=>.tup [x,y]::yaL xs ys
 |_,_=>[]
noncomputable def yfV:PV->Option (List PV)
 |.tp _ xs=>AA xs.reverse
 |.lst xs=>AA xs.reverse
 |_=>AD
noncomputable def ydr:PV->Option (List PV)
 |.str s=>if s.length<=1000000 then AA (s.cps.toList.map λc=>.str ⟨#[c]⟩)else AD
 |_=>AD
def ydF(x y:PV):Option (List PV):=
 match x,y with
 |.tp _ xs,.tp _ ys=>if xs.length<=ys.length then AA (yaL xs ys)else AD
 |_,_=>AD
noncomputable def yaP(s:AR):List (AR×PV)->Option PV
 |[]=>AD
 |(a,b)::r=>if decide (a=s)then AA b else yaP s r
def ycz(D:List (AR×PV))(x:PV):Option PV:=
 match x with
 |.str s=>yaP s D
 |_=>AD
def yce(D:List (AR×PV))(x:PV):Option PV:=
 match x with
 |.str s=>AA (.bl (yaP s D).isSome)
 |_=>AD
noncomputable def yo:Nat->Int->Int->List PV
 |0,_,_=>[]
 |n+1,a,d=>.int a::yo n (a+d) d
def ybE(x:PV):Option (List PV):=
 match x with
 |.int j=>if j.natAbs<1000000000 then AA (yo j.toNat 0 1)else AD
 |_=>AD
def yfC(x:PV):Option (List PV):=
 match x with
 |.int j=>if 0<=j/\j<1000000000 then AA (yo j.toNat (j-1) (-1))else AD
 |_=>AD
def yfZ(x y:PV):Option (List PV):=
 match x,y with
 |.int i,.int j=>if i.natAbs<1000000000/\j.natAbs<1000000000 then AA (yo (j-i).toNat i 1)else AD
 |_,_=>AD
def yf1(x y:PV):Option (List PV):=
 match x,y with
 |.int i,.int j=>if i.natAbs<1000000000/\j.natAbs<1000000000 then AA (yo (i-j).toNat i (-1))else AD
 |_,_=>AD
noncomputable def toL(o:Option (List PV))(st:SO):R (List PV):=
 match o with
 |some v=>.ok v st
 |none=>.bad
noncomputable def ydb(v:PV)(st:SO):R PV:=
 match v with
 |.loc n=>match st[n]? with
  |some (.lst xs)=>.ok (.lst xs) (st.set n .dead)
  |_=>.bad
 |v=>.ok v st
noncomputable def mkV(D:List (AR×Nat))(b:Bool)(x:PV):Option Nat:=
 match x with
 |.str s=>if b then D.lookup s else AD
 |_=>AD
noncomputable def yaV(c:Nat)(st:SO)(x:PV)(f:AR):Option PV:=
 match x with
 |.loc n=>match st[n]? with
  |some (.ins d fs)=>if d=c then fs.lookup f else AD
  |_=>AD
 |_=>AD
noncomputable def ybD(f:AR)(v:PV):List (AR×PV)->List (AR×PV)
 |[]=>[(f,v)]
 |(g,x)::r=>if g=f then(g,v)::r else(g,x)::ybD f v r
def yaT(c:Nat)(st:SO)(x:PV)(f:AR)(v:PV):Option SO:=
 match x with
 |.loc n=>match st[n]? with
  |some (.ins d fs)=>if d=c/\fs.length<1000 then AA (st.set n (.ins c (ybD f v fs)))else AD
  |_=>AD
 |_=>AD
noncomputable def ybR(c:Nat)(m:AR)(st:SO)(x:PV):Option Bool:=
 match x with
 |.loc n=>match st[n]? with
  |some (.ins d fs)=>if d=c/\fs.lookup m=AD then AA AB else AD
  |_=>AD
 |_=>AD
noncomputable def newV(n:Nat)(v:PV)(st:SO):R PV:=
 match v with
 |.non=>.ok (.loc n) st
 |_=>.bad
noncomputable def ybn(r:R PV):R PV:=
 match r with
 |.ok v st=>.ok v st
 |_=>.bad
inductive Fl where
 |nx (ρ:Env) (st:SO)|rt (v:PV) (st:SO)|bk (ρ:Env) (st:SO)|ct (ρ:Env) (st:SO)|exc (c:Nat) (ρ:Env) (st:SO)|bad
noncomputable def onBl{α:Type}(x:PV)(k:Bool->R α):R α:=
 match x with
 |.bl b=>k b
 |_=>.bad
noncomputable def onO{α:Type}(o:Option Bool)(k:Bool->R α):R α:=
 match o with
 |some b=>k b
 |none=>.bad
noncomputable def onF(o:Option Bool)(k:Bool->Fl):Fl:=
 match o with
 |some b=>k b
 |none=>.bad
noncomputable def onP{α:Type}(o:Option (Option Int))(k:Option Int->R α):R α:=
 match o with
 |some b=>k b
 |none=>.bad
noncomputable def blO(o:Option PV):Option Bool:=
 match o with
 |some (.bl b)=>AA b
 |_=>AD
noncomputable def ybP(o:Option PV)(ys:List PV):List PV:=
 match o with
 |some y=>y::ys
 |none=>ys
def yaM(one:PV->SO->R (Option PV)):List PV->SO->R (List PV)
 |[],st=>.ok [] st
 |x::xs,st=>(one x st).bind λo st1=>(yaM one xs st1).bind λys st2=>.ok (ybP o ys) st2
noncomputable def yb7(r:R (List PV)):R PV:=
 match r with
 |.ok ys st=>if ys.length<=1000000 then .ok (.lst ys) st else .bad
 |_=>.bad
mutual
noncomputable def ev(call:Nat->List PV->SO->R PV)(ρ:Env)(st:SO):Ce->R PV
 |.cst v=>.ok v st
 |.var i=>match ρ[i]? with
  |some (AA v)=>.ok v st
  |_=>.bad
 |.bin o a b=>(ev call ρ st a).bind λx st1=>(ev call ρ st1 b).bind λy st2=>toR (yq o x y) st2
 |.neg a=>(ev call ρ st a).bind λx st1=>match x with
  |.int i=>.ok (.int (-i)) st1
  |_=>.bad
 |.not a=>(ev call ρ st a).bind λx st1=>onBl x λk=>.ok (.bl (!k)) st1
 |.and a b=>(ev call ρ st a).bind λx st1=>onBl x λk=>cond k (ev call ρ st1 b) (.ok (.bl AC) st1)
 |.or a b=>(ev call ρ st a).bind λx st1=>onBl x λk=>cond k (.ok (.bl AB) st1) (ev call ρ st1 b)
 |.cmp o a b=>(ev call ρ st a).bind λx st1=>(ev call ρ st1 b).bind λy st2=>toR (yw o x y) st2
 |.chain o p a b c=>(ev call ρ st a).bind λx st1=>(ev call ρ st1 b).bind λy st2=>onO (blO (yw o x y)) λk=>cond k ((ev call ρ st2 c).bind λz st3=>toR (yw p y z) st3) (.ok (.bl AC) st2)
 |.ite c a b=>(ev call ρ st c).bind λx st1=>onO (yaF st1 x) λk=>cond k (ev call ρ st1 a) (ev call ρ st1 b)
 |.tup es=>(evs call ρ st es).bind λvs st1=>if vs.length<=sizeMax then .ok (.tup vs) st1 else .bad
 |.lst es=>(evs call ρ st es).bind λvs st1=>if vs.length<=sizeMax then .ok (.lst vs) st1 else .bad
 |.newl es=>(evs call ρ st es).bind λvs st1=>if vs.length<=sizeMax then .ok (.loc st1.length) (st1++[.lst vs])else .bad
 |.dict0 t=>.ok (.loc st.length) (st++[.dct t []])
 |.idx a i=>(ev call ρ st a).bind λx st1=>(ev call ρ st1 i).bind λy st2=>toR (idxV st2 x y) st2
 |.slc a l h=>(ev call ρ st a).bind λx st1=>(ev call ρ st1 l).bind λy st2=>onP (ybQ y) λo=>(ev call ρ st2 h).bind λz st3=>toR (ycf x o z) st3
 |.call f es=>(evs call ρ st es).bind λvs st1=>call f vs st1
 |.blt b es=>(evs call ρ st es).bind λvs st1=>toR (yah b st1 vs) st1
 |.mth m o es=>(ev call ρ st o).bind λx st1=>onO (yaE m st1 x) λ_=>(evs call ρ st1 es).bind λvs st2=>yca m st2 x vs
 |.isi a ts=>(ev call ρ st a).bind λx st1=>toR (yaD x ts) st1
 |.comp sl tg it c e=>(evi call ρ st it).bind λxs st1=>
  let ρ0:Env:=sl.map λo=>o.bind λj=>(ρ[j]?).join
  yb7 (yaM (λx st2=>match yC tg x ρ0 with
   |none=>.bad
   |some ρ1=>(ev call ρ1 st2 c).bind λb st3=>onO (yaF st3 b) λk=>cond k ((ev call ρ1 st3 e).bind λy st4=>.ok (AA y) st4) (.ok AD st3)) xs st1)
 |.nope=>.bad
 |.frz a=>(ev call ρ st a).bind λx st1=>ydb x st1
 |.dix D a=>(ev call ρ st a).bind λx st1=>toR (ycz D x) st1
 |.din a D=>(ev call ρ st a).bind λx st1=>toR (yce D x) st1
 |.fld c a f=>(ev call ρ st a).bind λx st1=>toR (yaV c st1 x f) st1
 |.new c i es=>(evs call ρ st es).bind λvs st1=>(ybn (call i (.loc st1.length::vs) (st1++[.ins c []]))).bind λv st2=>newV st1.length v st2
 |.mcl c i m o es=>(ev call ρ st o).bind λx st1=>onO (ybR c m st1 x) λ_=>(evs call ρ st1 es).bind λvs st2=>call i (x::vs) st2
noncomputable def evs(call:Nat->List PV->SO->R PV)(ρ:Env)(st:SO):Ces->R (List PV)
 |.nil=>.ok [] st
 |.cons e es=>(ev call ρ st e).bind λv st1=>(evs call ρ st1 es).bind λvs st2=>.ok (v::vs) st2
noncomputable def evi(call:Nat->List PV->SO->R PV)(ρ:Env)(st:SO):Cit->R (List PV)
 |.seq e=>(ev call ρ st e).bind λv st1=>match v with
  |.tp _ xs=>.ok xs st1
  |.lst xs=>.ok xs st1
  |_=>.bad
 |.range1 a=>(ev call ρ st a).bind λx st1=>toL (ybE x) st1
 |.range2 a b=>(ev call ρ st a).bind λx st1=>(ev call ρ st1 b).bind λy st2=>toL (yfZ x y) st2
 |.rangeD a b=>(ev call ρ st a).bind λx st1=>(ev call ρ st1 b).bind λy st2=>toL (yf1 x y) st2
 |.enum e=>(ev call ρ st e).bind λv st1=>match v with
  |.tp _ xs=>.ok (yP 0 xs) st1
  |_=>.bad
 |.zip a b=>(ev call ρ st a).bind λx st1=>(ev call ρ st1 b).bind λy st2=>toL (ydF x y) st2
 |.revl e=>(ev call ρ st e).bind λv st1=>toL (yfV v) st1
 |.revr a=>(ev call ρ st a).bind λx st1=>toL (yfC x) st1
 |.chars e=>(ev call ρ st e).bind λv st1=>toL (ydr v) st1
end
noncomputable def R.fl{α:Type}(r:R α)(ρ:Env)(k:α->SO->Fl):Fl:=
 match r with
 |.ok a st=>k a st
 |.exc c st=>.exc c ρ st
 |.bad=>.bad
noncomputable def yak(f:Fl)(k:Env->SO->Fl):Fl:=
 match f with
 |.nx ρ st=>k ρ st
 |.ct ρ st=>k ρ st
 |.bk ρ st=>.nx ρ st
 |f=>f
def forL(t:Tg)(body:Env->SO->Fl):List PV->Env->SO->Fl
 |[],ρ,st=>.nx ρ st
 |x::xs,ρ,st=>match yC t x ρ with
  |none=>.bad
  |some ρ1=>yak (body ρ1 st) λρ2 st2=>forL t body xs ρ2 st2
def yal(test:Env->SO->R PV)(body:Env->SO->Fl):Nat->Env->SO->Fl
 |0,_,_=>.bad
 |n+1,ρ,st=>(test ρ st).fl ρ λx st1=>onF (yaF st1 x) λk=>cond k (yak (body ρ st1) λρ2 st2=>yal test body n ρ2 st2) (.nx ρ st1)
def ybp(st:SO)(o i v:PV):Option SO:=
 match o with
 |.loc n=>match st[n]? with
  |some (.lst xs)=>match i with
   |.int k=>match ixI xs.length k with
    |some j=>AA (st.set n (.lst (xs.set j v)))
    |none=>AD
   |_=>AD
  |_=>AD
 |_=>AD
def ya7(st:SO)(o i v:PV):Option SO:=
 match o with
 |.loc n=>match st[n]? with
  |some (.dct t kvs)=>if isKey t i/\kvs.length<1000000 then AA (st.set n (.dct t (put i v kvs)))else AD
  |_=>AD
 |_=>AD
mutual
noncomputable def ex(call:Nat->List PV->SO->R PV)(ρ:Env)(st:SO):Cs->Fl
 |.expr e=>(ev call ρ st e).fl ρ λ_ st1=>.nx ρ st1
 |.asg t e=>(ev call ρ st e).fl ρ λv st1=>match yC t v ρ with
  |some ρ1=>.nx ρ1 st1
  |none=>.bad
 |.six o i e=>(ev call ρ st e).fl ρ λv st1=>(ev call ρ st1 o).fl ρ λx st2=>(ev call ρ st2 i).fl ρ λy st3=>match ybp st3 x y v with
  |some st4=>.nx ρ st4
  |none=>.bad
 |.dput o i e=>(ev call ρ st e).fl ρ λv st1=>(ev call ρ st1 o).fl ρ λx st2=>(ev call ρ st2 i).fl ρ λy st3=>match ya7 st3 x y v with
  |some st4=>.nx ρ st4
  |none=>.bad
 |.aug i o e=>match ρ[i]? with
  |some (AA x)=>(ev call ρ st e).fl ρ λy st1=>match ybJ o x y with
   |some z=>.nx (ρ.set i (AA z)) st1
   |none=>.bad
  |_=>.bad
 |.ret e=>(ev call ρ st e).fl ρ λv st1=>.rt v st1
 |.ite c a b=>(ev call ρ st c).fl ρ λx st1=>onF (yaF st1 x) λk=>cond k (exs call ρ st1 a) (exs call ρ st1 b)
 |.for t it b=>(evi call ρ st it).fl ρ λxs st1=>forL t (λρ2 st2=>exs call ρ2 st2 b) xs ρ st1
 |.while c b=>yal (λρ2 st2=>ev call ρ2 st2 c) (λρ2 st2=>exs call ρ2 st2 b) 100000 ρ st
 |.nope=>.bad
 |.mkr i D n es=>(ev call ρ st n).fl ρ λx st1=>match mkV D (decide (i<ρ.length)) x with
  |some j=>((evs call (ρ.set i AD) st1 es).bind λvs st2=>call j vs st2).fl (ρ.set i AD) λv st3=>.rt v st3
  |none=>.bad
 |.sfl c o f e=>(ev call ρ st e).fl ρ λv st1=>(ev call ρ st1 o).fl ρ λx st2=>match yaT c st2 x f v with
  |some st3=>.nx ρ st3
  |none=>.bad
noncomputable def exs(call:Nat->List PV->SO->R PV)(ρ:Env)(st:SO):Css->Fl
 |.nil=>.nx ρ st
 |.cons s ss=>match ex call ρ st s with
  |.nx ρ1 st1=>exs call ρ1 st1 ss
  |f=>f
end
structure Fn where
 np:Nat
 ns:Nat
 pure:Bool
 body:Css
def yc(T:Nat->Option Fn):Nat->Nat->List PV->SO->R PV
 |0,_,_,_=>.bad
 |k+1,f,args,st=>match T f with
  |none=>.bad
  |some fn=>if args.length=fn.np then
    if fn.pure then
     if nLs args then match exs (yc T k) (args.map AA++Af (fn.ns-fn.np) AD) [] fn.body with
      |.rt v _=>if nL v then .ok v st else .bad
      |.nx _ _=>.ok .non st
      |.exc c _ _=>.exc c st
      |_=>.bad
     else .bad
    else match exs (yc T k) (args.map AA++Af (fn.ns-fn.np) AD) st fn.body with
     |.rt v st1=>.ok v st1
     |.nx _ st1=>.ok .non st1
     |.exc c _ st1=>.exc c st1
     |_=>.bad
   else .bad
noncomputable def yH:List (Sum Ce Int)->Ces
 |[]=>.nil
 |.inl c::r=>.cons c (yH r)
 |.inr i::r=>.cons (.cst (.int i)) (yH r)
noncomputable def yaC:Ces->Ces->Ces
 |.nil,b=>b
 |.cons e r,b=>.cons e (yaC r b)
end IC
namespace L2
open PySem PySem.Spec PyProof.Rows IC
noncomputable abbrev Ph:=List (Option AI)
section
variable (K:AE)(cl:Nat->AI)(B:AI->Prop)(φ:Ph)(H:Hp)
def ybI(k:Bool)(a:AI)(xs:List V):Prop:=(H a=AA (.tup xs)/\¬B a/\AA a∉φ) \/
 k=AB/\∃(o:CA) (its:Array AF) (n:Nat),K.lookup a=AA o/\o.cls=.type "tuple"/\o.data=.seq its n/\its.size<=sizeLine/\Vals xs its.toList
def yco(a:AI)(xs:List V):Prop:=H a=AA (.lst xs)/\¬B a/\AA a∉φ
def ydD(a:AI)(xs:List V):Prop:=(Rd H a (.lst xs)/\¬B a/\AA a∉φ) \/
 ∃(o:CA) (its:Array AF) (n:Nat),K.lookup a=AA o/\o.cls=.type "list"/\o.dict=AD/\o.data=.seq its n/\its.size<=sizeLine/\Vals xs its.toList
mutual
noncomputable def yd:PV->V->Prop
 |.non,x=>x=.non
 |.bl b,x=>x=.bl b
 |.int i,x=>x=.int i
 |.str s,x=>x=.str s
 |.tp k vs,x=>∃a xs,x=.ref a/\ybI K B φ H k a xs/\ye vs xs
 |.lst vs,x=>∃a xs,x=.ref a/\yco B φ H a xs/\ye vs xs
 |.loc n,x=>n<φ.length/\∃a,x=.ref a/\∀b,φ[n]?=AA (AA b)->b=a
 |.exn c,x=>∃a,x=.ref a/\H a=AA (.ext (yfm a (cl c)))/\¬B a/\AA a∉φ
 |.scr vs,x=>∃a xs,x=.ref a/\ydD K B φ H a xs/\ye vs xs
noncomputable def ye:List PV->List V->Prop
 |[],xs=>xs=[]
 |v::vs,xs=>∃y ys,xs=y::ys/\yd v y/\ye vs ys
end
noncomputable def yaz:Key->PV
 |.inl i=>.int i
 |.inr y=>.str y
def DK:List (PV×PV)->List (Key×V)->Prop
 |[],ks=>ks=[]
 |(k,v)::r,ks=>∃q x s,ks=(q,x)::s/\k=yaz q/\yd K cl B φ H v x/\DK r s
def DT:List (PV×PV)->List (List Key×V)->Prop
 |[],ks=>ks=[]
 |(k,v)::r,ks=>∃q x s,ks=(q,x)::s/\k=.tup (q.map yaz)/\yd K cl B φ H v x/\DT r s
def FS:List (AR×PV)->List (AR×V)->Prop
 |[],ks=>ks=[]
 |(k,v)::r,ks=>∃x s,ks=(k,x)::s/\yd K cl B φ H v x/\FS r s
def yb8:Ob->AI->Prop
 |.lst vs,a=>∃xs,H a=AA (.lst xs)/\ye K cl B φ H vs xs
 |.dct AC kvs,a=>∃ks,H a=AA (.dK ks)/\DK K cl B φ H kvs ks
 |.dct AB kvs,a=>∃ks,H a=AA (.dT ks)/\DT K cl B φ H kvs ks
 |.dead,_=>False
 |.ins c fs,a=>∃ks,(∃dx,H a=AA (.ins (cl c) dx ks))/\FS K cl B φ H fs ks
structure yr(st:SO):Prop where
 len:φ.length=st.length
 inj:∀(m n:Nat) (a:AI),φ[m]?=AA (AA a)->φ[n]?=AA (AA a)->m=n
 obj:∀(n:Nat) (a:AI),φ[n]?=AA (AA a)->∃o,st[n]?=AA o/\yb8 K cl B φ H o a
 liv:∀(n:Nat) (o:Ob),st[n]?=AA o->o ≠ .dead->∃a,φ[n]?=AA (AA a)
 nb:∀a,AA a∈φ->¬B a
 dom:∀a,B a->∃o,H a=AA o
structure yG(ρ:IC.Env)(σ:St):Prop where
 len:ρ.length=σ.length
 get:∀(i:Nat) (v:PV),ρ[i]?=AA (AA v)->∃x,σ[i]?=AA (AA x)/\yd K cl B φ H v x
end
structure Step(φ:Ph)(H:Hp)(φ':Ph)(H':Hp):Prop where
 keep:∀b o,AA b∉φ->H b=AA o->H' b=AA o
 len:φ.length<=φ'.length
 pre:∀(n:Nat) (a:AI),n<φ.length->φ'[n]?=AA (AA a)->φ[n]?=AA (AA a)
 new:∀b,AA b∈φ'->AA b∈φ \/ H b=AD
theorem Step.rfl{φ:Ph}{H:Hp}:Step φ H φ H:=⟨λ_ _ _ e=>e,AT _,λ_ _ _ e=>e,λ_ h=>.inl h⟩
theorem Step.trans{φ φ1 φ2:Ph}{H H1 H2:Hp}(s:Step φ H φ1 H1)(t:Step φ1 H1 φ2 H2):Step φ H φ2 H2:=by
 refine⟨λb o n e=>?_,BW s.len t.len,λn a hn e=>s.pre n a hn (t.pre n a (A4 hn s.len) e),λb hb=>?_⟩
 .refine t.keep b o (λh=>?_) (s.keep b o n e);rcases s.new b h with q|q
  .exact n q
  .rw[e]at q;cases q
 .rcases t.new b hb with q|q
  .exact s.new b q
  .by_cases h:AA b∈φ
   .exact .inl h
   .refine .inr ?_
    cases e:H b with
    |none=>exact DI _
    |some o=>rw[s.keep b o h e]at q;cases q
section
variable {K:AE}{cl:Nat->AI}{B:AI->Prop}{φ φ':Ph}{H H':Hp}{st:SO}{ρ:IC.Env}{σ:St}
theorem Rd.step(s:Step φ H φ' H'){a:AI}{u:HO}(n:AA a∉φ)(r:Rd H a u):Rd H' a u/\AA a∉φ':=by
 have h:∃o,H a=AA o:=by
  rcases r with r|⟨o,r⟩<;>exact⟨_,r⟩
 refine⟨?_,λz=>?_⟩
 .rcases r with r|⟨o,r⟩
  .exact .inl (s.keep _ _ n r)
  .exact .inr ⟨o,s.keep _ _ n r⟩
 .let⟨o,e⟩:=h;rcases s.new a z with q|q
  .exact n q
  .rw[e]at q;cases q
theorem ybI.step(s:Step φ H φ' H'){k:Bool}{a:AI}{xs:List V}(r:ybI K B φ H k a xs):ybI K B φ' H' k a xs:=by
 rcases r with⟨r,b,n⟩|r
 .let⟨_,n'⟩:=(Rd.of r).step s n;exact .inl ⟨s.keep _ _ n r,b,n'⟩
 .exact .inr r
theorem yco.step(s:Step φ H φ' H'){a:AI}{xs:List V}(r:yco B φ H a xs):yco B φ' H' a xs:=by
 let⟨r,b,n⟩:=r;let⟨_,n'⟩:=(Rd.of r).step s n;exact⟨s.keep _ _ n r,b,n'⟩
theorem ydD.step(s:Step φ H φ' H'){a:AI}{xs:List V}(r:ydD K B φ H a xs):ydD K B φ' H' a xs:=by
 rcases r with⟨r,b,n⟩|r
 .let⟨r',n'⟩:=r.step s n;exact .inl ⟨r',b,n'⟩
 .exact .inr r
mutual
theorem yd.step(s:Step φ H φ' H'):∀(v:PV) (x:V),yd K cl B φ H v x->yd K cl B φ' H' v x
 |.non,x,h=>by erw[yd]at h ⊢;exact h
 |.bl b,x,h=>by erw[yd]at h ⊢;exact h
 |.int i,x,h=>by erw[yd]at h ⊢;exact h
 |.str y,x,h=>by erw[yd]at h ⊢;exact h
 |.tp k vs,x,h=>by
  erw[yd]at h ⊢;let⟨a,xs,e,r,l⟩:=h;exact⟨a,xs,e,r.step s,ye.step s vs xs l⟩
 |.lst vs,x,h=>by
  erw[yd]at h ⊢;let⟨a,xs,e,r,l⟩:=h;exact⟨a,xs,e,r.step s,ye.step s vs xs l⟩
 |.loc n,x,h=>by
  erw[yd]at h ⊢;let⟨h1,a,e,h2⟩:=h;exact⟨A4 h1 s.len,a,e,λb q=>h2 b (s.pre n b h1 q)⟩
 |.exn c,x,h=>by
  erw[yd]at h ⊢;let⟨a,e,r,b,n⟩:=h;let⟨_,n'⟩:=(Rd.of r).step s n;exact⟨a,e,s.keep _ _ n r,b,n'⟩
 |.scr vs,x,h=>by
  erw[yd]at h ⊢;let⟨a,xs,e,r,l⟩:=h;exact⟨a,xs,e,r.step s,ye.step s vs xs l⟩
theorem ye.step(s:Step φ H φ' H'):∀(v:List PV) (x:List V),ye K cl B φ H v x->ye K cl B φ' H' v x
 |[],x,h=>by erw[ye]at h ⊢;exact h
 |v::vs,x,h=>by
  erw[ye]at h ⊢;let⟨y,ys,e,r,l⟩:=h;exact⟨y,ys,e,yd.step s v y r,ye.step s vs ys l⟩
end
theorem yG.step(s:Step φ H φ' H')(r:yG K cl B φ H ρ σ):yG K cl B φ' H' ρ σ:=⟨r.len,λi v e=>by
 let⟨x,h,q⟩:=r.get i v e;exact⟨x,h,q.step s⟩⟩
mutual
theorem yd.inn(hn:∀a,AA a∈φ->¬B a):∀(v:PV) (x:V),nL v=AB->yd K cl B φ H v x->yd K cl (λa=>B a \/ AA a∈φ) [] H v x
 |.non,x,_,h=>by erw[yd]at h ⊢;exact h
 |.bl b,x,_,h=>by erw[yd]at h ⊢;exact h
 |.int i,x,_,h=>by erw[yd]at h ⊢;exact h
 |.str y,x,_,h=>by erw[yd]at h ⊢;exact h
 |.tp k vs,x,q,h=>by
  erw[yd]at h ⊢;let⟨a,xs,e,r,l⟩:=h;refine⟨a,xs,e,?_,ye.inn hn vs xs (by simpa only[nL] using q) l⟩;rcases r with⟨r,b,n⟩|r
  .exact .inl ⟨r,λz=>z.elim b n,by simp⟩
  .exact .inr r
 |.lst vs,x,q,h=>by
  erw[yd]at h ⊢;let⟨a,xs,e,⟨r,b,n⟩,l⟩:=h;exact⟨a,xs,e,⟨r,λz=>z.elim b n,by simp⟩,ye.inn hn vs xs (by simpa only[nL] using q) l⟩
 |.loc n,x,q,h=>by simp[nL]at q
 |.exn c,x,q,h=>by simp[nL]at q
 |.scr vs,x,q,h=>by
  erw[yd]at h ⊢;let⟨a,xs,e,r,l⟩:=h;refine⟨a,xs,e,?_,ye.inn hn vs xs (by simpa only[nL] using q) l⟩;rcases r with⟨r,b,n⟩|r
  .exact .inl ⟨r,λz=>z.elim b n,by simp⟩
  .exact .inr r
theorem ye.inn(hn:∀a,AA a∈φ->¬B a):∀(v:List PV) (x:List V),nLs v=AB->ye K cl B φ H v x->ye K cl (λa=>B a \/ AA a∈φ) [] H v x
 |[],x,_,h=>by erw[ye]at h ⊢;exact h
 |v::vs,x,q,h=>by
  erw[ye]at h ⊢;erw[nLs,AK]at q;let⟨y,ys,e,r,l⟩:=h;exact⟨y,ys,e,yd.inn hn v y q.1 r,ye.inn hn vs ys q.2 l⟩
end
mutual
theorem yd.out{ψ:Ph}:∀(v:PV) (x:V),nL v=AB->yd K cl (λa=>B a \/ AA a∈φ) ψ H v x->yd K cl B φ H v x
 |.non,x,_,h=>by erw[yd]at h ⊢;exact h
 |.bl b,x,_,h=>by erw[yd]at h ⊢;exact h
 |.int i,x,_,h=>by erw[yd]at h ⊢;exact h
 |.str y,x,_,h=>by erw[yd]at h ⊢;exact h
 |.tp k vs,x,q,h=>by
  erw[yd]at h ⊢;let⟨a,xs,e,r,l⟩:=h;refine⟨a,xs,e,?_,ye.out vs xs (by simpa only[nL] using q) l⟩;rcases r with⟨r,b,n⟩|r
  .exact .inl ⟨r,λz=>b (.inl z),λz=>b (.inr z)⟩
  .exact .inr r
 |.lst vs,x,q,h=>by
  erw[yd]at h ⊢;let⟨a,xs,e,⟨r,b,n⟩,l⟩:=h;exact⟨a,xs,e,⟨r,λz=>b (.inl z),λz=>b (.inr z)⟩,ye.out vs xs (by simpa only[nL] using q) l⟩
 |.loc n,x,q,h=>by simp[nL]at q
 |.exn c,x,q,h=>by simp[nL]at q
 |.scr vs,x,q,h=>by
  erw[yd]at h ⊢;let⟨a,xs,e,r,l⟩:=h;refine⟨a,xs,e,?_,ye.out vs xs (by simpa only[nL] using q) l⟩;rcases r with⟨r,b,n⟩|r
  .exact .inl ⟨r,λz=>b (.inl z),λz=>b (.inr z)⟩
  .exact .inr r
theorem ye.out{ψ:Ph}:∀(v:List PV) (x:List V),nLs v=AB->ye K cl (λa=>B a \/ AA a∈φ) ψ H v x->ye K cl B φ H v x
 |[],x,_,h=>by erw[ye]at h ⊢;exact h
 |v::vs,x,q,h=>by
  erw[ye]at h ⊢;erw[nLs,AK]at q;let⟨y,ys,e,r,l⟩:=h;exact⟨y,ys,e,yd.out v y q.1 r,ye.out vs ys q.2 l⟩
end
theorem ye.length:∀{v:List PV} {x:List V},ye K cl B φ H v x->v.length=x.length
 |[],x,h=>by erw[ye]at h;subst h;rfl
 |v::vs,x,h=>by
  erw[ye]at h;let⟨y,ys,rfl,_,l⟩:=h;simp[ye.length l]
theorem DK.step(s:Step φ H φ' H'):∀{kvs:List (PV×PV)} {ks:List (Key×V)},DK K cl B φ H kvs ks->DK K cl B φ' H' kvs ks
 |[],ks,h=>h
 |(k,v)::r,ks,h=>by
  let⟨q,x,t,e,m,rv,l⟩:=h;exact⟨q,x,t,e,m,rv.step s,DK.step s l⟩
theorem DT.step(s:Step φ H φ' H'):∀{kvs:List (PV×PV)} {ks:List (List Key×V)},DT K cl B φ H kvs ks->DT K cl B φ' H' kvs ks
 |[],ks,h=>h
 |(k,v)::r,ks,h=>by
  let⟨q,x,t,e,m,rv,l⟩:=h;exact⟨q,x,t,e,m,rv.step s,DT.step s l⟩
theorem FS.step(s:Step φ H φ' H'):∀{kvs:List (AR×PV)} {ks:List (AR×V)},FS K cl B φ H kvs ks->FS K cl B φ' H' kvs ks
 |[],ks,h=>h
 |(k,v)::r,ks,h=>by
  let⟨x,t,e,rv,l⟩:=h;exact⟨x,t,e,rv.step s,FS.step s l⟩
theorem yb8.step(s:Step φ H φ' H'){o:Ob}{a:AI}(e:H' a=H a)(r:yb8 K cl B φ H o a):yb8 K cl B φ' H' o a:=by
 cases o with
 |lst vs=>
  let⟨xs,q,l⟩:=r;exact⟨xs,e.trans q,l.step s⟩
 |dct t kvs=>
  cases t with
  |false=>let⟨ks,q,l⟩:=r;exact⟨ks,e.trans q,l.step s⟩
  |true=>let⟨ks,q,l⟩:=r;exact⟨ks,e.trans q,l.step s⟩
 |dead=>exact r
 |ins c fs=>let⟨ks,⟨dx,q⟩,l⟩:=r;exact⟨ks,⟨dx,e.trans q⟩,l.step s⟩
theorem yb8.there{o:Ob}{a:AI}(r:yb8 K cl B φ H o a):∃u,H a=AA u:=by
 cases o with
 |lst vs=>let⟨xs,q,l⟩:=r;exact⟨_,q⟩
 |dct t kvs=>cases t<;>(let⟨ks,q,l⟩:=r;exact⟨_,q⟩)
 |dead=>exact r.elim
 |ins c fs=>let⟨ks,⟨dx,q⟩,l⟩:=r;exact⟨_,q⟩
theorem yr.there(S:yr K cl B φ H st){a:AI}(h:AA a∈φ):∃u,H a=AA u:=by
 let⟨n,e⟩:=DQ.mp h;let⟨o,_,r⟩:=S.obj n a e;exact r.there
theorem Step.upd{p:AI}{o:HO}(hp:H p=AD):Step φ H φ (upd H p o):=
 ⟨λb u n e=>by rw[zh (zm e hp)];exact e,AT _,λ_ _ _ e=>e,λ_ h=>.inl h⟩
theorem yr.same(S:yr K cl B φ H st)(k:∀b o,H b=AA o->H' b=AA o):yr K cl B φ H' st:=by
 have s:Step φ H φ H':=⟨λb o _ e=>k b o e,AT _,λ_ _ _ e=>e,λ_ h=>.inl h⟩;refine⟨S.len,S.inj,λn a e=>?_,S.liv,S.nb,λa h=>?_⟩
 .let⟨o,q,r⟩:=S.obj n a e;let⟨u,z⟩:=r.there;exact⟨o,q,r.step s ((k a u z).trans z.symm)⟩
 .let⟨o,q⟩:=S.dom a h;exact⟨o,k a o q⟩
theorem yr.upd{p:AI}{o:HO}(S:yr K cl B φ H st)(hp:H p=AD):yr K cl B φ (upd H p o) st:=S.same λb u e=>by rw[zh (zm e hp)];exact e
mutual
theorem yd.moreB{B':AI->Prop}(hn:∀y,B' y->B y \/ H y=AD):∀(v:PV) (x:V),yd K cl B φ H v x->yd K cl B' φ H v x
 |.non,x,h=>by erw[yd]at h ⊢;exact h
 |.bl b,x,h=>by erw[yd]at h ⊢;exact h
 |.int i,x,h=>by erw[yd]at h ⊢;exact h
 |.str y,x,h=>by erw[yd]at h ⊢;exact h
 |.tp k vs,x,h=>by
  erw[yd]at h ⊢;let⟨y,xs,e,r,l⟩:=h;refine⟨y,xs,e,?_,ye.moreB hn vs xs l⟩;rcases r with⟨r,b,n⟩|r
  .exact .inl ⟨r,λz=>(hn y z).elim b λq=>(by rw[q]at r;cases r),n⟩
  .exact .inr r
 |.lst vs,x,h=>by
  erw[yd]at h ⊢;let⟨y,xs,e,⟨r,b,n⟩,l⟩:=h;exact⟨y,xs,e,⟨r,λz=>(hn y z).elim b λq=>(by rw[q]at r;cases r),n⟩,ye.moreB hn vs xs l⟩
 |.loc n,x,h=>by erw[yd]at h ⊢;exact h
 |.exn c,x,h=>by
  erw[yd]at h ⊢;let⟨y,e,r,b,n⟩:=h;exact⟨y,e,r,λz=>(hn y z).elim b λq=>(by rw[q]at r;cases r),n⟩
 |.scr vs,x,h=>by
  erw[yd]at h ⊢;let⟨y,xs,e,r,l⟩:=h;refine⟨y,xs,e,?_,ye.moreB hn vs xs l⟩;rcases r with⟨r,b,n⟩|r
  .refine .inl ⟨r,λz=>(hn y z).elim b λq=>?_,n⟩;rcases r with r|⟨o,r⟩<;>(rw[q]at r;cases r)
  .exact .inr r
theorem ye.moreB{B':AI->Prop}(hn:∀y,B' y->B y \/ H y=AD):∀(v:List PV) (x:List V),ye K cl B φ H v x->ye K cl B' φ H v x
 |[],x,h=>by erw[ye]at h ⊢;exact h
 |v::vs,x,h=>by
  erw[ye]at h ⊢;let⟨y,ys,e,r,l⟩:=h;exact⟨y,ys,e,yd.moreB hn v y r,ye.moreB hn vs ys l⟩
end
end
end L2
namespace L2
open PySem PySem.Spec PyProof.Rows
def CXH(X:Cx)(H:Hp)(s:AJ)(E:XK)(e:AF)(s':AJ):Prop:=
 ∃(C a:AI) (cls a0 fl:AF) (H':Hp) (B:Az),X.s₀.heap.objs.size<=C/\e=.ref a/\s'.os=s.os/\DX s'.gens /\
  (B.StaysIn s'.heap/\B.get? a=AD/\s'.heap.FunFrames B X.stack/\s'.heap.TracedAtW B a cls a0 fl)/\HOk X.prog X.w H' s'.heap/\Un (frs X.stack) [C] H H' s.heap s'.heap /\
  (∀b o,s.heap.get? b=AA o->H b=AD->b∉frs X.stack->b≠C->B.get? b=AA o)/\(∀b u,H' b=AA u->∃o,B.get? b=AA o)/\(∀b o,s.heap.get? b=AA o->b∉frs X.stack->b≠C->∃o',B.get? b=AA o')/\E cls AD H'
theorem CXH.mono{X:Cx}{H:Hp}{s:AJ}{E E':XK}{e:AF}{s':AJ}(h:CXH X H s E e s')(n:∀cls H',E cls AD H'->E' cls AD H'):CXH X H s E' e s':=by
 let⟨C,a,cls,a0,fl,H',B,r1,r2,r3,r4,r5,r6,r7,r8,r9,r10,r11⟩:=h;exact⟨C,a,cls,a0,fl,H',B,r1,r2,r3,r4,r5,r6,r7,r8,r9,r10,n _ _ r11⟩
section
variable {M:Model}{A:Ao}{E:AF->AJ->Prop}{s:AJ}
theorem ze0{base:Az}{env:Env}{outer:List Env}{L e:AI}{cls a0 fl:AF}{Q:Unit->AJ->Prop}
  (hfr:A.frames=AA (env::outer)) (hf:env.frame=AA L) (f1:base.StaysIn s.heap) (f2:base.get? e=AD) (f3:s.heap.FunFrames base (env::outer)) (f4:s.heap.TracedAtW base e cls a0 fl)
  (hQ:∀h',Gv base outer e cls a0 h'->s.heap.UpToSlots h'->Q () {s with heap:=h'}):A1 M A («leaving» env (.ref e)) Q E s:=by
 by_cases hfl:fl=rawInt L
 .subst hfl;unfold «leaving»;refine AH (wpAny_noteFrame_againW hf f4 ?_);refine wpAny_landsW ⟨f1,f2,f3,f4⟩ λh' hfl up=>?_;let⟨k1,k2,⟨_,_,k3⟩,k4⟩:=hfl;exact hQ h' ⟨k1,k2,k3,k4⟩ up
 .let⟨oe,vs,T,oT,ts,he,⟨hcls,h0⟩,hd,h1,hnT,hTe,hT,hdT,h3⟩:=f4;subst hcls;unfold «leaving» noteFrame;erw[hf];refine AH (AH (BU he hd h1 ?_));rw[if_pos (show (Ah T != CH)=AB from by simp)];refine AH (BU hT hdT h3 ?_);rw[if_neg (show ¬((fl==rawInt L)=AB)from λz=>hfl (eq_of_beq z))];refine AH (FF hT hdT (EA.mp h3).1 ?_);have other:∀b,b≠T->(s.heap.update T (Obj.mapFields (·.setIfInBounds 3 CH))).get? b=s.heap.get? b:=λb hb=>DF _ _ (BK hb);have noRecord:∀b o,s.heap.get? b=AA o->(∀vs,o.data ≠ .fields vs)->b≠T:=λb o hb hnf q=>by
   rw[q,hT]at hb;injection hb with hb;subst hb;exact hnf ts hdT
  refine wpAny_newEntryW hfr (f3.of_keeps λb o hb hnf=>⟨o,(other b (noRecord b o hb hnf)).trans hb,rfl⟩) hf ((other e (BK hTe)).trans he)
   (λb o hbo=>(other b λq=>by rw[q,hnT]at hbo;cases hbo).trans (f1 b o hbo)) f2 hd (EA.mp h1).1 h0
   λh' ⟨x1,⟨_,_,x2⟩,x3,x4⟩=>hQ h' ⟨x1,f2,x2,x3⟩ λb o hb hnf=>x4 b o ((other b (noRecord b o hb hnf)).trans hb) hnf
end
section
variable {P:A5}{w:Ai}{K:AE}{mg:AR->Option AF}{base:Az}{N:List AR}{qual:AR}{scope:Bl}{f:AI}{cd:AF}{A:Ao}{outer:List Env}{s₀:AJ}{H₀:Hp}{E:XK}
theorem yed{pins:List (AI×CA)}{σ:St}{H:Hp}{s:AJ}{e:AF}{s':AJ}(I:Inv (yaQ (CX1 P w) P w K mg base N qual scope f cd A outer s₀ H₀ E) pins σ H s)(h:CXH (yaQ (CX1 P w) P w K mg base N qual scope f cd A outer s₀ H₀ E) H s E e s'):
  (yaQ (CX1 P w) P w K mg base N qual scope f cd A outer s₀ H₀ E).xe e s':=by
 let⟨C,a,cls,a0,fl,H',B,hC,rfl,os,bare,⟨f1,f2,f3,f4⟩,hok,un,hB,tr,hT,hE⟩:=h;have bse:Un (frs outer) [] H₀ H s₀.heap s.heap:=I.base;have lt:∀b o,s₀.heap.get? b=AA o->b≠s₀.heap.objs.size:=λb o q=>Aj (AW q);have neC:∀b o,s₀.heap.get? b=AA o->b≠C:=λb o q=>Aj (A4 (AW q) hC);have niC:∀b o,s₀.heap.get? b=AA o->b∉[C]:=λb o q z=>neC b o q (by simpa using z);have hst:∀b,b∈frs (envOfC qual scope s₀.heap.objs.size f cd::outer)->b=s₀.heap.objs.size \/ b∈frs outer:=λb hb=>by
  have hb':b∈s₀.heap.objs.size::frs outer:=hb;exact A3.mp hb'
 have un':Un (frs (envOfC qual scope s₀.heap.objs.size f cd::outer)) [C] H H' s.heap s'.heap:=un;have kB:∀b o,s₀.heap.get? b=AA o->H₀ b=AD->b∉frs outer->B.get? b=AA o:=λb o q n hb=>hB b o (bse.keep b o q n hb (by simp)) (bse.free b o q n (by simp)) (λz=>by
  rcases hst b z with z|z
  .exact lt b o q z
  .exact hb z) (neC b o q)
 have kT:∀b o,s₀.heap.get? b=AA o->b∉frs outer->∃o',B.get? b=AA o':=λb o q hb=>by
  let⟨o',q1⟩:=bse.there b o q (by simp);refine hT b o' q1 (λz=>?_) (neC b o q);rcases hst b z with z|z
  .exact lt b o q z
  .exact hb z
 refine ze0 I.ok.frames rfl f1 f2 f3 f4 λh'' fl' up=>?_;refine⟨a,cls,a0,H',B,rfl,os.trans I.os,bare,fl',HOk.inB hok f1 fl'.1 tr,⟨λb o q n hb _=>fl'.1 b o (kB b o q n hb),λb o q n hb _=>?_,λb o q n _=>?_,λb o q _=>?_,λb xs q=>un'.tups b xs (bse.tups b xs q),λb o u q=>un'.frzs b o u (bse.frzs b o u q),λb ps q=>?_⟩,kB,tr,kT,hE⟩
 .let⟨sl,q1⟩:=bse.slot b o q n hb (by simp);have n1:=bse.free b o q n (by simp);let⟨sl1,q2⟩:=un'.slot b _ q1 n1 (AY _ hb) (niC b o q);let⟨_,o',ho',hd⟩:=CL f3 (show b∈DH (λ(z:Env)=>z.frame) _ from AY _ hb);let⟨sl',q3⟩:=up b _ q2 (by rw[ho']at q2;cases q2;exact hd);exact⟨sl',q3⟩
 .let⟨o',q1⟩:=bse.there b o q (by simp);exact un'.free b o' q1 (bse.free b o q n (by simp)) (niC b o q)
 .let⟨o',q1⟩:=bse.there b o q (by simp);let⟨o2,q2⟩:=un'.there b o' q1 (niC b o q)
  by_cases hb:b∈frs outer
  .let⟨_,o3,ho3,hd⟩:=CL f3 (show b∈DH (λ(z:Env)=>z.frame) _ from AY _ hb);let⟨sl',q3⟩:=up b _ ho3 hd;exact⟨_,q3⟩
  .let⟨o4,q4⟩:=kT b o q hb;exact⟨o4,fl'.1 b o4 q4⟩
 .let⟨m1,e1⟩:=bse.tbls b ps q;let⟨m2,e2⟩:=un'.tbls b _ e1;exact⟨m1++m2,by rw[e2,Dq]⟩
end
section
variable {pg:A5}{wd:Ai}{A:Ao}{R:G8->AJ->Prop}{s:AJ}
end
section
variable {X:Cx}{sc:Bl}{NC:List AR}{slots:List (Option Nat)}{elt tg iter:AU}{ifs:List AU}{pos:CP}{g:TG}{ti:TT}{te:CI->TE}{E:XK}
end
end L2
namespace L2
open PySem PySem.Spec PyProof.Rows IC
structure Se where
 cl:Nat->AI
 call:Nat->List PV->SO->R PV
 may:Bool
section
variable (S:Se)(X:Cx)
def ExcAt(σ:St)(B:AI->Prop)(φ:Ph)(H:Hp)(k:Nat)(st':SO)(e:AF)(s':AJ):Prop:=
 (∃pins H1 s φ1,Inv X pins σ H1 s/\Step φ H φ1 H1/\CX1 X.prog X.w X.stack H1 s (λcls _ H'=>cls=.ref (S.cl k)/\∃φ',Step φ1 H1 φ' H'/\yr X.K S.cl B φ' H' st') e s') \/
 (S.may=AB/\∃pins H1 s φ1 h' e0 vs,Inv X pins σ H1 s/\Step φ H φ1 H1/\yr X.K S.cl B φ1 H1 st'/\Gd s.heap h' e0 (.ref (S.cl k)) vs/\e=.ref e0/\s'={s with heap:=h'}) \/
 (S.may=AB/\∃pins H1 s,Inv X pins σ H1 s/\CXH X H1 s (λcls _ H'=>cls=.ref (S.cl k)/\∃φ',Step φ H φ' H'/\yr X.K S.cl B φ' H' st') e s')
def Run{α β:Type}(σ:St)(B:AI->Prop)(φ:Ph)(H:Hp)(Rel:Ph->Hp->α->β->Prop)(r:R α)(Q:β->Hp->Prop):Prop:=
 match r with
 |.ok v st'=>∀x H' φ',Step φ H φ' H'->yr X.K S.cl B φ' H' st'->Rel φ' H' v x->Q x H'
 |.exc k st'=>∀e s',ExcAt S X σ B φ H k st' e s'->X.xe e s'
 |.bad=>False
abbrev RV(B:AI->Prop):Ph->Hp->PV->V->Prop:=λφ H=>yd X.K S.cl B φ H
abbrev RL(B:AI->Prop):Ph->Hp->List PV->List V->Prop:=λφ H=>ye X.K S.cl B φ H
noncomputable abbrev RB:Ph->Hp->Bool->Bool->Prop:=λ_ _ b c=>b=c
def tE(c:Ce):TE:=λσ H Q=>∃B φ st ρ,yr X.K S.cl B φ H st/\yG X.K S.cl B φ H ρ σ/\Run S X σ B φ H (RV S X B) (ev S.call ρ st c) Q
def tAs(c:Ces):TA:=λσ H Q=>∃B φ st ρ,yr X.K S.cl B φ H st/\yG X.K S.cl B φ H ρ σ/\Run S X σ B φ H (RL S X B) (evs S.call ρ st c) Q
def ya1(r:R PV):R Bool:=r.bind λx st=>onO (yaF st x) λb=>.ok b st
def tTs(c:Ce):TT:=λσ H Q=>∃B φ st ρ,yr X.K S.cl B φ H st/\yG X.K S.cl B φ H ρ σ/\Run S X σ B φ H RB (ya1 (ev S.call ρ st c)) Q
end
section
variable {S:Se}{X:Cx}{σ:St}{B:AI->Prop}{φ φ1:Ph}{H H1:Hp}
theorem ExcAt.back{k:Nat}{st':SO}{e:AF}{s':AJ}(s:Step φ H φ1 H1)(h:ExcAt S X σ B φ1 H1 k st' e s'):ExcAt S X σ B φ H k st' e s':=by
 rcases h with⟨pins,H2,t,φ2,I,q,c⟩|⟨m,pins,H2,t,φ2,h',e0,vs,I,q,c⟩|⟨m,pins,H2,t,I,c⟩
 .exact .inl ⟨pins,H2,t,φ2,I,s.trans q,c⟩
 .exact .inr (.inl ⟨m,pins,H2,t,φ2,h',e0,vs,I,s.trans q,c⟩)
 .exact .inr (.inr ⟨m,pins,H2,t,I,c.mono λcls H' ⟨e1,φ',s2,r⟩=>⟨e1,φ',s.trans s2,r⟩⟩)
variable {α β γ δ:Type}{Rel:Ph->Hp->α->β->Prop}{Gw:Ph->Hp->γ->δ->Prop}
theorem Run.on{r:R α}{Q:β->Hp->Prop}(s:Step φ H φ1 H1)(h:Run S X σ B φ H Rel r Q):Run S X σ B φ1 H1 Rel r Q:=by
 cases r with
 |ok v st'=>exact λx H' φ' t=>h x H' φ' (s.trans t)
 |exc k st'=>exact λe s' x=>h e s' (x.back s)
 |bad=>exact h
theorem Run.mono{r:R α}{Q Q':β->Hp->Prop}(h:Run S X σ B φ H Rel r Q)(k:∀x H',Q x H'->Q' x H'):Run S X σ B φ H Rel r Q':=by
 cases r with
 |ok v st'=>exact λx H' φ' t rs rv=>k x H' (h x H' φ' t rs rv)
 |exc c st'=>exact h
 |bad=>exact h
theorem Run.bind{r:R α}{k:α->SO->R γ}{Q:δ->Hp->Prop}(h:Run S X σ B φ H Gw (r.bind k) Q):
  Run S X σ B φ H Rel r λx H1=>∃v st1 φ1,Step φ H φ1 H1/\yr X.K S.cl B φ1 H1 st1/\Rel φ1 H1 v x/\Run S X σ B φ1 H1 Gw (k v st1) Q:=by
 cases r with
 |ok v st'=>exact λx H' φ' t rs rv=>⟨v,st',φ',t,rs,rv,Run.on t h⟩
 |exc c st'=>exact h
 |bad=>exact h
theorem Run.ok{v:α}{st:SO}{Q:β->Hp->Prop}(h:Run S X σ B φ H Rel (.ok v st) Q)(rs:yr X.K S.cl B φ H st){x:β}(rv:Rel φ H v x):Q x H:=h x H φ .rfl rs rv
theorem PE.imp{e:AU}{t t':TE}(h:PE X e t')(k:∀σ H Q,t σ H Q->t' σ H Q):PE X e t:=λpins s σ H Q I q=>h pins s σ H Q I (k σ H Q q)
theorem PT.imp{e:AU}{t t':TT}(h:PT X e t')(k:∀σ H Q,t σ H Q->t' σ H Q):PT X e t:=λpins s σ H Q I q=>h pins s σ H Q I (k σ H Q q)
theorem PW.imp{e:AU}{t t':TT}(h:PW X e t')(k:∀σ H Q,t σ H Q->t' σ H Q):PW X e t:=λwh pins s σ H Q I q=>h wh pins s σ H Q I (k σ H Q q)
theorem PA.imp{e:List AU}{t t':TA}(h:PA X e t')(k:∀σ H Q,t σ H Q->t' σ H Q):PA X e t:=λpos pins s σ H Q I q=>h pos pins s σ H Q I (k σ H Q q)
theorem tE.bind{c:Ce}{ρ:IC.Env}{st:SO}{k:PV->SO->R γ}{Q:δ->Hp->Prop}{P:V->Hp->Prop}(rs:yr X.K S.cl B φ H st)(re:yG X.K S.cl B φ H ρ σ)(h:Run S X σ B φ H Gw ((ev S.call ρ st c).bind k) Q)
  (n:∀x H1 v st1 φ1,Step φ H φ1 H1->yr X.K S.cl B φ1 H1 st1->yG X.K S.cl B φ1 H1 ρ σ->yd X.K S.cl B φ1 H1 v x->Run S X σ B φ1 H1 Gw (k v st1) Q->P x H1):tE S X c σ H P:=
 ⟨B,φ,st,ρ,rs,re,(Run.bind h).mono λx H1 ⟨v,st1,φ1,s,rs1,rv,h1⟩=>n x H1 v st1 φ1 s rs1 (re.step s) rv h1⟩
theorem tAs.bind{c:Ces}{ρ:IC.Env}{st:SO}{k:List PV->SO->R γ}{Q:δ->Hp->Prop}{P:List V->Hp->Prop}(rs:yr X.K S.cl B φ H st)(re:yG X.K S.cl B φ H ρ σ)(h:Run S X σ B φ H Gw ((evs S.call ρ st c).bind k) Q)
  (n:∀x H1 v st1 φ1,Step φ H φ1 H1->yr X.K S.cl B φ1 H1 st1->yG X.K S.cl B φ1 H1 ρ σ->ye X.K S.cl B φ1 H1 v x->Run S X σ B φ1 H1 Gw (k v st1) Q->P x H1):tAs S X c σ H P:=
 ⟨B,φ,st,ρ,rs,re,(Run.bind h).mono λx H1 ⟨v,st1,φ1,s,rs1,rv,h1⟩=>n x H1 v st1 φ1 s rs1 (re.step s) rv h1⟩
variable {i:Int}{b:Bool}{x:AR}{j:Nat}{pos:CP}{e a a':AU}{c ca cb cc:Ce}
theorem zjP:PE X (.Constant (.int i) j pos) (tE S X (.cst (.int i))):=ydc.imp λσ H Q ⟨B,φ,st,ρ,rs,re,h⟩=>by
 erw[ev]at h;exact h.ok rs (by erw[yd])
theorem zoh:PE X (.Constant (.bool b) j pos) (tE S X (.cst (.bl b))):=ydM.imp λσ H Q ⟨B,φ,st,ρ,rs,re,h⟩=>by
 erw[ev]at h;exact h.ok rs (by erw[yd])
theorem zmM:PE X (.Constant .none j pos) (tE S X (.cst .non)):=ydt.imp λσ H Q ⟨B,φ,st,ρ,rs,re,h⟩=>by
 erw[ev]at h;exact h.ok rs (by erw[yd])
theorem zm6:PE X (.Constant (.str x) j pos) (tE S X (.cst (.str x))):=yc0.imp λσ H Q ⟨B,φ,st,ρ,rs,re,h⟩=>by
 erw[ev]at h;exact h.ok rs (by erw[yd])
theorem znR{i:Nat}(hN:X.N[i]?=AA x)(hv:Vis X.env.scope x)(hd:(x==("__debug__":AR))=false:=by decide)(hcd:(x==("__classdict__":AR))=false:=by decide):PE X (.Name x pos) (tE S X (.var i)):=
 (zj2 hN hv hd hcd).imp λσ H Q ⟨B,φ,st,ρ,rs,re,h⟩=>by
  erw[ev]at h
  cases q:ρ[i]? with
  |none=>rw[q]at h;exact h.elim
  |some o=>
   cases o with
   |none=>rw[q]at h;exact h.elim
   |some v=>
    rw[q]at h;let⟨y,hy,rv⟩:=re.get i v q;exact⟨y,hy,h.ok rs rv⟩
theorem zkL{v:PV}{y:AI}(hg:Gl X x)(hm:X.mg x=AA (.ref y))(hk:∀B φ H,yd X.K S.cl B φ H v (.ref y))(hd:(x==("__debug__":AR))=false:=by decide):PE X (.Name x pos) (tE S X (.cst v)):=
 (zcO hg hm (show RelV (.ref y) (.ref y)from rfl) hd).imp λσ H Q ⟨B,φ,st,ρ,rs,re,h⟩=>by
  erw[ev]at h;exact h.ok rs (hk B φ H)
theorem zab{o:Option PV}{st:SO}{Q:VK}(h:Run S X σ B φ H (RV S X B) (toR o st) Q)(rs:yr X.K S.cl B φ H st):∃z,o=AA z/\∀z' H' φ',Step φ H φ' H'->yr X.K S.cl B φ' H' st->yd X.K S.cl B φ' H' z z'->Q z' H':=by
 cases o with
 |none=>exact h.elim
 |some z=>exact⟨z,rfl,h⟩
def rT2(S:Se)(X:Cx)(f:PV->PV->Option PV):R2:=λx y H Q=>∃B φ st v w z,yr X.K S.cl B φ H st/\yd X.K S.cl B φ H v x/\yd X.K S.cl B φ H w y/\f v w=AA z /\
 ∀z' H' φ',Step φ H φ' H'->yr X.K S.cl B φ' H' st->yd X.K S.cl B φ' H' z z'->Q z' H'
theorem zl5{op:D1}{o:BOp}(ho:OpR X (binaryOp op) (rT2 S X (yq o)))(ha:PE X a (tE S X ca))(hb:PE X a' (tE S X cb)):PE X (.BinOp a op a' pos) (tE S X (.bin o ca cb)):=
 (zof ho ha hb).imp λσ H Q ⟨B,φ,st,ρ,rs,re,h⟩=>by
  erw[ev]at h;refine tE.bind rs re h λx H1 v st1 φ1 s1 rs1 re1 rv h1=>tE.bind rs1 re1 h1 λy H2 w st2 φ2 s2 rs2 re2 rw h2=>?_;let⟨z,e,q⟩:=zab h2 rs2;exact⟨B,φ2,st2,v,w,z,rs2,rv.step s2,rw,e,q⟩
theorem zm2{op:FX}{o:COp}(ho:OpR X (compareOp op) (rT2 S X (yw o)))(ha:PE X a (tE S X ca))(hb:PE X a' (tE S X cb))(hm:behindInMarks op a'=AC):PE X (.Compare a [op] [a'] pos) (tE S X (.cmp o ca cb)):=
 (zgr ho ha hb hm).imp λσ H Q ⟨B,φ,st,ρ,rs,re,h⟩=>by
  erw[ev]at h;refine tE.bind rs re h λx H1 v st1 φ1 s1 rs1 re1 rv h1=>tE.bind rs1 re1 h1 λy H2 w st2 φ2 s2 rs2 re2 rw h2=>?_;let⟨z,e,q⟩:=zab h2 rs2;exact⟨B,φ2,st2,v,w,z,rs2,rv.step s2,rw,e,q⟩
end
section
variable {S:Se}{X:Cx}{σ:St}{B:AI->Prop}{φ φ1:Ph}{H H1:Hp}{K:AE}{cl:Nat->AI}{st:SO}
theorem ybI.sq{k:Bool}{a:AI}{xs:List V}(r:ybI K B φ H k a xs):SqT K H a xs:=by
 rcases r with⟨r,_⟩|r
 .exact .inl (.inl r)
 .exact .inr r.2
theorem yco.sq{a:AI}{xs:List V}(r:yco B φ H a xs):SqL K H a xs:=.inl (.inl r.1)
theorem yd.tup_new{vs:List PV}{xs:List V}{p:AI}(hp:H p=AD)(rs:yr K cl B φ H st)(r:ye K cl B φ H vs xs):yd K cl B φ (upd H p (.tup xs)) (.tup vs) (.ref p):=by
 erw[yd];refine⟨p,xs,rfl,.inl ⟨zq,λz=>?_,λz=>?_⟩,r.step (.upd hp)⟩
 .let⟨o,e⟩:=rs.dom p z;rw[hp]at e;cases e
 .let⟨o,e⟩:=rs.there z;rw[hp]at e;cases e
theorem yd.lst_new{vs:List PV}{xs:List V}{p:AI}(hp:H p=AD)(rs:yr K cl B φ H st)(r:ye K cl B φ H vs xs):yd K cl B φ (upd H p (.lst xs)) (.lst vs) (.ref p):=by
 erw[yd];refine⟨p,xs,rfl,⟨zq,λz=>?_,λz=>?_⟩,r.step (.upd hp)⟩
 .let⟨o,e⟩:=rs.dom p z;rw[hp]at e;cases e
 .let⟨o,e⟩:=rs.there z;rw[hp]at e;cases e
theorem ye.append:∀{vs ws:List PV} {xs ys:List V},ye K cl B φ H vs xs->ye K cl B φ H ws ys->ye K cl B φ H (vs++ws) (xs++ys)
 |[],ws,xs,ys,h,q=>by erw[ye]at h;subst h;exact q
 |v::vs,ws,xs,ys,h,q=>by
  erw[ye]at h;let⟨y,zs,rfl,r,l⟩:=h;show ye K cl B φ H (v::(vs++ws)) (y::(zs++ys));erw[ye];exact⟨y,zs++ys,rfl,r,ye.append l q⟩
theorem ye.get:∀{vs:List PV} {xs:List V} (j:Nat) {v:PV},ye K cl B φ H vs xs->vs[j]?=AA v->∃x,xs[j]?=AA x/\yd K cl B φ H v x
 |[],xs,j,v,h,e=>by simp at e
 |w::vs,xs,0,v,h,e=>by
  erw[ye]at h;let⟨y,zs,rfl,r,l⟩:=h;simp at e;subst e;exact⟨y,rfl,r⟩
 |w::vs,xs,j+1,v,h,e=>by
  erw[ye]at h;let⟨y,zs,rfl,r,l⟩:=h;let⟨x,q1,q2⟩:=ye.get j l (by simpa using e);exact⟨x,by simpa using q1,q2⟩
theorem ye.drop:∀{vs:List PV} {xs:List V} (n:Nat),ye K cl B φ H vs xs->ye K cl B φ H (vs.drop n) (xs.drop n)
 |vs,xs,0,h=>by simpa using h
 |[],xs,n+1,h=>by erw[ye]at h;subst h;simp[ye]
 |v::vs,xs,n+1,h=>by
  erw[ye]at h;let⟨y,ys,rfl,_,l⟩:=h;simpa using ye.drop n l
theorem ye.take:∀{vs:List PV} {xs:List V} (n:Nat),ye K cl B φ H vs xs->ye K cl B φ H (vs.take n) (xs.take n)
 |vs,xs,0,h=>by simp[ye]
 |[],xs,n+1,h=>by erw[ye]at h;subst h;simp[ye]
 |v::vs,xs,n+1,h=>by
  erw[ye]at h;let⟨y,ys,rfl,r,l⟩:=h;erw[List.take_succ_cons,ye];exact⟨y,ys.take n,rfl,r,ye.take n l⟩
theorem zb1{f:AF->AF->Gj AF}{o:BOp}{C:Int->Int->Prop}{g:Int->Int->Int}(h:OpR X f (rI C λi j=>.int (g i j)))
  (hb:∀v w z,yq o v w=AA z->∃i j,v=.int i/\w=.int j/\C i j/\z=.int (g i j)):OpR X f (rT2 S X (yq o)):=by
 rintro pins s σ H x y v u Q I rx ry ⟨B,φ,st,a,b,z,rs,ra,rb,e,q⟩
 let⟨i,j,rfl,rfl,hc,rfl⟩:=hb a b z e;erw[yd]at ra rb;subst ra rb;exact h pins s σ H _ _ v u Q I rx ry ⟨i,j,rfl,rfl,hc,q _ H φ .rfl rs (by erw[yd])⟩
theorem zcd{f:AF->AF->Gj AF}{o:BOp}{g:Int->Int->Int}(h:OpR X f (rI0 λi j=>.int (g i j)))
  (hb:∀v w z,yq o v w=AA z->∃i j,v=.int i/\w=.int j/\z=.int (g i j)):OpR X f (rT2 S X (yq o)):=by
 rintro pins s σ H x y v u Q I rx ry ⟨B,φ,st,a,b,z,rs,ra,rb,e,q⟩
 let⟨i,j,rfl,rfl,rfl⟩:=hb a b z e;erw[yd]at ra rb;subst ra rb;exact h pins s σ H _ _ v u Q I rx ry ⟨i,j,rfl,rfl,q _ H φ .rfl rs (by erw[yd])⟩
theorem zlP(v w z:PV)(h:yq .sub v w=AA z):∃i j,v=.int i/\w=.int j/\z=.int (i-j):=by
 unfold yq at h;split at h<;>first|(cases h;done)|skip
 exact⟨_,_,rfl,rfl,(AZ h).symm⟩
theorem zkq(v w z:PV)(h:yq .mul v w=AA z):∃i j,v=.int i/\w=.int j/\ycS i j/\z=.int (i*j):=by
 unfold yq at h;split at h<;>first|(cases h;done)|skip
 rename_i i j;erw[IC.binI]at h;split at h
 .rename_i c;refine⟨i,j,rfl,rfl,?_,(AZ h).symm⟩;erw[yat,DA,decide_eq_true_eq]at c;unfold ycS;rcases c with c|c
  .left;constructor<;>lia
  .right;constructor<;>lia
 .cases h
theorem ziV(v w z:PV)(h:yq .fdiv v w=AA z):∃i j,v=.int i/\w=.int j/\yc1 i j/\z=.int (i/j):=by
 unfold yq at h;split at h<;>first|(cases h;done)|skip
 rename_i i j;erw[IC.binI]at h;split at h
 .rename_i c;exact⟨i,j,rfl,rfl,c,(AZ h).symm⟩
 .cases h
theorem zlT(v w z:PV)(h:yq .mod v w=AA z):∃i j,v=.int i/\w=.int j/\0<j/\z=.int (i%j):=by
 unfold yq at h;split at h<;>first|(cases h;done)|skip
 rename_i i j;erw[IC.binI]at h;split at h
 .rename_i c;exact⟨i,j,rfl,rfl,c,(AZ h).symm⟩
 .cases h
theorem zlB(v w z:PV)(h:yq .pow v w=AA z):∃i j,v=.int i/\w=.int j/\ydA i j/\z=.int (i^j.toNat):=by
 unfold yq at h;split at h<;>first|(cases h;done)|skip
 rename_i i j;erw[IC.binI]at h;split at h
 .rename_i c;exact⟨i,j,rfl,rfl,⟨c.1,c.2.1,by have:=c.2.2;lia⟩,(AZ h).symm⟩
 .cases h
theorem zlg(v w z:PV)(h:yq .shl v w=AA z):∃i j,v=.int i/\w=.int j/\ydA i j/\z=.int (i*2^j.toNat):=by
 unfold yq at h;split at h<;>first|(cases h;done)|skip
 rename_i i j;erw[IC.binI]at h;split at h
 .rename_i c;exact⟨i,j,rfl,rfl,⟨c.1,c.2.1,by have:=c.2.2;lia⟩,(AZ h).symm⟩
 .cases h
theorem zkX(v w z:PV)(h:yq .shr v w=AA z):∃i j,v=.int i/\w=.int j/\0<=j/\z=.int (i/2^j.toNat):=by
 unfold yq at h;split at h<;>first|(cases h;done)|skip
 rename_i i j;erw[IC.binI]at h;split at h
 .rename_i c;exact⟨i,j,rfl,rfl,c,(AZ h).symm⟩
 .cases h
theorem ziN(v w z:PV)(h:yq .band v w=AA z):∃i j,v=.int i/\w=.int j/\z=.int (As i j):=by
 unfold yq at h;split at h<;>first|(cases h;done)|skip
 exact⟨_,_,rfl,rfl,(AZ h).symm⟩
theorem zlD(v w z:PV)(h:yq .bor v w=AA z):∃i j,v=.int i/\w=.int j/\z=.int (B2 i j):=by
 unfold yq at h;split at h<;>first|(cases h;done)|skip
 exact⟨_,_,rfl,rfl,(AZ h).symm⟩
theorem zi4(v w z:PV)(h:yq .bxor v w=AA z):∃i j,v=.int i/\w=.int j/\z=.int (Ay i j):=by
 unfold yq at h;split at h<;>first|(cases h;done)|skip
 exact⟨_,_,rfl,rfl,(AZ h).symm⟩
theorem zmx:OpR X (binaryOp .Sub) (rT2 S X (yq .sub)):=zcd znZ zlP
theorem znK:OpR X (binaryOp .Mult) (rT2 S X (yq .mul)):=zb1 zmf zkq
theorem zlN:OpR X (binaryOp .FloorDiv) (rT2 S X (yq .fdiv)):=zb1 zjh ziV
theorem zn8:OpR X (binaryOp .Mod) (rT2 S X (yq .mod)):=zb1 znb zlT
theorem zmO:OpR X (binaryOp .Pow) (rT2 S X (yq .pow)):=zb1 zmh zlB
theorem zmG:OpR X (binaryOp .LShift) (rT2 S X (yq .shl)):=zb1 zoa zlg
theorem zmk:OpR X (binaryOp .RShift) (rT2 S X (yq .shr)):=zb1 znt zkX
theorem zlS:OpR X (binaryOp .BitAnd) (rT2 S X (yq .band)):=zcd zoc ziN
theorem zmy:OpR X (binaryOp .BitOr) (rT2 S X (yq .bor)):=zcd zos zlD
theorem zle:OpR X (binaryOp .BitXor) (rT2 S X (yq .bxor)):=zcd znn zi4
theorem zA:sizeMax=sizeLine:=by rw[D2];rfl
theorem zlw:OpR X (binaryOp .Add) (λx y H Q=>∃a b ys,x=.ref a/\y=.ref b/\SqT X.K H a []/\SqT X.K H b ys/\Q (.ref b) H):=by
 intro pins s σ H x y v u Q I rx ry h;let⟨a,b,ys,rfl,rfl,ha,hb,q⟩:=h
 cases rx
 cases ry
 let⟨its,r1,p1,_⟩:=I.tuple ha;let⟨its2,r2,p2,_⟩:=I.tuple hb;have:its=[]:=r1.nil_iff.mpr rfl;subst this;let⟨⟨cls,dd,data,sl⟩,ho,hc,n,hd⟩:=id p1;let⟨⟨cls2,dd2,data2,sl2⟩,ho2,hc2,n2,hd2⟩:=id p2;simp only at hc hd hc2 hd2;subst hc hd hc2 hd2;exact Fi ⟨_,ho,rfl⟩ ⟨_,ho2,rfl⟩ C4 Cw Bo Bf (Ba _ _)
   (tuple_addW0 a b [].toArray its2.toArray n n2 dd dd2 sl sl2 (by simp)) ⟨ho,ho2,⟨.ref b,H,I,rfl,q⟩⟩
theorem zma:OpR X (binaryOp .Add) (rT2 S X (yq .add)):=by
 rintro pins s σ H x y v u Q I rx ry ⟨B,φ,st,a,b,z,rs,ra,rb,e,q⟩
 unfold yq at e;split at e
 .rename_i i j;erw[yd]at ra rb;subst ra rb
  cases e
  exact zl0 pins s σ H _ _ v u Q I rx ry ⟨i,j,rfl,rfl,q _ H φ .rfl rs (by erw[yd])⟩
 .rename_i i k;erw[yd]at ra rb;subst ra rb
  cases e
  exact zhT pins s σ H _ _ v u Q I rx ry ⟨i,k,rfl,rfl,q _ H φ .rfl rs (by erw[yd];cases k<;>rfl)⟩
 .rename_i i j;erw[yd]at ra rb;subst ra rb;dsimp only at e;split at e
  .rename_i c
   cases e
   exact zgj pins s σ H _ _ v u Q I rx ry ⟨i,j,rfl,rfl,by rw[<-zA];exact c,q _ H φ .rfl rs (by erw[yd])⟩
  .cases e
 .rename_i k1 vs k2 ws;erw[yd]at ra rb;let⟨p,xs,rfl,r1,l1⟩:=ra;let⟨p',ys,rfl,r2,l2⟩:=rb;dsimp only at e;split at e
  .rename_i c
   cases e
   have n1:=l1.length;have n2:=l2.length;unfold ydS at q
   cases vs with
   |nil=>
    have:xs=[]:=by cases xs with|nil=>rfl|cons _ _=>simp at n1
    subst this;refine zlw pins s σ H _ _ v u Q I rx ry ⟨p,p',ys,rfl,rfl,r1.sq,r2.sq,q _ H φ .rfl rs ?_⟩;erw[Ea,if_true,yd];exact⟨p',ys,rfl,r2,l2⟩
   |cons v1 vr=>
    erw[Ft,BO,if_false]at q;refine zk7 pins s σ H _ _ v u Q I rx ry ⟨p,p',xs,ys,rfl,rfl,r1.sq,r2.sq,?_,by rw[<-zA];lia,λz=>?_,λz t ht=>?_⟩
    .rintro rfl
     simp at n1
    .subst z;have:ws=[]:=by cases ws with|nil=>rfl|cons _ _=>simp at n2
     subst this;erw[Ea,if_true]at q;refine q _ H φ .rfl rs ?_;erw[yd];exact⟨p,xs,rfl,r1,l1⟩
    .cases ws with
     |nil=>exact absurd (List.length_eq_zero_iff.mp n2.symm) z
     |cons w1 wr=>
      erw[Ft,BO,if_false]at q;exact q _ _ φ (.upd ht) (rs.upd ht) (.tup_new ht rs (l1.append l2))
  .cases e
 .rename_i vs ws;erw[yd]at ra rb;let⟨p,xs,rfl,r1,l1⟩:=ra;let⟨p',ys,rfl,r2,l2⟩:=rb;dsimp only at e;split at e
  .rename_i c
   cases e
   have n1:=l1.length;have n2:=l2.length;exact zmB pins s σ H _ _ v u Q I rx ry ⟨p,p',xs,ys,rfl,rfl,r1.1,r2.1,by rw[<-zA];lia,λt ht=>q _ _ φ (.upd ht) (rs.upd ht) (.lst_new ht rs (l1.append l2))⟩
  .cases e
 .cases e
end
mutual
noncomputable def toD:PV->PyData
 |.non=>.none
 |.bl b=>.bool b
 |.int i=>.int i
 |.str x=>.str x
 |.tp _ xs=>.tuple (ybA xs)
 |.lst xs=>.list (ybA xs)
 |_=>.none
noncomputable def ybA:List PV->List PyData
 |[]=>[]
 |x::xs=>toD x::ybA xs
end
mutual
theorem zgJ:∀(v:PV) (n:Nat),shd n v=AB->(toD v).canLay0=AB/\(toD v).depth<=n
 |.non,n,h=>by simp[toD,Cn,DJ]
 |.bl b,n,h=>by simp[toD,Cn,DJ]
 |.int i,n,h=>by simp[toD,Cn,DJ]
 |.str x,n,h=>by
  erw[shd]at h;erw[toD,Cn,DJ,DC,and_true];exact h
 |.tp _ xs,n,h=>by
  erw[shd,AK,decide_eq_true_eq]at h;let⟨q1,q2⟩:=zdC xs (n-1) h.2;erw[toD,Cn,DJ];exact⟨q1,by lia⟩
 |.lst xs,n,h=>by
  erw[shd,AK,decide_eq_true_eq]at h;let⟨q1,q2⟩:=zdC xs (n-1) h.2;erw[toD,Cn,DJ];exact⟨q1,by lia⟩
 |.loc k,n,h=>by simp[shd]at h
 |.exn k,n,h=>by simp[shd]at h
 |.scr xs,n,h=>by simp[shd]at h
theorem zdC:∀(v:List PV) (n:Nat),ybl n v=AB->EM (ybA v)=AB/\Ew (ybA v)<=n
 |[],n,h=>by simp[ybA,EM,Ew]
 |v::vs,n,h=>by
  erw[ybl,AK]at h;let⟨q1,q2⟩:=zgJ v n h.1;let⟨q3,q4⟩:=zdC vs n h.2;erw[ybA,EM,Ew,AK];exact⟨⟨q1,q3⟩,by lia⟩
end
theorem zaV{v:PV}(h:shp v=AB):Gx (toD v)=true:=by
 let⟨q1,q2⟩:=zgJ v 60 h;unfold Gx;rw[q1,CY,decide_eq_true_eq];lia
mutual
theorem ze7:∀(v w:PV) (n m:Nat),shd n v=AB->shd m w=AB->B7 (toD v) (toD w)=peq v w
 |.non,w,n,m,h,q=>by cases w<;>simp_all[toD,B7,peq,shd]
 |.bl b,w,n,m,h,q=>by cases w<;>simp_all[toD,B7,peq,shd,bi]
 |.int i,w,n,m,h,q=>by cases w<;>simp_all[toD,B7,peq,shd,bi]
 |.str x,w,n,m,h,q=>by cases w<;>simp_all[toD,B7,peq,shd]
 |.tp _ xs,.tp _ ys,n,m,h,q=>by
  erw[shd,AK]at h q;erw[toD,B7,peq];exact zdR xs ys (n-1) (m-1) h.2 q.2
 |.lst xs,.lst ys,n,m,h,q=>by
  erw[shd,AK]at h q;erw[toD,B7,peq];exact zdR xs ys (n-1) (m-1) h.2 q.2
 |.tp _ xs,.non,n,m,h,q=>by simp[toD,B7,peq]
 |.tp _ xs,.bl _,n,m,h,q=>by simp[toD,B7,peq]
 |.tp _ xs,.int _,n,m,h,q=>by simp[toD,B7,peq]
 |.tp _ xs,.str _,n,m,h,q=>by simp[toD,B7,peq]
 |.tp _ xs,.lst _,n,m,h,q=>by simp[toD,B7,peq]
 |.lst xs,.non,n,m,h,q=>by simp[toD,B7,peq]
 |.lst xs,.bl _,n,m,h,q=>by simp[toD,B7,peq]
 |.lst xs,.int _,n,m,h,q=>by simp[toD,B7,peq]
 |.lst xs,.str _,n,m,h,q=>by simp[toD,B7,peq]
 |.lst xs,.tp _ _,n,m,h,q=>by simp[toD,B7,peq]
 |.loc k,w,n,m,h,q=>by simp[shd]at h
 |.exn k,w,n,m,h,q=>by simp[shd]at h
 |.scr k,w,n,m,h,q=>by simp[shd]at h
 |v,.loc k,n,m,h,q=>by simp[shd]at q
 |v,.exn k,n,m,h,q=>by simp[shd]at q
 |v,.scr k,n,m,h,q=>by simp[shd]at q
theorem zdR:∀(v w:List PV) (n m:Nat),ybl n v=AB->ybl m w=AB->DZ (ybA v) (ybA w)=ya9 v w
 |[],[],n,m,h,q=>by simp[ybA,DZ,ya9]
 |[],y::ys,n,m,h,q=>by simp[ybA,DZ,ya9]
 |x::xs,[],n,m,h,q=>by simp[ybA,DZ,ya9]
 |x::xs,y::ys,n,m,h,q=>by
  erw[ybl,AK]at h q;erw[ybA,DZ,ya9];rw[ze7 x y n m h.1 q.1,zdR xs ys n m h.2 q.2]
end
section
variable {S:Se}{X:Cx}{σ:St}{B:AI->Prop}{φ φ1:Ph}{H H1:Hp}{st:SO}{pins:List (AI×CA)}{s:AJ}
mutual
theorem zbL(I:Inv X pins σ H s):∀(v:PV) (n:Nat) (x:V) (u:AF),shd n v=AB->yd X.K S.cl B φ H v x->RelV x u->∃as,Reads s.heap u (toD v) as
 |.non,n,x,u,h,r,q=>by
  erw[yd]at r;subst r;cases (show u=CH from q);exact⟨_,.none⟩
 |.bl b,n,x,u,h,r,q=>by
  erw[yd]at r;subst r;cases (show u=Dp b from q);exact⟨_,.bool b⟩
 |.int i,n,x,u,h,r,q=>by
  erw[yd]at r;subst r;let⟨t,rfl⟩:=q;exact⟨_,.int i t⟩
 |.str y,n,x,u,h,r,q=>by
  erw[yd]at r;subst r;let⟨t,rfl⟩:=q;exact⟨_,.str y t⟩
 |.tp _ vs,n,x,u,h,r,q=>by
  erw[yd]at r;let⟨a,xs,rfl,rt,l⟩:=r
  cases (show u=Ah a from q)
  erw[shd,AK]at h;let⟨its,rv,⟨o,g,c,k,d⟩,_⟩:=I.tuple rt.sq;let⟨as,z⟩:=zcH I vs (n-1) xs its h.2 l rv;exact⟨as,.tuple g c d (by simpa using z)⟩
 |.lst vs,n,x,u,h,r,q=>by
  erw[yd]at r;let⟨a,xs,rfl,rt,l⟩:=r
  cases (show u=Ah a from q)
  erw[shd,AK]at h;let⟨its,rv,⟨o,k,g,c,_,d⟩,_⟩:=I.list (rt.sq (K:=X.K));let⟨as,z⟩:=zcH I vs (n-1) xs its h.2 l rv;exact⟨_,.list g c d (by simpa using z)⟩
 |.loc k,n,x,u,h,r,q=>by simp[shd]at h
 |.exn k,n,x,u,h,r,q=>by simp[shd]at h
 |.scr k,n,x,u,h,r,q=>by simp[shd]at h
theorem zcH(I:Inv X pins σ H s):∀(v:List PV) (n:Nat) (x:List V) (u:List AF),ybl n v=AB->ye X.K S.cl B φ H v x->Vals x u->∃as,ReadsAll s.heap u (ybA v) as
 |[],n,x,u,h,r,q=>by
  erw[ye]at r;subst r;cases q;exact⟨_,.nil⟩
 |v::vs,n,x,u,h,r,q=>by
  erw[ye]at r;let⟨y,ys,rfl,rv,l⟩:=r;erw[ybl,AK]at h
  cases q with
  |cons q1 q2=>
   let⟨as,z1⟩:=zbL I v n y _ h.1 rv q1;let⟨bs,z2⟩:=zcH I vs n ys _ h.2 l q2;exact⟨_,.cons z1 z2⟩
end
theorem zol(hu:X.A.units+64<cLine):OpR X (compareOp .Eq) (rT2 S X (yw .eq)):=by
 rintro pins s σ H x y v u Q I rx ry ⟨B,φ,st,a,b,z,rs,ra,rb,e,q⟩
 erw[yw]at e;split at e
 .rename_i c;rw[AK]at c
  cases e
  let⟨as,z1⟩:=zbL (S:=S) I a 60 x v c.1 ra rx;let⟨bs,z2⟩:=zbL (S:=S) I b 60 y u c.2 rb ry;refine eq_dataH z1 z2 (zaV c.1) (zaV c.2) hu ⟨.bl _,H,I,rfl,?_⟩;rw[ze7 a b 60 60 c.1 c.2];exact q _ H φ .rfl rs (by erw[yd])
 .cases e
theorem zoM(hu:X.A.units+64<cLine):OpR X (compareOp .NotEq) (rT2 S X (yw .ne)):=by
 rintro pins s σ H x y v u Q I rx ry ⟨B,φ,st,a,b,z,rs,ra,rb,e,q⟩
 erw[yw]at e;split at e
 .rename_i c;rw[AK]at c
  cases e
  let⟨as,z1⟩:=zbL (S:=S) I a 60 x v c.1 ra rx;let⟨bs,z2⟩:=zbL (S:=S) I b 60 y u c.2 rb ry;refine ne_dataH z1 z2 (zaV c.1) (zaV c.2) hu ⟨.bl _,H,I,rfl,?_⟩;rw[ze7 a b 60 60 c.1 c.2];exact q _ H φ .rfl rs (by erw[yd])
 .cases e
theorem zhM{f:AF->AF->Gj AF}{o:COp}{g:Int->Int->Bool}(h:OpR X f (rI0 λi j=>.bl (g i j)))
  (hb:∀v w z,yw o v w=AA z->∃i j,v=.int i/\w=.int j/\z=.bl (g i j)):OpR X f (rT2 S X (yw o)):=by
 rintro pins s σ H x y v u Q I rx ry ⟨B,φ,st,a,b,z,rs,ra,rb,e,q⟩
 let⟨i,j,rfl,rfl,rfl⟩:=hb a b z e;erw[yd]at ra rb;subst ra rb;exact h pins s σ H _ _ v u Q I rx ry ⟨i,j,rfl,rfl,q _ H φ .rfl rs (by erw[yd])⟩
theorem zhf:OpR X (compareOp .LtE) (λx y H Q=>∃i j,x=.str i/\y=.str j/\Q (.bl (!decide (j.cps.toList<i.cps.toList))) H):=by
 intro pins s σ H x y v u Q I rx ry h;let⟨i,j,rfl,rfl,q⟩:=h;let⟨t,rfl⟩:=rx;let⟨t',rfl⟩:=ry;exact PySem.P.le_str (zhB I q rfl)
theorem zoC:OpR X (compareOp .Lt) (rT2 S X (yw .lt)):=by
 rintro pins s σ H x y v u Q I rx ry ⟨B,φ,st,a,b,z,rs,ra,rb,e,q⟩
 erw[yw]at e;split at e
 .rename_i i j;erw[yd]at ra rb;subst ra rb
  cases e
  exact zok pins s σ H _ _ v u Q I rx ry ⟨i,j,rfl,rfl,q _ H φ .rfl rs (by erw[yd])⟩
 .rename_i i j;erw[yd]at ra rb;subst ra rb
  cases e
  exact zgy pins s σ H _ _ v u Q I rx ry ⟨i,j,rfl,rfl,q _ H φ .rfl rs (by erw[yd])⟩
 .cases e
theorem zoL:OpR X (compareOp .LtE) (rT2 S X (yw .le)):=by
 rintro pins s σ H x y v u Q I rx ry ⟨B,φ,st,a,b,z,rs,ra,rb,e,q⟩
 erw[yw]at e;split at e
 .rename_i i j;erw[yd]at ra rb;subst ra rb
  cases e
  exact zoI pins s σ H _ _ v u Q I rx ry ⟨i,j,rfl,rfl,q _ H φ .rfl rs (by erw[yd])⟩
 .rename_i i j;erw[yd]at ra rb;subst ra rb
  cases e
  exact zhf pins s σ H _ _ v u Q I rx ry ⟨i,j,rfl,rfl,q _ H φ .rfl rs (by erw[yd])⟩
 .cases e
theorem zfA{o:COp}{g:Int->Int->Bool}(ho:∀v w,yw o v w=match v,w with
   |.int i,.int j=>ybB o i j
   |.str a,.str b=>ydP o a b
   |_,_=>AD) (hs:∀a b,ydP o a b=AD) (hg:∀i j,ybB o i j=AA (.bl (g i j))) (v w z:PV) (h:yw o v w=AA z):∃i j,v=.int i/\w=.int j/\z=.bl (g i j):=by
 rw[ho]at h;split at h
 .rename_i i j;rw[hg]at h;exact⟨i,j,rfl,rfl,(AZ h).symm⟩
 .rw[hs]at h;cases h
 .cases h
theorem zoJ:OpR X (compareOp .Gt) (rT2 S X (yw .gt)):=zhM zoA (zfA (λ_ _=>rfl) (λ_ _=>rfl) λ_ _=>rfl)
theorem zog:OpR X (compareOp .GtE) (rT2 S X (yw .ge)):=zhM zoE (zfA (λ_ _=>rfl) (λ_ _=>rfl) λ_ _=>rfl)
theorem yd.isNon{K:AE}{cl:Nat->AI}{v:PV}{x:V}(r:yd K cl B φ H v x):decide (x=.non)=IC.isNon v:=by
 cases v with
 |loc n=>erw[yd]at r;let⟨_,a,rfl,_⟩:=r;rfl
 |non=>erw[yd]at r;subst r;rfl
 |bl b=>erw[yd]at r;subst r;rfl
 |int b=>erw[yd]at r;subst r;rfl
 |str b=>erw[yd]at r;subst r;rfl
 |tp k vs=>erw[yd]at r;let⟨a,xs,rfl,_⟩:=r;rfl
 |lst vs=>erw[yd]at r;let⟨a,xs,rfl,_⟩:=r;rfl
 |exn vs=>erw[yd]at r;let⟨a,rfl,_⟩:=r;rfl
 |scr vs=>erw[yd]at r;let⟨a,xs,rfl,_⟩:=r;rfl
theorem yd.flat{K:AE}{cl:Nat->AI}{v:PV}{x:V}(r:yd K cl B φ H v x)(h:IC.flat v=AB):yaR x=AB/\∀(w:PV) (y:V),IC.flat w=AB->yd K cl B φ H w y->eqV x y=peq v w:=by
 cases v with
 |non=>
  erw[yd]at r;subst r;refine⟨rfl,λw y hw rw=>?_⟩
  cases w<;>first|(simp[IC.flat]at hw;done)|(erw[yd]at rw;subst rw;simp[eqV,peq,bi])
 |bl b=>
  erw[yd]at r;subst r;refine⟨rfl,λw y hw rw=>?_⟩
  cases w<;>first|(simp[IC.flat]at hw;done)|(erw[yd]at rw;subst rw;simp[eqV,peq,bi])
 |int b=>
  erw[yd]at r;subst r;refine⟨rfl,λw y hw rw=>?_⟩
  cases w<;>first|(simp[IC.flat]at hw;done)|(erw[yd]at rw;subst rw;simp[eqV,peq,bi])
 |str b=>
  erw[yd]at r;subst r;refine⟨rfl,λw y hw rw=>?_⟩
  cases w<;>first|(simp[IC.flat]at hw;done)|(erw[yd]at rw;subst rw;simp[eqV,peq,bi])
 |_=>simp[IC.flat]at h
theorem zfd{K:AE}{cl:Nat->AI}{v:PV}{x:V}(r:yd K cl B φ H v x)(h:IC.flat v=AB):∀{vs:List PV} {xs:List V},ye K cl B φ H vs xs->vs.all IC.flat=AB->xs.all yaR=AB/\inV x xs=inL v vs
 |[],xs,l,_=>by erw[ye]at l;subst l;exact⟨rfl,rfl⟩
 |w::vs,xs,l,f=>by
  erw[ye]at l;let⟨y,ys,rfl,rw,l⟩:=l;rw[Bb,AK]at f;let⟨q1,q2⟩:=zfd r h l f.2;let⟨q3,q4⟩:=rw.flat f.1;refine⟨by rw[Bb,q3,q1];rfl,?_⟩;unfold inV at q2 ⊢;rw[BN,q2,q4 v x h r];rfl
end
theorem zkV(a b:AR):(!(EY b a 0 b.length 1).isEmpty)=inS a b:=by
 rw[Da,StrLaws.found_iff];unfold inS;rw[Eb];constructor
 .rintro⟨i,h1,h2⟩
  exact⟨i,by rw[G6];lia,by rw[AK,decide_eq_true_eq];exact⟨h1,h2⟩⟩
 .rintro⟨i,_,h⟩
  rw[AK,decide_eq_true_eq]at h;exact⟨i,h.1,h.2⟩
section
variable {S:Se}{X:Cx}{σ:St}{B:AI->Prop}{φ φ1:Ph}{H H1:Hp}{st:SO}
theorem zoU:OpR X (compareOp .In) (rT2 S X (yw .isin)):=by
 rintro pins s σ H x y v u Q I rx ry ⟨B,φ,st,a,b,z,rs,ra,rb,e,q⟩
 erw[yw]at e;split at e
 .rename_i i j;erw[yd]at ra rb;subst ra rb
  cases e
  exact zgx pins s σ H _ _ v u Q I rx ry ⟨i,j,rfl,rfl,by rw[zkV];exact q _ H φ .rfl rs (by erw[yd])⟩
 .rename_i l;split at e
  .rename_i c;rw[AK]at c
   cases e
   erw[yd]at rb;let⟨p,xs,rfl,r,l'⟩:=rb;let⟨q1,q2⟩:=zfd ra c.1 l' c.2;exact zeR pins s σ H _ _ v u Q I rx ry ⟨p,xs,rfl,.inr r.sq,(ra.flat c.1).1,q1,q _ H φ .rfl rs (by erw[yd];rw[<-q2];rfl)⟩
  .cases e
 .rename_i l;split at e
  .rename_i c;rw[AK]at c
   cases e
   erw[yd]at rb;let⟨p,xs,rfl,r,l'⟩:=rb;let⟨q1,q2⟩:=zfd ra c.1 l' c.2;exact zeR pins s σ H _ _ v u Q I rx ry ⟨p,xs,rfl,.inl r.sq,(ra.flat c.1).1,q1,q _ H φ .rfl rs (by erw[yd];rw[<-q2];rfl)⟩
  .cases e
 .cases e
theorem ye.empty{K:AE}{cl:Nat->AI}{vs:List PV}{xs:List V}(l:ye K cl B φ H vs xs):vs.isEmpty=xs.isEmpty:=by
 have:=l.length
 cases vs<;>cases xs<;>simp_all
theorem zkg{K:AE}{cl:Nat->AI}{v:PV}{x:V}{k:Bool}(rs:yr K cl B φ H st)(r:yd K cl B φ H v x)(h:yaF st v=AA k):yem K x H k:=by
 cases v with
 |non=>erw[yd]at r;subst r;cases h;rfl
 |bl b=>erw[yd]at r;subst r;cases h;rfl
 |int b=>erw[yd]at r;subst r;cases h;rfl
 |str b=>
  erw[yd]at r;subst r;erw[yaF]at h;split at h
  .rename_i c
   cases h
   exact⟨by rw[<-zA];exact c,rfl⟩
  .cases h
 |tp k vs=>
  erw[yd]at r;let⟨a,xs,rfl,rt,l⟩:=r
  cases h
  exact .inr (.inl ⟨xs,rt.sq,by rw[l.empty]⟩)
 |lst vs=>
  erw[yd]at r;let⟨a,xs,rfl,rt,l⟩:=r
  cases h
  exact .inl ⟨xs,rt.sq,by rw[l.empty]⟩
 |loc n=>
  erw[yd]at r;let⟨hn,a,rfl,ha⟩:=r;erw[yaF]at h;split at h
  .rename_i vs hv
   cases h
   let⟨b,hb⟩:=rs.liv n _ hv (by intro z;cases z);obtain rfl:=ha b hb;let⟨o,ho,ro⟩:=rs.obj n b hb;rw[hv]at ho;cases ho;let⟨xs,hx,l⟩:=ro;exact .inl ⟨xs,.of hx,by rw[l.empty]⟩
  .cases h
 |exn c=>cases h
 |scr c=>cases h
end
theorem R.bind_assoc{α β γ:Type}{r:R α}{k:α->SO->R β}{l:β->SO->R γ}:(r.bind k).bind l=r.bind λa s=>(k a s).bind l:=by
 cases r<;>rfl
section
variable {S:Se}{X:Cx}{σ:St}{B:AI->Prop}{φ φ1:Ph}{H H1:Hp}{st:SO}{ρ:IC.Env}{pos:CP}{a b c d:AU}{ca cb cc:Ce}{es:List AU}{ces:Ces}
theorem zdI{o:COp}{v w z:PV}(h:yw o v w=AA z):∃k,z=.bl k:=by
 cases o<;>erw[yw]at h
 all_goals (repeat' split at h)<;>first|(cases h;done)|(cases h;exact⟨_,rfl⟩)|skip
 all_goals (erw[ybB]at h;cases h;exact⟨_,rfl⟩)
theorem zmc{op:FX}{o:COp}(ho:OpR X (compareOp op) (rT2 S X (yw o)))(ha:PE X a (tE S X ca))(hb:PE X b (tE S X cb))(hm:behindInMarks op b=AC):PT X (.Compare a [op] [b] pos) (tTs S X (.cmp o ca cb)):=
 (zlf ho ha hb hm).imp λσ H Q ⟨B,φ,st,ρ,rs,re,h⟩=>by
  erw[ev,ya1,R.bind_assoc]at h;refine tE.bind rs re h λx H1 v st1 φ1 s1 rs1 re1 rv h1=>tE.bind rs1 re1 h1 λy H2 w st2 φ2 s2 rs2 re2 rw h2=>?_
  cases e:yw o v w with
  |none=>rw[e]at h2;exact h2.elim
  |some z=>
   let⟨k,rfl⟩:=zdI e;rw[e]at h2;refine⟨B,φ2,st2,v,w,.bl k,rs2,rv.step s2,rw,e,λz' H' φ' s' rs' rz=>?_⟩;erw[yd]at rz;exact⟨k,rz,h2 k H' φ' s' rs' rfl⟩
theorem zmA(ha:PE X a (tE S X ca))(he:∀whole,isTrue a X.env whole=(do let v <-whole;standAt a.pos;holding [v] (truthy v)):=by intro _;rfl):PT X a (tTs S X ca):=
 (zin ha he).imp λσ H Q ⟨B,φ,st,ρ,rs,re,h⟩=>by
  erw[ya1]at h;refine tE.bind rs re h λx H1 v st1 φ1 s1 rs1 re1 rv h1=>?_
  cases e:yaF st1 v with
  |none=>rw[e]at h1;exact h1.elim
  |some k=>
   rw[e]at h1;exact⟨k,zkg rs1 rv e,h1.ok rs1 rfl⟩
theorem tTs.bind{γ δ:Type}{Gw:Ph->Hp->γ->δ->Prop}{k:Bool->SO->R γ}{Q:δ->Hp->Prop}{P:Bool->Hp->Prop}(rs:yr X.K S.cl B φ H st)(re:yG X.K S.cl B φ H ρ σ)(h:Run S X σ B φ H Gw ((ya1 (ev S.call ρ st ca)).bind k) Q)
  (n:∀b H1 st1 φ1,Step φ H φ1 H1->yr X.K S.cl B φ1 H1 st1->yG X.K S.cl B φ1 H1 ρ σ->Run S X σ B φ1 H1 Gw (k b st1) Q->P b H1):tTs S X ca σ H P:=
 ⟨B,φ,st,ρ,rs,re,(Run.bind h).mono λx H1 ⟨v,st1,φ1,s,rs1,rv,h1⟩=>by
  subst rv;exact n v H1 st1 φ1 s rs1 (re.step s) h1⟩
theorem ze4(r:R PV)(f:Bool->SO->R PV):ya1 (r.bind λx st1=>onBl x λb=>f b st1)=r.bind λx st1=>onBl x λb=>ya1 (f b st1):=by
 unfold ya1;rw[R.bind_assoc]
 congr 1
 funext x st1
 cases x<;>rfl
theorem Run.bl_tru{r:R PV}{k:Bool->SO->R Bool}{Q:Bool->Hp->Prop}(h:Run S X σ B φ H RB (r.bind λx st1=>onBl x λb=>k b st1) Q):Run S X σ B φ H RB ((ya1 r).bind k) Q:=by
 cases r with
 |bad=>exact h
 |exc c s=>exact h
 |ok v s=>
  cases v with
  |bl b=>exact h
  |_=>exact h.elim
theorem zmV(ha:PT X a (tTs S X ca)):PT X (.UnaryOp .Not a pos) (tTs S X (.not ca)):=
 (zn1 ha).imp λσ H Q ⟨B,φ,st,ρ,rs,re,h⟩=>by
  erw[ev]at h;rw[ze4 _ λk st1=>.ok (.bl (!k)) st1]at h;exact tTs.bind rs re (Run.bl_tru (k:=λb st1=>.ok (!b) st1) h) λb H1 st1 φ1 s1 rs1 re1 h1=>h1.ok rs1 rfl
variable {rest:List AU}
theorem zk1(ha:PT X a (tTs S X ca)):PW X (.BoolOp .And [a] pos) (tTs S X ca):=zkD ha
theorem znz(ha:PT X a (tTs S X ca)):PW X (.BoolOp .Or [a] pos) (tTs S X ca):=zlZ ha
theorem znG(ha:PT X a (tTs S X ca))(hb:PW X (.BoolOp .And (b::rest) pos) (tTs S X cb)):PW X (.BoolOp .And (a::b::rest) pos) (tTs S X (.and ca cb)):=
 (znS ha hb).imp λσ H Q ⟨B,φ,st,ρ,rs,re,h⟩=>by
  erw[ev]at h;rw[ze4 _ λk st1=>cond k (ev S.call ρ st1 cb) (.ok (.bl AC) st1)]at h;refine tTs.bind rs re (Run.bl_tru h) λk H1 st1 φ1 s1 rs1 re1 h1=>?_
  cases k with
  |false=>exact h1.ok rs1 rfl
  |true=>exact⟨B,φ1,st1,ρ,rs1,re1,h1⟩
theorem zoK(ha:PT X a (tTs S X ca))(hb:PW X (.BoolOp .Or (b::rest) pos) (tTs S X cb)):PW X (.BoolOp .Or (a::b::rest) pos) (tTs S X (.or ca cb)):=
 (zou ha hb).imp λσ H Q ⟨B,φ,st,ρ,rs,re,h⟩=>by
  erw[ev]at h;rw[ze4 _ λk st1=>cond k (.ok (.bl AB) st1) (ev S.call ρ st1 cb)]at h;refine tTs.bind rs re (Run.bl_tru h) λk H1 st1 φ1 s1 rs1 re1 h1=>?_
  cases k with
  |true=>exact h1.ok rs1 rfl
  |false=>exact⟨B,φ1,st1,ρ,rs1,re1,h1⟩
theorem zj8{op:Gy}(h:PE X a (tE S X ca)):PE X (.BoolOp op [a] pos) (tE S X ca):=zmK h
theorem zjX(ha:PE X a (tE S X ca))(hb:PE X (.BoolOp .And (b::rest) pos) (tE S X cb)):PE X (.BoolOp .And (a::b::rest) pos) (tE S X (.and ca cb)):=
 (zmj ha hb).imp λσ H Q ⟨B,φ,st,ρ,rs,re,h⟩=>by
  erw[ev]at h;refine tE.bind rs re h λx H1 v st1 φ1 s1 rs1 re1 rv h1=>?_
  cases v with
  |bl k=>
   erw[yd]at rv;refine⟨k,rv,?_⟩
   cases k with
   |true=>exact⟨B,φ1,st1,ρ,rs1,re1,h1⟩
   |false=>exact h1.ok rs1 (by erw[yd])
  |_=>exact h1.elim
theorem zmZ(ha:PE X a (tE S X ca))(hb:PE X (.BoolOp .Or (b::rest) pos) (tE S X cb)):PE X (.BoolOp .Or (a::b::rest) pos) (tE S X (.or ca cb)):=
 (zom ha hb).imp λσ H Q ⟨B,φ,st,ρ,rs,re,h⟩=>by
  erw[ev]at h;refine tE.bind rs re h λx H1 v st1 φ1 s1 rs1 re1 rv h1=>?_
  cases v with
  |bl k=>
   erw[yd]at rv;refine⟨k,rv,?_⟩
   cases k with
   |false=>exact⟨B,φ1,st1,ρ,rs1,re1,h1⟩
   |true=>exact h1.ok rs1 (by erw[yd])
  |_=>exact h1.elim
theorem zm3(ha:PE X a (tE S X ca)):PE X (.UnaryOp .Not a pos) (tE S X (.not ca)):=
 (znO ha).imp λσ H Q ⟨B,φ,st,ρ,rs,re,h⟩=>by
  erw[ev]at h;refine tE.bind rs re h λx H1 v st1 φ1 s1 rs1 re1 rv h1=>?_
  cases v with
  |bl k=>
   erw[yd]at rv;exact⟨k,rv,h1.ok rs1 (by erw[yd])⟩
  |_=>exact h1.elim
theorem zjN(ha:PE X a (tE S X ca)):PE X (.UnaryOp .USub a pos) (tE S X (.neg ca)):=
 (zow znq ha).imp λσ H Q ⟨B,φ,st,ρ,rs,re,h⟩=>by
  erw[ev]at h;refine tE.bind rs re h λx H1 v st1 φ1 s1 rs1 re1 rv h1=>?_;split at h1
  .simp only[yd]at rv;exact⟨_,rv,h1.ok rs1 (by erw[yd])⟩
  .exact h1.elim
theorem zmY(hc:PT X c (tTs S X cc))(ha:PE X a (tE S X ca))(hb:PE X b (tE S X cb)):PE X (.IfExp c a b pos) (tE S X (.ite cc ca cb)):=
 (ziQ hc ha hb).imp λσ H Q ⟨B,φ,st,ρ,rs,re,h⟩=>by
  erw[ev]at h;have e:((ev S.call ρ st cc).bind λx st1=>onO (yaF st1 x) λk=>cond k (ev S.call ρ st1 ca) (ev S.call ρ st1 cb))=(ya1 (ev S.call ρ st cc)).bind λk st1=>cond k (ev S.call ρ st1 ca) (ev S.call ρ st1 cb):=by
   unfold ya1;rw[R.bind_assoc]
   congr 1
   funext x st1
   cases yaF st1 x<;>rfl
  rw[e]at h;refine tTs.bind rs re h λk H1 st1 φ1 s1 rs1 re1 h1=>?_
  cases k with
  |true=>exact⟨B,φ1,st1,ρ,rs1,re1,h1⟩
  |false=>exact⟨B,φ1,st1,ρ,rs1,re1,h1⟩
theorem zgN:PA X [] (tAs S X .nil):=ybc.imp λσ H Q ⟨B,φ,st,ρ,rs,re,h⟩=>by
 erw[evs]at h;exact h.ok rs (by erw[ye])
theorem zdX(ha:PE X a (tE S X ca))(hr:PA X es (tAs S X ces))(hs:starEach (a::es) X.env=(AC,eval a X.env)::starEach es X.env:=by rfl):PA X (a::es) (tAs S X (.cons ca ces)):=
 (zbo ha hr hs).imp λσ H Q ⟨B,φ,st,ρ,rs,re,h⟩=>by
  erw[evs]at h;refine tE.bind rs re h λx H1 v st1 φ1 s1 rs1 re1 rv h1=>tAs.bind rs1 re1 h1 λxs H2 vs st2 φ2 s2 rs2 re2 rvs h2=>?_;refine h2.ok rs2 ?_;erw[ye];exact⟨x,xs,rfl,rv.step s2,rvs⟩
theorem zni{k:Nat}(h:PA X es (tAs S X ces)):PE X (.Tuple es k pos) (tE S X (.tup ces)):=
 (zl2 h).imp λσ H Q ⟨B,φ,st,ρ,rs,re,h⟩=>by
  erw[ev]at h;refine tAs.bind rs re h λxs H1 vs st1 φ1 s1 rs1 re1 rv h1=>?_;split at h1
  .rename_i c;refine⟨by rw[<-zA,<-rv.length];exact c,λp hp=>h1 _ _ φ1 (.upd hp) (rs1.upd hp) (.tup_new hp rs1 rv)⟩
  .exact h1.elim
theorem zmn(h:PA X es (tAs S X ces)):PE X (.List es pos) (tE S X (.lst ces)):=
 (zjW h).imp λσ H Q ⟨B,φ,st,ρ,rs,re,h⟩=>by
  erw[ev]at h;refine tAs.bind rs re h λxs H1 vs st1 φ1 s1 rs1 re1 rv h1=>?_;split at h1
  .rename_i c;refine⟨by rw[<-zA,<-rv.length];exact c,λp hp=>h1 _ _ φ1 (.upd hp) (rs1.upd hp) (.lst_new hp rs1 rv)⟩
  .exact h1.elim
theorem Step.push{p:AI}{o:HO}(hp:H p=AD):Step φ H (φ++[AA p]) (L2.upd H p o):=by
 refine⟨λb u n e=>by rw[zh (zm e hp)];exact e,by simp,λn a hn e=>?_,λb h=>?_⟩
 .rw[Ag hn]at e;exact e
 .rw[Bd]at h;rcases h with h|h
  .exact .inl h
  .have:b=p:=by simpa using h
   subst this;exact .inr hp
theorem yr.push{K:AE}{cl:Nat->AI}{p:AI}{u:HO}{o:Ob}(rs:yr K cl B φ H st)(hp:H p=AD)(hb:¬B p)(ho:yb8 K cl B (φ++[AA p]) (L2.upd H p u) o p):yr K cl B (φ++[AA p]) (L2.upd H p u) (st++[o]):=by
 have s:Step φ H (φ++[AA p]) (L2.upd H p u):=.push hp;have np:AA p∉φ:=λz=>by
  let⟨w,e⟩:=rs.there z;rw[hp]at e;cases e
 have hl:φ.length=st.length:=rs.len;refine⟨by simp[hl],λm n a e1 e2=>?_,λn a e=>?_,λn o' e ho'=>?_,λa h=>?_,λa h=>?_⟩
 .by_cases hm:m<φ.length
  .rw[Ag hm]at e1
   by_cases hn:n<φ.length
   .rw[Ag hn]at e2;exact rs.inj m n a e1 e2
   .rw[Ak (by lia)]at e2;have:a=p:=by
     cases q:n-φ.length with
     |zero=>rw[q]at e2;simpa using e2.symm
     |succ k=>rw[q]at e2;simp at e2
    subst this;exact absurd (A2 e1) np
  .rw[Ak (by lia)]at e1;have:m-φ.length=0/\a=p:=by
    cases q:m-φ.length with
    |zero=>rw[q]at e1;exact⟨rfl,by simpa using e1.symm⟩
    |succ k=>rw[q]at e1;simp at e1
   let⟨q1,rfl⟩:=this
   by_cases hn:n<φ.length
   .rw[Ag hn]at e2;exact absurd (A2 e2) np
   .rw[Ak (by lia)]at e2;have:n-φ.length=0:=by
     cases q:n-φ.length with
     |zero=>rfl
     |succ k=>rw[q]at e2;simp at e2
    lia
 .by_cases hn:n<φ.length
  .rw[Ag hn]at e;let⟨o',q,r⟩:=rs.obj n a e;refine⟨o',by rw[Ag (by lia)];exact q,r.step s ?_⟩;rw[zh]
   rintro rfl
   exact np (A2 e)
  .rw[Ak (by lia)]at e;have:n-φ.length=0/\a=p:=by
    cases q:n-φ.length with
    |zero=>rw[q]at e;exact⟨rfl,by simpa using e.symm⟩
    |succ k=>rw[q]at e;simp at e
   let⟨q1,rfl⟩:=this;refine⟨o,?_,ho⟩;rw[Ak (by lia)];have:n-st.length=0:=by lia
   rw[this];rfl
 .by_cases hn:n<φ.length
  .rw[Ag (by lia)]at e;let⟨a,q⟩:=rs.liv n o' e ho';exact⟨a,by rw[Ag hn];exact q⟩
  .rw[Ak (by lia)]at e;have:n-st.length=0:=by
    cases q:n-st.length with
    |zero=>rfl
    |succ k=>rw[q]at e;simp at e
   refine⟨p,?_⟩;rw[Ak (by lia)];have:n-φ.length=0:=by lia
   rw[this];rfl
 .rw[Bd]at h;rcases h with h|h
  .exact rs.nb a h
  .have:a=p:=by simpa using h
   subst this;exact hb
 .let⟨w,e⟩:=rs.dom a h;exact⟨w,by rw[zh (zm e hp)];exact e⟩
theorem yr.nB{K:AE}{cl:Nat->AI}{p:AI}(rs:yr K cl B φ H st)(hp:H p=AD):¬B p:=λz=>by
 let⟨o,e⟩:=rs.dom p z;rw[hp]at e;cases e
theorem yd.loc_new{K:AE}{cl:Nat->AI}{p:AI}(rs:yr K cl B φ H st):yd K cl B (φ++[AA p]) H1 (.loc st.length) (.ref p):=by
 erw[yd];have hl:=rs.len;refine⟨by simp[hl],p,rfl,λb e=>?_⟩;rw[Ak (by lia)]at e;have:st.length-φ.length=0:=by lia
 rw[this]at e;simpa using e.symm
theorem zkP(h:PA X es (tAs S X ces)):PE X (.List es pos) (tE S X (.newl ces)):=
 (zjW h).imp λσ H Q ⟨B,φ,st,ρ,rs,re,h⟩=>by
  erw[ev]at h;refine tAs.bind rs re h λxs H1 vs st1 φ1 s1 rs1 re1 rv h1=>?_;split at h1
  .rename_i c;refine⟨by rw[<-zA,<-rv.length];exact c,λp hp=>h1 _ _ (φ1++[AA p]) (.push hp) (rs1.push hp (rs1.nB hp) ⟨xs,zq,rv.step (.push hp)⟩) (.loc_new rs1)⟩
  .exact h1.elim
end
section
variable {S:Se}{X:Cx}{σ:St}{B:AI->Prop}{φ φ1:Ph}{H H1:Hp}{st:SO}{ρ:IC.Env}{pos p2:CP}{a b c d:AU}{ca cb cc:Ce}{es:List AU}{ces:Ces}{K:AE}{cl:Nat->AI}
theorem zg3{o:COp}{v w:PV}{α β:Type}{Rel:Ph->Hp->α->β->Prop}{k:Bool->R α}{Q:β->Hp->Prop}(h:Run S X σ B φ H Rel (onO (blO (yw o v w)) k) Q):∃b,yw o v w=AA (.bl b)/\Run S X σ B φ H Rel (k b) Q:=by
 cases e:yw o v w with
 |none=>rw[e]at h;exact h.elim
 |some z=>
  let⟨b,rfl⟩:=zdI e;rw[e]at h;exact⟨b,rfl,h⟩
theorem zi3{op op':FX}{o p:COp}(ho:OpR X (compareOp op) (rT2 S X (yw o)))(ho':OpR X (compareOp op') (rT2 S X (yw p)))(ha:PE X a (tE S X ca))(hb:PE X b (tE S X cb))(hc:PE X c (tE S X cc))
  (hm:lastMarks [op,op'] [b,c]=false:=by ac_rfl):PE X (.Compare a [op,op'] [b,c] pos) (tE S X (.chain o p ca cb cc)):=
 (zjE ho ho' ha hb hc hm).imp λσ H Q ⟨B,φ,st,ρ,rs,re,h⟩=>by
  erw[ev]at h;refine tE.bind rs re h λx H1 v st1 φ1 s1 rs1 re1 rv h1=>tE.bind rs1 re1 h1 λy H2 w st2 φ2 s2 rs2 re2 rw h2=>?_;let⟨k,e,h2⟩:=zg3 h2;refine⟨B,φ2,st2,v,w,.bl k,rs2,rv.step s2,rw,e,λz' H' φ' s' rs' rz=>?_⟩;erw[yd]at rz;refine⟨k,rz,?_⟩
  cases k with
  |false=>exact h2 _ H' φ' s' rs' (by erw[yd])
  |true=>
   refine tE.bind rs' (re2.step s') (Run.on s' h2) λz H3 v3 st3 φ3 s3 rs3 re3 rv3 h3=>?_;let⟨q,eq,hq⟩:=zab h3 rs3;exact⟨B,φ3,st3,w,v3,q,rs3,(rw.step s').step s3,rv3,eq,hq⟩
theorem ziv{op op':FX}{o p:COp}(ho:OpR X (compareOp op) (rT2 S X (yw o)))(ho':OpR X (compareOp op') (rT2 S X (yw p)))(ha:PE X a (tE S X ca))(hb:PE X b (tE S X cb))(hc:PE X c (tE S X cc))
  (hm:lastMarks [op,op'] [b,c]=false:=by ac_rfl):PT X (.Compare a [op,op'] [b,c] pos) (tTs S X (.chain o p ca cb cc)):=
 (ziq ho ho' ha hb hc hm).imp λσ H Q ⟨B,φ,st,ρ,rs,re,h⟩=>by
  erw[ev,ya1,R.bind_assoc]at h;refine tE.bind rs re h λx H1 v st1 φ1 s1 rs1 re1 rv h1=>tE.bind rs1 re1 h1 λy H2 w st2 φ2 s2 rs2 re2 rw h2=>?_;have h2':Run S X σ B φ2 H2 RB (onO (blO (yw o v w)) λk=>cond k ((ev S.call ρ st2 cc).bind λz st3=>(toR (yw p w z) st3).bind λx st=>onO (yaF st x) λb=>.ok b st) (.ok AC st2)) Q:=by
   cases e:yw o v w with
   |none=>rw[e]at h2;exact h2
   |some z=>
    let⟨b,rfl⟩:=zdI e;rw[e]at h2
    cases b with
    |false=>exact h2
    |true=>
     erw[blO,onO,cond_true,R.bind_assoc]at h2 ⊢;exact h2
  let⟨k,e,h2⟩:=zg3 h2';refine⟨B,φ2,st2,v,w,.bl k,rs2,rv.step s2,rw,e,λz' H' φ' s' rs' rz=>?_⟩;erw[yd]at rz;refine⟨k,rz,?_⟩
  cases k with
  |false=>exact⟨AC,rfl,h2 _ H' φ' s' rs' rfl⟩
  |true=>
   refine tE.bind rs' (re2.step s') (Run.on s' h2) λz H3 v3 st3 φ3 s3 rs3 re3 rv3 h3=>?_
   cases eq:yw p w v3 with
   |none=>rw[eq]at h3;exact h3.elim
   |some q=>
    let⟨b,rfl⟩:=zdI eq;rw[eq]at h3;refine⟨B,φ3,st3,w,v3,.bl b,rs3,(rw.step s').step s3,rv3,eq,λz2 H4 φ4 s4 rs4 rz4=>?_⟩;erw[yd]at rz4;exact⟨b,rz4,h3 b H4 φ4 s4 rs4 rfl⟩
theorem ye.at{vs:List PV}{xs:List V}{i:Int}{v:PV}(l:ye K cl B φ H vs xs)(h:at? vs i=AA v):∃x,atI xs i=AA x/\yd K cl B φ H v x:=by
 unfold at? at h;rw[l.length]at h;unfold atI
 cases e:ixI xs.length i with
 |none=>rw[e]at h;cases h
 |some j=>
  rw[e]at h;have e':ixN xs.length i=AA j:=e;rw[e'];exact l.get j h
theorem yr.list{n:Nat}{vs:List PV}{x:V}(rs:yr K cl B φ H st)(r:yd K cl B φ H (.loc n) x)(h:st[n]?=AA (.lst vs)):∃a xs,x=.ref a/\φ[n]?=AA (AA a)/\H a=AA (.lst xs)/\ye K cl B φ H vs xs:=by
 erw[yd]at r;let⟨hn,a,rfl,ha⟩:=r;let⟨b,hb⟩:=rs.liv n _ h (by intro z;cases z);obtain rfl:=ha b hb;let⟨o,ho,ro⟩:=rs.obj n b hb;rw[h]at ho;cases ho;let⟨xs,hx,l⟩:=ro;exact⟨b,xs,rfl,hb,hx,l⟩
def rTS(S:Se)(X:Cx)(f:SO->PV->PV->Option PV):R2:=λx y H Q=>∃B φ st v w z,yr X.K S.cl B φ H st/\yd X.K S.cl B φ H v x/\yd X.K S.cl B φ H w y/\f st v w=AA z /\
 ∀z' H' φ',Step φ H φ' H'->yr X.K S.cl B φ' H' st->yd X.K S.cl B φ' H' z z'->Q z' H'
theorem zcm{α:Type}{xs:List α}{i:PV}{z:α}(h:yaZ xs i=AA z):∃k,i=.int k/\at? xs k=AA z:=by
 cases i with
 |int k=>exact⟨k,rfl,h⟩
 |_=>cases h
theorem zlQ:IxR X (rTS S X idxV):=by
 rintro value slice pins s σ H x y v u Q I rx ry ⟨B,φ,st,a,i,z,rs,ra,ri,e,q⟩ hs
 cases a with
 |tp k vs=>
  let⟨k,rfl,e⟩:=zcm e;erw[yd]at ra ri;subst ri;let⟨p,xs,rfl,rt,l⟩:=ra;let⟨w,e1,rw⟩:=l.at e;exact zfs value slice pins s σ H _ _ v u Q I rx ry (.inr (.inl ⟨p,xs,k,w,rfl,rfl,rt.sq,e1,q w H φ .rfl rs rw⟩)) hs
 |lst vs=>
  let⟨k,rfl,e⟩:=zcm e;erw[yd]at ra ri;subst ri;let⟨p,xs,rfl,rt,l⟩:=ra;let⟨w,e1,rw⟩:=l.at e;exact zfs value slice pins s σ H _ _ v u Q I rx ry (.inl ⟨p,xs,k,w,rfl,rfl,rt.sq,e1,q w H φ .rfl rs rw⟩) hs
 |loc n=>
  erw[idxV]at e;split at e
  .rename_i vs h1;let⟨k,rfl,e⟩:=zcm e;erw[yd]at ri;subst ri;let⟨p,xs,rfl,_,hx,l⟩:=rs.list ra h1;let⟨w,e1,rw⟩:=l.at e;exact zfs value slice pins s σ H _ _ v u Q I rx ry (.inl ⟨p,xs,k,w,rfl,rfl,.of hx,e1,q w H φ .rfl rs rw⟩) hs
  .cases e
 |str t=>
  erw[idxV]at e;split at e
  .rename_i hl
   cases e1:yaZ t.cps.toList i with
   |none=>rw[e1]at e;cases e
   |some c=>
    rw[e1]at e
    cases e
    let⟨k,rfl,e1⟩:=zcm e1;erw[yd]at ra ri;subst ra ri;exact zfs value slice pins s σ H _ _ v u Q I rx ry (.inr (.inr ⟨t,k,c,rfl,rfl,by rw[<-zA];exact hl,e1,q _ H φ .rfl rs (by erw[yd])⟩)) hs
  .cases e
 |_=>cases e
theorem znN(ha:PE X a (tE S X ca))(hb:PE X b (tE S X cb))(hs:ybt b:=by exact λ_ _=>rfl):PE X (.Subscript a b pos) (tE S X (.idx ca cb)):=
 (zoV zlQ ha hb hs).imp λσ H Q ⟨B,φ,st,ρ,rs,re,h⟩=>by
  erw[ev]at h;refine tE.bind rs re h λx H1 v st1 φ1 s1 rs1 re1 rv h1=>tE.bind rs1 re1 h1 λy H2 w st2 φ2 s2 rs2 re2 rw h2=>?_;let⟨z,e,q⟩:=zab h2 rs2;exact⟨B,φ2,st2,v,w,z,rs2,rv.step s2,rw,e,q⟩
theorem ye.cut{vs:List PV}{xs:List V}(lo hi:Option Int)(l:ye K cl B φ H vs xs):ye K cl B φ H (IC.cut vs lo hi) (ych xs lo hi):=by
 have e1:∀n o,ycp n o=HT.sIx n 0 o:=λn o=>by cases o<;>rfl
 have e2:∀n o,ycN n o=HT.sIx n n o:=λn o=>by cases o<;>rfl
 unfold IC.cut ych;rw[l.length,e1,e2];exact(l.drop _).take _
def tO(S:Se)(X:Cx)(c:Ce):TO:=λσ H Q=>tE S X c σ H λx H1=>(x=.non/\Q AD H1) \/ ∃i,x=.int i/\Q (AA i) H1
theorem zkN:PO X AD (tO S X (.cst .non)):=λpins s σ H Q I h=>by
 refine zki pins s σ H Q I ?_;let⟨B,φ,st,ρ,rs,re,h⟩:=h;erw[ev]at h;rcases h.ok rs (x:=V.non) (by erw[yd])with q|⟨i,z,_⟩
 .exact q.2
 .cases z
theorem zkK(ha:PE X a (tE S X ca)):PO X (AA a) (tO S X ca):=by
 intro pins s σ H Q I hw;rw[evalPart_some];refine thn (ha pins s σ H _ I hw) λu s1 kq=>?_;let⟨x,H1,I1,r1,q1⟩:=kq;rcases q1 with⟨rfl,q⟩|⟨i,rfl,q⟩
 .cases r1
  exact⟨AD,H1,I1,.none,q⟩
 .let⟨t,rfl⟩:=r1;exact⟨AA i,H1,I1,.int i t,q⟩
def rSl(S:Se)(X:Cx):V->Option Int->Option Int->Hp->VK->Prop:=λx lo hi H Q=>∃B φ st v z,yr X.K S.cl B φ H st/\yd X.K S.cl B φ H v x/\ycm v lo hi=AA z /\
 ∀z' H' φ',Step φ H φ' H'->yr X.K S.cl B φ' H' st->yd X.K S.cl B φ' H' z z'->Q z' H'
theorem zbh{prog:A5}{w:Ai}{A:Ao}{E:AF->AJ->Prop}{s:AJ}{t sl:AI}{items:Array AF}{vl vu:AF}{lo hi:Option Int}{Q:AF->AJ->Prop}(ht:G5 s.heap t items)(hs:s.heap.IsSliceOf sl vl vu .none)(pl:Eh vl lo)(pu:Eh vu hi)
  (hw:HT.sIx items.size 0 lo=0/\HT.sIx items.size items.size hi=items.size)
  (h:Q (.ref t) s):A1 (model prog w) A (getItem (.ref t) (.ref sl)) Q E s:=by
 let⟨os,hos,hcs,hds⟩:=id hs;have hTs:s.TypeIs (.ref sl) "slice":=⟨os,hos,hcs⟩;unfold getItem
 try with_reducible refine DY ?_
 first|refine AH (AV ?_)|skip
 refine AH (Fj ht.typeIs (by decide) ?_);refine AH (Bg (name:=AG "__getitem__") ht.typeIs BG
  (C5 BG ht.typeIs FT ?_ (F7 _ _)))
 show A1 _ _ (Dz (.ref t) >>= _) _ _ s;refine AH (FO ht ?_);refine AH (Fk hTs ?_);rw[if_pos (by decide)];refine AH (HT.sliceApplied_gen hs pl pu ?_);have hyes:(((HT.sIx items.size 0 lo:Nat):Int)==0&&(1:Int)==1&&(HT.sIx items.size items.size hi-HT.sIx items.size 0 lo)==items.size)=true:=by
  rw[hw.1,hw.2];simp
 show A1 _ _ (if (((HT.sIx items.size 0 lo:Nat):Int)==0&&(1:Int)==1&&(HT.sIx items.size items.size hi-HT.sIx items.size 0 lo)==items.size)=AB then _ else _) _ _ s;rw[if_pos hyes];refine AH (AH (Fk ht.typeIs (AV ?_)));rw[if_pos (by decide)]
 first
  |exact AH (AV (AV ⟨_,rfl,AV h⟩))
  |exact AH (Ee (AV ⟨_,rfl,AV h⟩))
  |(wp_step;wp_step;exact⟨_,rfl,AV h⟩)
noncomputable def yfW(K:AE):V->Option Int->Option Int->Hp->VK->Prop:=λx lo hi H Q=>∃a xs,x=.ref a/\SqT K H a xs /\
 (HT.sIx xs.length 0 lo=0/\HT.sIx xs.length xs.length hi=xs.length)/\Q (.ref a) H
theorem ziU:SlR X (yfW X.K):=by
 intro pins s σ H x v vl vu lo hi sl Q I rx hs pl pu h;let⟨a,xs,rfl,hx,hw,q⟩:=h
 cases rx
 let⟨its,r,ht,hz⟩:=I.tuple hx;have hlen:its.toArray.size=xs.length:=by rw[AX];exact r.length.symm
 refine⟨"tuple",_,BG.lookup,ht.typeIs,?_⟩;exact zbh ht hs pl pu (by rw[hlen];exact hw) ⟨.ref a,H,I,rfl,q⟩
noncomputable def yfi:V->Option Int->Option Int->Hp->VK->Prop:=λx lo hi H Q=>∃y:AR,x=.str y/\y.length<=sizeLine/\Q (.str ⟨((y.cps.toList.drop (HT.sIx y.cps.toList.length 0 lo)).take (HT.sIx y.cps.toList.length y.cps.toList.length hi-HT.sIx y.cps.toList.length 0 lo)).toArray⟩) H
theorem yfe(lo hi:Option Int)(n:Nat):Dn lo hi 1 n=sliceRange ((HT.sIx n 0 lo:Nat):Int) ((HT.sIx n n hi:Nat):Int) 1:=by
 unfold Dn;erw[show (1:Int) > 0 by decide,if_true]
 congr 1
 .cases lo with
  |none=>simp[HT.sIx]
  |some i=>
   erw[HT.sIx]
   by_cases h:i<0
   .simp only[h,if_true]<;>lia
   .simp only[h,if_false]<;>lia
 .cases hi with
  |none=>simp[HT.sIx]
  |some i=>
   erw[HT.sIx]
   by_cases h:i<0
   .simp only[h,if_true]<;>lia
   .simp only[h,if_false]<;>lia
theorem zgT(y:AR)(lo hi:Option Int):Txt.slice y lo hi=⟨((y.cps.toList.drop (HT.sIx y.cps.toList.length 0 lo)).take (HT.sIx y.cps.toList.length y.cps.toList.length hi-HT.sIx y.cps.toList.length 0 lo)).toArray⟩:=by
 have hn:y.length=y.cps.toList.length:=by simp[Str.length]
 unfold Txt.slice;rw[yfe,hn,sliceRange_one];have ha:=HT.sIx_le y.cps.toList.length 0 (DC _) lo;have hb:=HT.sIx_le y.cps.toList.length y.cps.toList.length (AT _) hi;generalize HT.sIx y.cps.toList.length 0 lo=a at *;generalize HT.sIx y.cps.toList.length y.cps.toList.length hi=b at *;split
 .rename_i c;erw[BC,List.length_range,AK,beq_iff_eq]at c;obtain⟨rfl,rfl⟩:a=0/\b=y.cps.toList.length:=by lia
  rw[Ge,Nat.sub_zero,GL]
 .rw[pick_run]
theorem zkA:SlR X yfi:=by
 intro pins s σ H x v vl vu lo hi sl Q I rx hs pl pu h;let⟨y,rfl,hz,q⟩:=h;let⟨t,rfl⟩:=rx;rw[<-zgT]at q;refine⟨"str",_,PySem.F.slot_str_getitem.lookup,Gb _ _ _,?_⟩;have go:∀l u:Option (Int×HV),vl=partValue l->vu=partValue u->lo=l.map (·.1)->hi=u.map (·.1)->A1 (model X.prog X.w) X.A (getItem (.str y t) (.ref sl)) (EP X pins σ Q) X.xe s:=by
  rintro l u rfl rfl rfl rfl
  refine wpAny_getItem_str_slice (l:=l) (u:=u) (st:=AD) hs rfl ?_;exact post_val_or_str ⟨BW (Txt.slice_le y _ _) hz,λt' k=>⟨.str _,H,I.tok k,⟨_,rfl⟩,q⟩⟩
 cases pl with
 |none=>
  cases pu with
  |none=>exact go AD AD rfl rfl rfl rfl
  |int j u=>exact go AD (AA (j,u)) rfl rfl rfl rfl
 |int i t1=>
  cases pu with
  |none=>exact go (AA (i,t1)) AD rfl rfl rfl rfl
  |int j u=>exact go (AA (i,t1)) (AA (j,u)) rfl rfl rfl rfl
theorem zlL:SlR X (rSl S X):=by
 rintro pins s σ H x v vl vu lo hi sl Q I rx hs pl pu ⟨B,φ,st,w,z,rs,rw,e,q⟩
 have e1:∀n o,ycp n o=HT.sIx n 0 o:=λn o=>by cases o<;>rfl
 have e2:∀n o,ycN n o=HT.sIx n n o:=λn o=>by cases o<;>rfl
 cases w with
 |tp k vs=>
  erw[ycm]at e;split at e
  .rename_i c
   cases e
   have rw':=rw;erw[yd]at rw;let⟨p,xs,rfl,rt,l⟩:=rw;refine ziU pins s σ H _ v vl vu lo hi sl Q I rx hs pl pu ⟨p,xs,rfl,rt.sq,?_,q _ H φ .rfl rs rw'⟩;rw[l.length,e1,e2]at c;exact c
  .rename_i c
   cases e
   erw[yd]at rw;let⟨p,xs,rfl,rt,l⟩:=rw;refine zmw pins s σ H _ v vl vu lo hi sl Q I rx hs pl pu ⟨p,xs,rfl,rt.sq,?_,λt ht=>q _ _ φ (.upd ht) (rs.upd ht) (.tup_new ht rs (l.cut lo hi))⟩;rw[l.length,e1,e2]at c;exact c
 |str y=>
  erw[ycm]at e;split at e
  .rename_i c
   cases e
   erw[yd]at rw;subst rw;refine zkA pins s σ H _ v vl vu lo hi sl Q I rx hs pl pu ⟨y,rfl,by rw[<-zA];exact c,?_⟩;have:=q (.str ⟨(cut y.cps.toList lo hi).toArray⟩) H φ .rfl rs (by erw[yd]);rw[cut,e1,e2]at this;exact this
  .cases e
 |lst vs=>
  erw[ycm]at e
  cases e
  erw[yd]at rw;let⟨p,xs,rfl,rt,l⟩:=rw;exact zhC pins s σ H _ v vl vu lo hi sl Q I rx hs pl pu ⟨p,xs,rfl,rt.sq,λt ht=>q _ _ φ (.upd ht) (rs.upd ht) (.lst_new ht rs (l.cut lo hi))⟩
 |scr vs=>
  erw[ycm]at e
  cases e
  erw[yd]at rw;let⟨p,xs,rfl,rt,l⟩:=rw;exact zhC pins s σ H _ v vl vu lo hi sl Q I rx hs pl pu ⟨p,xs,rfl,(by rcases rt with rt|rt;exact .inl rt.1;exact .inr rt),λt ht=>q _ _ φ (.upd ht) (rs.upd ht) (.lst_new ht rs (l.cut lo hi))⟩
 |_=>cases e
theorem zmS{lo hi:Option AU}(ha:PE X a (tE S X ca))(hl:PO X lo (tO S X cb))(hh:PO X hi (tO S X cc)):PE X (.Subscript a (.Slice lo hi AD p2) pos) (tE S X (.slc ca cb cc)):=
 (zjx zlL ha hl hh).imp λσ H Q ⟨B,φ,st,ρ,rs,re,h⟩=>by
  erw[ev]at h;have oi:∀{v:PV} {x:V} {o:Option Int} {B φ H},yd X.K S.cl B φ H v x->ybQ v=AA o->(x=.non/\o=AD) \/ ∃i,x=.int i/\o=AA i:=λ{v x o B φ H} r e=>by
   cases v with
   |non=>erw[yd]at r;cases e;exact .inl ⟨r,rfl⟩
   |int i=>erw[yd]at r;cases e;exact .inr ⟨i,r,rfl⟩
   |_=>cases e
  refine tE.bind rs re h λx H1 v st1 φ1 s1 rs1 re1 rv h1=>tE.bind rs1 re1 h1 λy H2 w st2 φ2 s2 rs2 re2 rw h2=>?_
  cases eo:ybQ w with
  |none=>rw[eo]at h2;exact h2.elim
  |some o1=>
   rw[eo]at h2;have key:tO S X cc σ H2 λu H3=>rSl S X x o1 u H3 Q:=by
    refine tE.bind rs2 re2 h2 λy' H3 w' st3 φ3 s3 rs3 re3 rw' h3=>?_;let⟨z,e,q⟩:=zab h3 rs3;unfold ycf at e
    cases eo':ybQ w' with
    |none=>rw[eo']at e;cases e
    |some o2=>
     rw[eo']at e;have fin:rSl S X x o1 o2 H3 Q:=⟨B,φ3,st3,v,z,rs3,(rv.step s2).step s3,e,q⟩;rcases oi rw' eo' with⟨rfl,rfl⟩|⟨i,rfl,rfl⟩
     .exact .inl ⟨rfl,fin⟩
     .exact .inr ⟨i,rfl,fin⟩
   rcases oi rw eo with⟨rfl,rfl⟩|⟨i,rfl,rfl⟩
   .exact .inl ⟨rfl,key⟩
   .exact .inr ⟨i,rfl,key⟩
end
section
variable {S:Se}{X:Cx}{σ:St}{B:AI->Prop}{φ φ1:Ph}{H H1:Hp}{st:SO}{ρ:IC.Env}{p pos p2:CP}{a b c d:AU}{ca cb cc:Ce}{es:List AU}{ces:Ces}{K:AE}{cl:Nat->AI}
def rB(S:Se)(X:Cx)(k:Blt):List V->Hp->VK->Prop:=λxs H Q=>∃B φ st vs z,yr X.K S.cl B φ H st/\ye X.K S.cl B φ H vs xs/\yah k st vs=AA z /\
 ∀z' H' φ',Step φ H φ' H'->yr X.K S.cl B φ' H' st->yd X.K S.cl B φ' H' z z'->Q z' H'
theorem ye.one{v:PV}{xs:List V}(l:ye K cl B φ H [v] xs):∃x,xs=[x]/\yd K cl B φ H v x:=by
 erw[ye]at l;let⟨y,ys,rfl,r,rfl⟩:=l;exact⟨y,rfl,r⟩
theorem ye.two{v w:PV}{xs:List V}(l:ye K cl B φ H [v,w] xs):∃x y,xs=[x,y]/\yd K cl B φ H v x/\yd K cl B φ H w y:=by
 erw[ye]at l;let⟨y,ys,rfl,r,z,zs,rfl,r2,rfl⟩:=l;exact⟨y,z,rfl,r,r2⟩
theorem zcG{k:Blt}{st:SO}{vs:List PV}{z:PV}(h:yah k st vs=AA z)(h2:∀x y,yah k st [x,y]=AD):∃x,vs=[x]:=by
 match vs,h with
 |[x],_=>exact⟨x,rfl⟩
 |[x,y],h=>rw[h2]at h;cases h
theorem zc1{v:PV}{x:V}{vs:List PV}(rs:yr K cl B φ H st)(r:yd K cl B φ H v x)(h:yU st v=AA vs):∃a xs,x=.ref a/\SqL K H a xs/\ye K cl B φ H vs xs:=by
 cases v with
 |lst ws=>
  cases h
  erw[yd]at r;let⟨a,xs,rfl,rt,l⟩:=r;exact⟨a,xs,rfl,rt.sq,l⟩
 |loc n=>
  erw[yU]at h;split at h
  .rename_i ws hw
   cases h
   let⟨a,xs,rfl,_,hx,l⟩:=rs.list r hw;exact⟨a,xs,rfl,.of hx,l⟩
  .cases h
 |_=>cases h
theorem zm1{v:PV}{x:V}{vs:List PV}(rs:yr K cl B φ H st)(r:yd K cl B φ H v x)(h:ybO st v=AA vs):∃a xs,x=.ref a/\(SqL K H a xs \/ SqT K H a xs)/\ye K cl B φ H vs xs:=by
 cases v with
 |tp k ws=>
  cases h
  erw[yd]at r;let⟨a,xs,rfl,rt,l⟩:=r;exact⟨a,xs,rfl,.inr rt.sq,l⟩
 |lst ws=>
  let⟨a,xs,e,q,l⟩:=zc1 rs r (vs:=vs) h;exact⟨a,xs,e,.inl q,l⟩
 |loc n=>
  let⟨a,xs,e,q,l⟩:=zc1 rs r (vs:=vs) h;exact⟨a,xs,e,.inl q,l⟩
 |_=>cases h
theorem znj:yac X (.builtin "len") (rB S X .len):=by
 rintro pins s σ H xs us Q I r ⟨B,φ,st,vs,z,rs,l,e,q⟩
 let⟨v,rfl⟩:=zcG e λ_ _=>rfl;let⟨x,rfl,rv⟩:=l.one;erw[yah,lenV]at e;split at e
 .rename_i t;split at e
  .rename_i c
   cases e
   erw[yd]at rv;subst rv;exact zdZ pins s σ H _ us Q I r ⟨t,rfl,by rw[<-zA];exact c,q _ H φ .rfl rs (by erw[yd])⟩
  .cases e
 .cases e1:ybO st v with
  |none=>rw[e1]at e;cases e
  |some ws=>
   rw[e1]at e
   cases e
   let⟨a,ys,rfl,h,l⟩:=zm1 rs rv e1;refine zeD pins s σ H _ us Q I r ⟨a,ys,rfl,?_,q _ H φ .rfl rs (by erw[yd];rw[l.length])⟩;exact h
theorem znU:yac X (.type "int") (rB S X .int):=by
 rintro pins s σ H xs us Q I r ⟨B,φ,st,vs,z,rs,l,e,q⟩
 let⟨v,rfl⟩:=zcG e λ_ _=>rfl;let⟨x,rfl,rv⟩:=l.one;erw[yah]at e
 cases v with
 |int i=>
  cases e
  erw[yd]at rv;subst rv;exact zd9 pins s σ H _ us Q I r (.inl ⟨i,rfl,q _ H φ .rfl rs (by erw[yd])⟩)
 |bl k=>
  cases e
  erw[yd]at rv;subst rv;exact zd9 pins s σ H _ us Q I r (.inr ⟨k,rfl,q _ H φ .rfl rs (by erw[yd,bi])⟩)
 |_=>cases e
theorem zk6{k:Blt}{st:SO}{vs:List PV}{z:PV}(h:yah k st vs=AA z)(h2:∀x,yah k st [x]=AD):∃x y,vs=[x,y]:=by
 match vs,h with
 |[x,y],_=>exact⟨x,y,rfl⟩
 |[x],h=>rw[h2]at h;cases h
theorem znI(hc:X.calm=AB):yac X (.builtin "min") (rB S X .min):=by
 rintro pins s σ H xs us Q I r ⟨B,φ,st,vs,z,rs,l,e,q⟩
 let⟨v,w,rfl⟩:=zk6 e λ_=>rfl;let⟨x,y,rfl,rv,rw⟩:=l.two;erw[yah,yeZ]at e;split at e
 .cases e
  erw[yd]at rv rw;subst rv rw;exact zik hc pins s σ H _ us Q I r ⟨_,_,rfl,q _ H φ .rfl rs (by erw[yd])⟩
 .cases e
theorem zjG:∀{vs:List PV} {m:Int},ydq vs=AA m->∃ns:List Int,vs=ns.map .int/\m∈ns/\∀a∈ns,a<=m
 |[],m,h=>by cases h
 |[.int i],m,h=>by cases h;exact⟨[i],rfl,by simp,by simp⟩
 |.int i::w::r,m,h=>by
  erw[ydq]at h;split at h
  .rename_i c e
   cases h
   let⟨ns,e1,e2,e3⟩:=zjG e;refine⟨i::ns,by rw[e1];rfl,?_,λa ha=>?_⟩
   .split
    .exact AY _ e2
    .exact BE
   .rcases A3.mp ha with rfl|ha
    .split<;>lia
    .have:=e3 a ha;split<;>lia
  .cases h
 |.non::r,m,h=>by cases r<;>cases h
 |.bl _::r,m,h=>by cases r<;>cases h
 |.str _::r,m,h=>by cases r<;>cases h
 |.tp _ _::r,m,h=>by cases r<;>cases h
 |.lst _::r,m,h=>by cases r<;>cases h
 |.loc _::r,m,h=>by cases r<;>cases h
 |.exn _::r,m,h=>by cases r<;>cases h
 |.scr _::r,m,h=>by cases r<;>cases h
theorem ye.ints:∀{ns:List Int} {xs:List V},ye K cl B φ H (ns.map .int) xs->xs=ns.map V.int
 |[],xs,h=>by simpa only[Ac,ye] using h
 |n::ns,xs,h=>by
  erw[AL,ye]at h;let⟨y,ys,rfl,r,l⟩:=h;erw[yd]at r;rw[r,ye.ints l];rfl
theorem ye.bls:∀{ns:List Bool} {xs:List V},ye K cl B φ H (ns.map .bl) xs->xs=ns.map V.bl
 |[],xs,h=>by simpa only[Ac,ye] using h
 |n::ns,xs,h=>by
  erw[AL,ye]at h;let⟨y,ys,rfl,r,l⟩:=h;erw[yd]at r;rw[r,ye.bls l];rfl
theorem zlJ{v w z:PV}(e:maxV v w=AA z):∃i j,v=.int i/\w=.int j/\z=.int (if i<j then j else i):=by
 unfold maxV at e;split at e
 .exact⟨_,_,rfl,rfl,(AZ e).symm⟩
 .cases e
theorem zng(hc:X.calm=AB):yac X (.builtin "max") (rB S X .max):=by
 rintro pins s σ H xs us Q I r ⟨B,φ,st,vs,z,rs,l,e,q⟩
 rcases vs with _|⟨v,_|⟨w,_|⟨u',t⟩⟩⟩
 .simp[yah]at e
 .let⟨x,rfl,rv⟩:=l.one;erw[yah]at e
  cases e1:yU st v with
  |none=>rw[e1]at e;cases e
  |some ws=>
   rw[e1]at e;erw[Bk]at e
   cases e2:ydq ws with
   |none=>rw[e2]at e;cases e
   |some m=>
    rw[e2]at e;obtain rfl:=AZ e;let⟨ns,rfl,hm,hb⟩:=zjG e2;let⟨a,ys,rfl,h,l⟩:=zc1 rs rv e1;rw[l.ints]at h;refine zh8 hc pins s σ H _ us Q I r ⟨a,ns,rfl,h,List.length_pos_of_mem hm,λM h1 h2=>?_⟩;have:M=m:=by
     have:=hb M h1;have:=h2 m hm;lia
    subst this;exact q _ H φ .rfl rs (by erw[yd])
 .let⟨x,y,rfl,rv,rw⟩:=l.two;have e:maxV v w=AA z:=e;let⟨i,j,rfl,rfl,rfl⟩:=zlJ e;erw[yd]at rv rw;subst rv rw;exact zg8 hc pins s σ H _ us Q I r ⟨i,j,rfl,q (.int (if i<j then j else i)) H φ .rfl rs (by erw[yd])⟩
 .simp[yah]at e
theorem ziJ:yac X (.type "tuple") (rB S X .tuple):=by
 rintro pins s σ H xs us Q I r ⟨B,φ,st,vs,z,rs,l,e,q⟩
 let⟨v,rfl⟩:=zcG e λ_ _=>rfl;let⟨x,rfl,rv⟩:=l.one;erw[yah,yeb]at e;split at e
 .cases e
  erw[yd]at rv;let⟨a,ys,rfl,rt,l⟩:=rv;exact zbN pins s σ H _ us Q I r ⟨a,ys,rfl,.inr ⟨rt.sq,q _ H φ .rfl rs (by erw[yd];exact⟨a,ys,rfl,rt,l⟩)⟩⟩
 .cases e1:yU st v with
  |none=>rw[e1]at e;cases e
  |some ws=>
   rw[e1]at e
   cases e
   let⟨a,ys,rfl,h,l⟩:=zc1 rs rv e1;exact zbN pins s σ H _ us Q I r ⟨a,ys,rfl,.inl ⟨h,λt ht=>q _ _ φ (.upd ht) (rs.upd ht) (.tup_new ht rs l)⟩⟩
theorem zjO:∀{vs:List PV} {m:Bool},IC.allB vs=AA m->∃ns:List Bool,vs=ns.map .bl/\m=ns.all id
 |[],m,h=>by cases h;exact⟨[],rfl,rfl⟩
 |.bl i::r,m,h=>by
  erw[IC.allB]at h;split at h
  .rename_i c e
   cases h
   let⟨ns,e1,e2⟩:=zjO e;exact⟨i::ns,by rw[e1];rfl,by rw[e2];rfl⟩
  .cases h
 |.non::r,m,h=>by cases h
 |.int _::r,m,h=>by cases h
 |.str _::r,m,h=>by cases h
 |.tp _ _::r,m,h=>by cases h
 |.lst _::r,m,h=>by cases h
 |.loc _::r,m,h=>by cases h
 |.exn _::r,m,h=>by cases h
 |.scr _::r,m,h=>by cases h
theorem znY(hc:X.calm=AB):yac X (.builtin "all") (rB S X .all):=by
 rintro pins s σ H xs us Q I r ⟨B,φ,st,vs,z,rs,l,e,q⟩
 let⟨v,rfl⟩:=zcG e λ_ _=>rfl;let⟨x,rfl,rv⟩:=l.one;erw[yah]at e
 cases e1:yU st v with
 |none=>rw[e1]at e;cases e
 |some ws=>
  rw[e1]at e;erw[Bk]at e
  cases e2:IC.allB ws with
  |none=>rw[e2]at e;cases e
  |some m=>
   rw[e2]at e
   cases e
   let⟨ns,rfl,rfl⟩:=zjO e2;let⟨a,ys,rfl,h,l⟩:=zc1 rs rv e1;rw[l.bls]at h;exact zjs hc pins s σ H _ us Q I r ⟨a,ns,rfl,h,q _ H φ .rfl rs (by erw[yd])⟩
variable {x:AR}{id T:String}{k:Blt}
theorem znM(hc:yac X (.builtin id) (rB S X k))(hg:Gl X x)(hm:X.mg x=AD)(hv:bootBuiltins x=AA (.builtin id))(ha:PA X (a::es) (tAs S X ces))(hn:x ≠ "__name__":=by decide)(hdb:(x==("__debug__":AR))=false:=by decide)
  (he:starEach (a::es) X.env=(AC,eval a X.env)::starEach es X.env:=by rfl) (hpl:(backTo pos (starEach es X.env)).any (·.1)=false:=by rfl):PE X (.Call (.Name x p) (a::es) [] pos) (tE S X (.blt k ces)):=
 (zfK hc hg hm hv ha hn hdb he hpl).imp λσ H Q ⟨B,φ,st,ρ,rs,re,h⟩=>by
  erw[ev]at h;refine tAs.bind rs re h λxs H1 vs st1 φ1 s1 rs1 re1 rv h1=>?_;let⟨z,e,q⟩:=zab h1 rs1;exact⟨B,φ1,st1,vs,z,rs1,rv,e,q⟩
theorem zkO(hc:yac X (.type T) (rB S X k))(hg:Gl X x)(hm:X.mg x=AD)(hv:bootBuiltins x=AA (.type T))(ha:PA X (a::es) (tAs S X ces))(hn:x ≠ "__name__":=by decide)(hdb:(x==("__debug__":AR))=false:=by decide)
  (he:starEach (a::es) X.env=(AC,eval a X.env)::starEach es X.env:=by rfl) (hpl:(backTo pos (starEach es X.env)).any (·.1)=false:=by rfl):PE X (.Call (.Name x p) (a::es) [] pos) (tE S X (.blt k ces)):=
 (zii hc hg hm hv ha hn hdb he hpl).imp λσ H Q ⟨B,φ,st,ρ,rs,re,h⟩=>by
  erw[ev]at h;refine tAs.bind rs re h λxs H1 vs st1 φ1 s1 rs1 re1 rv h1=>?_;let⟨z,e,q⟩:=zab h1 rs1;exact⟨B,φ1,st1,vs,z,rs1,rv,e,q⟩
end
section
variable {S:Se}{X:Cx}{σ:St}{B:AI->Prop}{φ φ1:Ph}{H H1:Hp}{st:SO}{ρ:IC.Env}{p pos p2 apos:CP}{a b c d:AU}{ca cb cc:Ce}{es:List AU}{ces:Ces}{K:AE}{cl:Nat->AI}
theorem Step.put{l:AI}{u:HO}(hl:AA l∈φ):Step φ H φ (L2.upd H l u):=
 ⟨λb o n e=>by rw[zh (show b≠l from λz=>n (by rw[z];exact hl))];exact e,AT _,λ_ _ _ e=>e,λ_ h=>.inl h⟩
theorem yr.put{n:Nat}{l:AI}{u:HO}{o:Ob}(rs:yr K cl B φ H st)(hn:φ[n]?=AA (AA l))(ho:yb8 K cl B φ (L2.upd H l u) o l):yr K cl B φ (L2.upd H l u) (st.set n o):=by
 have hm:AA l∈φ:=A2 hn;have s:Step φ H φ (L2.upd H l u):=.put hm;have hlt:n<st.length:=by rw[<-rs.len];exact(BJ.mp hn).1
 refine⟨by rw[B3];exact rs.len,rs.inj,λm a e=>?_,λm o' e ho'=>?_,rs.nb,λa h=>?_⟩
 .by_cases hmn:m=n
  .subst hmn;rw[hn]at e;cases e;exact⟨o,by rw[A6 hlt],ho⟩
  .let⟨o',q,r⟩:=rs.obj m a e;refine⟨o',by rw[AO (BK hmn)];exact q,r.step s ?_⟩;rw[zh]
   rintro rfl
   exact hmn (rs.inj m n a e hn)
 .by_cases hmn:m=n
  .subst hmn;exact⟨l,hn⟩
  .rw[AO (BK hmn)]at e;exact rs.liv m o' e ho'
 .let⟨w,e⟩:=rs.dom a h
  by_cases z:a=l
  .subst z;exact⟨u,zq⟩
  .exact⟨w,by rw[zh z];exact e⟩
theorem ybS:1000000<=sizeLine:=by rw[D2];decide
theorem zgM{m:Mth}{v:PV}{st:SO}{α β:Type}{Rel:Ph->Hp->α->β->Prop}{k:Bool->R α}{Q:β->Hp->Prop}(h:Run S X σ B φ H Rel (onO (yaE m st v) k) Q):∃b,yaE m st v=AA b/\Run S X σ B φ H Rel (k b) Q:=by
 cases e:yaE m st v with
 |none=>rw[e]at h;exact h.elim
 |some z=>rw[e]at h;exact⟨z,rfl,h⟩
theorem zhy(ha:PE X a (tE S X ca))(hb:PE X b (tE S X cb))(hs:starEach [b] X.env=[(AC,eval b X.env)]:=by rfl)(hbase:attributeBase a "append" X.env (eval a X.env)=eval a X.env:=by rfl)(hline:(apos.endLine==pos.line)=true:=by rfl)
  (hfew:((backTo pos (starEach [b] X.env)).all (λx=>!x.1)&&(backToKw pos (keywordEach [] X.env)).all (λx=>x.1.isSome)&&decide (([b]:List AU).length+([]:List C2).length+(if ([]:List C2).isEmpty then 0 else 1)<30))=true:=by rfl):
  PE X (.Call (.Attribute a "append" apos) [b] [] pos) (tE S X (.mth .append ca (.cons cb .nil))):=
 (zon PySem.F.plainAttrs_list Ez PySem.F.type_list_append zd7 ha (zdX (S:=S) hb zgN hs) hbase hfew hline hs rfl).imp λσ H Q ⟨B,φ,st,ρ,rs,re,h⟩=>by
  erw[ev]at h;refine tE.bind rs re h λx H1 v st1 φ1 s1 rs1 re1 rv h1=>?_;let⟨_,e1,h1⟩:=zgM h1;have t1:∃ws,yU st1 v=AA ws:=by
   erw[yaE]at e1
   cases q:yU st1 v with
   |none=>rw[q]at e1;cases e1
   |some ws=>exact⟨ws,rfl⟩
  let⟨ws,t1⟩:=t1;let⟨l,xs,rfl,hl,_⟩:=zc1 rs1 rv t1;refine⟨.inl ⟨rfl,xs,hl⟩,tAs.bind rs1 re1 h1 λys H2 vs st2 φ2 s2 rs2 re2 rvs h2=>?_⟩;have rv2:=rv.step s2;rcases vs with _|⟨w,_|⟨w',t⟩⟩
  .exact h2.elim
  .let⟨y,rfl,rw⟩:=rvs.one;unfold yca at h2;erw[ydx]at h2;split at h2
   .rename_i n;split at h2
    .rename_i zs hz;split at h2
     .rename_i c;let⟨l',xs',e,hn,hx,lr⟩:=rs2.list rv2 hz
      cases e
      refine⟨l,xs',y,rfl,rfl,hx,by have:=ybS;have:=lr.length;lia,?_⟩;exact h2 _ _ φ2 (.put (A2 hn)) (rs2.put hn ⟨_,zq,(lr.append (by erw[ye];exact⟨y,[],rfl,rw,rfl⟩)).step (.put (A2 hn))⟩) (by erw[yd])
     .exact h2.elim
    .exact h2.elim
   .exact h2.elim
  .exact h2.elim
theorem zmP(ha:PE X a (tE S X ca)):PE X a (tE S X (.frz ca)):=
 ha.imp λσ H Q ⟨B,φ,st,ρ,rs,re,h⟩=>by
  erw[ev]at h;refine tE.bind rs re h λx H1 v st1 φ1 s1 rs1 re1 rv h1=>?_;unfold ydb at h1;split at h1
  .rename_i n;split at h1
   .rename_i vs hv;let⟨l,xs,rfl,hn,hx,lr⟩:=rs1.list rv hv;have hm:AA l∈φ1:=A2 hn;have hlt:n<φ1.length:=(BJ.mp hn).1;have nl:AA l∉φ1.set n none:=λz=>by
     let⟨m,e⟩:=DQ.mp z
     by_cases hmn:m=n
     .subst hmn;rw[A6 hlt]at e;cases e
     .rw[AO (BK hmn)]at e;exact hmn (rs1.inj m n l e hn)
    have sb:∀b,AA b∈φ1.set n AD->AA b∈φ1:=λb z=>by
     let⟨m,e⟩:=DQ.mp z
     by_cases hmn:m=n
     .subst hmn;rw[A6 hlt]at e;cases e
     .rw[AO (BK hmn)]at e;exact A2 e
    have s:Step φ1 H1 (φ1.set n AD) H1:=⟨λ_ _ _ e=>e,by simp,λm a hm' e=>by
     by_cases hmn:m=n
     .subst hmn;rw[A6 hlt]at e;cases e
     .rw[AO (BK hmn)]at e;exact e,λb z=>.inl (sb b z)⟩
    refine h1 _ H1 (φ1.set n AD) s ⟨by simp[rs1.len],λm k a e1 e2=>?_,λm a e=>?_,λm o e ho=>?_,λa z=>rs1.nb a (sb a z),rs1.dom⟩ ?_
    .by_cases h1':m=n
     .subst h1';rw[A6 hlt]at e1;cases e1
     .by_cases h2':k=n
      .subst h2';rw[A6 hlt]at e2;cases e2
      .rw[AO (BK h1')]at e1;rw[AO (BK h2')]at e2;exact rs1.inj m k a e1 e2
    .by_cases hmn:m=n
     .subst hmn;rw[A6 hlt]at e;cases e
     .rw[AO (BK hmn)]at e;let⟨o,q,r⟩:=rs1.obj m a e;exact⟨o,by rw[AO (BK hmn)];exact q,r.step s rfl⟩
    .by_cases hmn:m=n
     .subst hmn;rw[A6 (by rw[<-rs1.len];exact hlt)]at e;cases e;exact absurd rfl ho
     .rw[AO (BK hmn)]at e ⊢;exact rs1.liv m o e ho
    .simp only[yd];exact⟨l,xs,rfl,⟨hx,rs1.nb l hm,nl⟩,lr.step s⟩
   .exact h1.elim
  .exact h1.ok rs1 rv
end
section
variable (S:Se)(X:Cx)
def yaw(B:AI->Prop)(φ:Ph)(H:Hp)(f:Fl)(D:Ends):Prop:=
 match f with
 |.nx ρ' st'=>∀σ' H' φ',Step φ H φ' H'->yr X.K S.cl B φ' H' st'->yG X.K S.cl B φ' H' ρ' σ'->D.nx σ' H'
 |.rt v st'=>∀x H' φ',Step φ H φ' H'->yr X.K S.cl B φ' H' st'->yd X.K S.cl B φ' H' v x->D.rt x H'
 |.bk ρ' st'=>∀σ' H' φ',Step φ H φ' H'->yr X.K S.cl B φ' H' st'->yG X.K S.cl B φ' H' ρ' σ'->D.bk σ' H'
 |.ct ρ' st'=>∀σ' H' φ',Step φ H φ' H'->yr X.K S.cl B φ' H' st'->yG X.K S.cl B φ' H' ρ' σ'->D.ct σ' H'
 |.exc k ρ' st'=>∀σ' φ1 H1 e s',Step φ H φ1 H1->yG X.K S.cl B φ1 H1 ρ' σ'->ExcAt S X σ' B φ1 H1 k st' e s'->X.xe e s'
 |.bad=>False
def tS(c:Cs):TS:=λD σ H=>∃B φ st ρ,yr X.K S.cl B φ H st/\yG X.K S.cl B φ H ρ σ/\yaw S X B φ H (ex S.call ρ st c) D
def tSs(c:Css):TS:=λD σ H=>∃B φ st ρ,yr X.K S.cl B φ H st/\yG X.K S.cl B φ H ρ σ/\yaw S X B φ H (exs S.call ρ st c) D
end
section
variable {S:Se}{X:Cx}{σ:St}{B:AI->Prop}{φ φ1:Ph}{H H1:Hp}{st:SO}{ρ:IC.Env}{D:Ends}{pos p2 px:CP}{a b c o:AU}{ca cb cc:Ce}{s1:Bt}{ss ss':List Bt}{c1:Cs}{cs cs':Css}
theorem yaw.on{f:Fl}(s:Step φ H φ1 H1)(h:yaw S X B φ H f D):yaw S X B φ1 H1 f D:=by
 cases f with
 |nx ρ st=>exact λσ' H' φ' t=>h σ' H' φ' (s.trans t)
 |rt ρ st=>exact λσ' H' φ' t=>h σ' H' φ' (s.trans t)
 |bk ρ st=>exact λσ' H' φ' t=>h σ' H' φ' (s.trans t)
 |ct ρ st=>exact λσ' H' φ' t=>h σ' H' φ' (s.trans t)
 |exc k ρ st=>exact λσ' φ2 H2 e s' t=>h σ' φ2 H2 e s' (s.trans t)
 |bad=>exact h
theorem tE.fl{k:PV->SO->Fl}{P:V->Hp->Prop}(rs:yr X.K S.cl B φ H st)(re:yG X.K S.cl B φ H ρ σ)(h:yaw S X B φ H ((ev S.call ρ st ca).fl ρ k) D)
  (n:∀x H1 v st1 φ1,Step φ H φ1 H1->yr X.K S.cl B φ1 H1 st1->yG X.K S.cl B φ1 H1 ρ σ->yd X.K S.cl B φ1 H1 v x->yaw S X B φ1 H1 (k v st1) D->P x H1):tE S X ca σ H P:=by
 refine⟨B,φ,st,ρ,rs,re,?_⟩
 cases e:ev S.call ρ st ca with
 |ok v st'=>
  rw[e]at h;exact λx H' φ' s rs' rv=>n x H' v st' φ' s rs' (re.step s) rv (h.on s)
 |exc k st'=>
  rw[e]at h;exact λe s' x=>h σ φ H e s' .rfl re x
 |bad=>rw[e]at h;exact h
theorem PS.imp{t t':TS}(h:PS X s1 t')(k:∀D σ H,t D σ H->t' D σ H):PS X s1 t:=λpins s σ H D I q=>h pins s σ H D I (k D σ H q)
theorem PSs.imp{t t':TS}(h:PSs X ss t')(k:∀D σ H,t D σ H->t' D σ H):PSs X ss t:=λpins s σ H D I q=>h pins s σ H D I (k D σ H q)
theorem yG.set{K:AE}{cl:Nat->AI}(r:yG K cl B φ H ρ σ)(i:Nat){v:PV}{x:V}(rv:yd K cl B φ H v x):yG K cl B φ H (ρ.set i (AA v)) (σ.set i (AA x)):=by
 refine⟨by rw[B3,B3];exact r.len,λj w e=>?_⟩
 by_cases h:j=i
 .subst h
  by_cases hl:j<ρ.length
  .rw[A6 hl]at e
   cases e
   exact⟨x,by rw[A6 (by rw[<-r.len];exact hl)],rv⟩
  .rw[BV (by rw[B3];lia)]at e
   cases e
 .rw[AO (BK h)]at e ⊢;exact r.get j w e
theorem zmX:PSs X [] (tSs S X .nil):=ycr.imp λD σ H ⟨B,φ,st,ρ,rs,re,h⟩=>by
 erw[exs]at h;exact h σ H φ .rfl rs re
theorem zlO(h1:PS X s1 (tS S X c1))(h2:PSs X ss (tSs S X cs)):PSs X (s1::ss) (tSs S X (.cons c1 cs)):=
 (zfp h1 h2).imp λD σ H ⟨B,φ,st,ρ,rs,re,h⟩=>by
  erw[exs]at h;refine⟨B,φ,st,ρ,rs,re,?_⟩
  cases e:ex S.call ρ st c1 with
  |nx ρ1 st1=>
   rw[e]at h;exact λσ' H' φ' s rs' re'=>⟨B,φ',st1,ρ1,rs',re',h.on s⟩
  |rt v st1=>rw[e]at h;exact h
  |bk ρ1 st1=>rw[e]at h;exact h
  |ct ρ1 st1=>rw[e]at h;exact h
  |exc k ρ1 st1=>rw[e]at h;exact h
  |bad=>rw[e]at h;exact h
theorem zkF(he:PE X a (tE S X ca))(hs:swapsWith a AD pos.line X.env=pure false:=by rfl):PS X (.Expr a pos) (tS S X (.expr ca)):=
 (zlt he hs).imp λD σ H ⟨B,φ,st,ρ,rs,re,h⟩=>by
  erw[ex]at h;exact tE.fl rs re h λx H1 v st1 φ1 s rs1 re1 rv h1=>h1 σ H1 φ1 .rfl rs1 re1
theorem znA(he:PE X a (tE S X ca)):PS X (.Return (AA a) pos) (tS S X (.ret ca)):=
 (zkc he).imp λD σ H ⟨B,φ,st,ρ,rs,re,h⟩=>by
  erw[ex]at h;exact tE.fl rs re h λx H1 v st1 φ1 s rs1 re1 rv h1=>h1 x H1 φ1 .rfl rs1 rv
theorem zk0:PS X (.Return AD pos) (tS S X (.ret (.cst .non))):=
 ycF.imp λD σ H ⟨B,φ,st,ρ,rs,re,h⟩=>by
  erw[ex,ev,R.fl]at h;exact h .non H φ .rfl rs (by erw[yd])
theorem zm8{i:Nat}{x:AR}(hN:X.N.Nodup)(hi:X.N[i]?=AA x)(hx:Loc X.env.scope x)(he:PE X a (tE S X ca))(hs:swapsWith a (AA (.Name x px)) pos.line X.env=pure false:=by rfl)
  (hf:X.fn x=AB \/ X.env.scope.names.lookup x=AA .local:=by first|exact .inl rfl|exact .inr rfl|assumption):PS X (.Assign [.Name x px] a pos) (tS S X (.asg (.n i) ca)):=
 (zj4 hN hi hx he hs hf).imp λD σ H ⟨B,φ,st,ρ,rs,re,h⟩=>by
  erw[ex]at h;exact tE.fl rs re h λx H1 v st1 φ1 s rs1 re1 rv h1=>h1 _ H1 φ1 .rfl rs1 (re1.set i rv)
theorem flT(r:R PV)(f:Bool->SO->Fl):(r.fl ρ λx st1=>onF (yaF st1 x) λk=>f k st1)=(ya1 r).fl ρ f:=by
 cases r with
 |ok v s=>
  erw[R.fl,ya1,R.bind]
  cases yaF s v<;>rfl
 |exc c s=>rfl
 |bad=>rfl
theorem tTs.fl{k:Bool->SO->Fl}{P:Bool->Hp->Prop}(rs:yr X.K S.cl B φ H st)(re:yG X.K S.cl B φ H ρ σ)(h:yaw S X B φ H ((ya1 (ev S.call ρ st ca)).fl ρ k) D)
  (n:∀b H1 st1 φ1,Step φ H φ1 H1->yr X.K S.cl B φ1 H1 st1->yG X.K S.cl B φ1 H1 ρ σ->yaw S X B φ1 H1 (k b st1) D->P b H1):tTs S X ca σ H P:=by
 refine⟨B,φ,st,ρ,rs,re,?_⟩
 cases e:ya1 (ev S.call ρ st ca)with
 |ok v st'=>
  rw[e]at h;exact λx H' φ' s rs' rv=>by
   subst rv;exact n v H' st' φ' s rs' (re.step s) (h.on s)
 |exc k st'=>
  rw[e]at h;exact λe s' x=>h σ φ H e s' .rfl re x
 |bad=>rw[e]at h;exact h
theorem zoq(hc:PT X c (tTs S X cc))(ha:PSs X ss (tSs S X cs))(hb:PSs X ss' (tSs S X cs')):PS X (.If c ss ss' pos) (tS S X (.ite cc cs cs')):=
 (zov hc ha hb).imp λD σ H ⟨B,φ,st,ρ,rs,re,h⟩=>by
  erw[ex]at h;rw[flT _ λk st1=>cond k (exs S.call ρ st1 cs) (exs S.call ρ st1 cs')]at h;refine tTs.fl rs re h λk H1 st1 φ1 s rs1 re1 h1=>?_
  cases k with
  |true=>exact⟨B,φ1,st1,ρ,rs1,re1,h1⟩
  |false=>exact⟨B,φ1,st1,ρ,rs1,re1,h1⟩
theorem zn6{i:Nat}{x:AR}{op:D1}{bo:BOp}(hN:X.N.Nodup)(hi:X.N[i]?=AA x)(hx:Loc X.env.scope x)(he:PE X a (tE S X ca))(ho:PIp X op (rT2 S X (ybJ bo)))
  (hf:X.fn x=AB \/ X.env.scope.names.lookup x=AA .local:=by first|exact .inl rfl|exact .inr rfl|assumption) (hd:(x==("__debug__":AR))=false:=by decide) (hcd:(x==("__classdict__":AR))=false:=by decide):PS X (.AugAssign (.Name x px) op a pos) (tS S X (.aug i bo ca)):=
 (zjK hN hi hx he ho hf).imp λD σ H ⟨B,φ,st,ρ,rs,re,h⟩=>by
  erw[ex]at h
  cases q:ρ[i]? with
  |none=>rw[q]at h;exact h.elim
  |some w=>
   cases w with
   |none=>rw[q]at h;exact h.elim
   |some w=>
    rw[q]at h;let⟨y,hy,rw⟩:=re.get i w q;refine⟨y,hy,tE.fl rs re h λz H1 v st1 φ1 s rs1 re1 rv h1=>?_⟩
    cases e:ybJ bo w v with
    |none=>rw[e]at h1;exact h1.elim
    |some u=>
     rw[e]at h1;exact⟨B,φ1,st1,w,v,u,rs1,rw.step s,rv,e,λz' H' φ' s' rs' rz=>h1 _ H' φ' s' rs' ((re1.step s').set i rz)⟩
end
section
variable (S:Se)(X:Cx)
structure Drw(B:AI->Prop)(φ0:Ph)(H0:Hp)(xs:List PV)(J:It):Prop where
 stop:∀φ H,Step φ0 H0 φ H->J.stop xs.length H
 go:∀(i:Nat) φ H,Step φ0 H0 φ H->i<xs.length->J.go i H
 yld:∀(i:Nat) φ H st x H' (B':AI->Prop),(∀y,B' y->B y \/ H0 y=AD)->Step φ0 H0 φ H->yr X.K S.cl B' φ H st->i<xs.length->J.yld i H x H'->∃v,xs[i]?=AA v/\yd X.K S.cl B' φ H' v x/\∀b o,H b=AA o->H' b=AA o
noncomputable abbrev RD(B:AI->Prop):Ph->Hp->List PV->It->Prop:=λφ H=>Drw S X B φ H
def tI(c:Cit):TI:=λσ H R=>∃B φ st ρ,yr X.K S.cl B φ H st/\yG X.K S.cl B φ H ρ σ/\Run S X σ B φ H (RD S X B) (evi S.call ρ st c) R
end
section
variable {S:Se}{X:Cx}{σ:St}{B:AI->Prop}{φ φ1:Ph}{H H1:Hp}{st:SO}{ρ:IC.Env}{D:Ends}{pos p p2 px:CP}{a b c o tg l:AU}{ca cb cc:Ce}{es:List AU}{ces:Ces}{ss:List Bt}{cs:Css}{ci:Cit}{ct:Tg}
theorem zkZ:PE X a (tE S X .nope):=λpins s σ H Q I ⟨B,φ,st,ρ,rs,re,h⟩=>by
 erw[ev]at h;exact h.elim
theorem zkH{s1:Bt}:PS X s1 (tS S X .nope):=λpins s σ H D I ⟨B,φ,st,ρ,rs,re,h⟩=>by
 erw[ex]at h;exact h.elim
theorem PI.imp{t t':TI}(h:PI X tg l t')(k:∀σ H R,t σ H R->t' σ H R):PI X tg l t:=λpins s σ H R I q=>h pins s σ H R I (k σ H R q)
theorem znJ{tl:TE}(hl:PE X l tl):PI X tg l (λσ H R=>tl σ H λx H1=>∃a,x=.ref a/\(((∃xs,SqL X.K H1 a xs)/\R (Itl X.K a) H1) \/ ((∃xs,SqT X.K H1 a xs)/\R (Itt X.K a) H1))):=by
 intro pins s σ H R I h;refine thn (hl pins s σ H _ I h) λv s1 kq=>?_;let⟨x,H1,I1,r1,q1⟩:=kq;let⟨a,e,q1⟩:=q1;subst e
 cases r1
 rcases q1 with⟨⟨xs,hq⟩,q⟩|⟨⟨xs,hq⟩,q⟩
 .let⟨its,rv,p,hz⟩:=I1.list hq;refine EL p.isList ?_;refine⟨s1.heap.objs.size,[s1.heap.objs.size],_,_,H1,rfl,I1.kept (t':=s1.toks) λb o e=>AQ _ e,zhJ a _,⟨_,A0 _ rfl,rfl,rfl⟩,λb hb=>?_,q⟩;have e:b=s1.heap.objs.size:=by simpa using hb
  subst e;exact I1.fpOk (AT _) (I1.hok.fresh (AT _))
 .let⟨its,rv,p,hz⟩:=I1.tuple hq;refine Br (show s1.heap.IsTuple a its.toArray from p) ?_;refine⟨s1.heap.objs.size,[s1.heap.objs.size],_,_,H1,rfl,I1.kept (t':=s1.toks) λb o e=>AQ _ e,zgo a _,⟨_,A0 _ rfl,rfl,rfl⟩,λb hb=>?_,q⟩;have e:b=s1.heap.objs.size:=by simpa using hb
  subst e;exact I1.fpOk (AT _) (I1.hok.fresh (AT _))
theorem zll{k:Bool}{vs:List PV}{xs:List V}{y:AI}(rt:ybI X.K B φ H k y xs)(l:ye X.K S.cl B φ H vs xs):Drw S X B φ H vs (Itt X.K y):=by
 have hl:=l.length;refine⟨λφ' H' s=>⟨xs,(rt.step s).sq,by lia⟩,λi φ' H' s hi=>⟨xs,xs[i]'(by lia),(rt.step s).sq,by simp[show i<xs.length by lia]⟩,λi φ' H' st x H2 B' hB s rs hi q=>?_⟩;let⟨rfl,q⟩:=q;obtain⟨v,hv⟩:∃v,vs[i]?=AA v:=⟨vs[i],by simp[hi]⟩;let⟨x',hx',rv⟩:=l.get i hv;have:=q xs (rt.step s).sq;rw[this]at hx'
 cases hx'
 exact⟨v,hv,(rv.moreB hB).step s,λ_ _ e=>e⟩
theorem zkT{vs:List PV}{xs:List V}{y:AI}(rt:yco B φ H y xs)(l:ye X.K S.cl B φ H vs xs):Drw S X B φ H vs (Itl X.K y):=by
 have hl:=l.length;refine⟨λφ' H' s=>⟨xs,(rt.step s).sq,by lia⟩,λi φ' H' s hi=>⟨xs,xs[i]'(by lia),(rt.step s).sq,by simp[show i<xs.length by lia]⟩,λi φ' H' st x H2 B' hB s rs hi q=>?_⟩;let⟨rfl,q⟩:=q;obtain⟨v,hv⟩:∃v,vs[i]?=AA v:=⟨vs[i],by simp[hi]⟩;let⟨x',hx',rv⟩:=l.get i hv;have:=q xs (rt.step s).sq;rw[this]at hx'
 cases hx'
 exact⟨v,hv,(rv.moreB hB).step s,λ_ _ e=>e⟩
theorem zn5(hl:PE X l (tE S X ca)):PI X tg l (tI S X (.seq ca)):=
 (znJ hl).imp λσ H R ⟨B,φ,st,ρ,rs,re,h⟩=>by
  erw[evi]at h;refine tE.bind rs re h λx H1 v st1 φ1 s1 rs1 re1 rv h1=>?_
  cases v with
  |tp k vs=>
   erw[yd]at rv;let⟨y,xs,rfl,rt,l⟩:=rv;exact⟨y,rfl,.inr ⟨⟨xs,rt.sq⟩,h1.ok rs1 (zll rt l)⟩⟩
  |lst vs=>
   erw[yd]at rv;let⟨y,xs,rfl,rt,l⟩:=rv;exact⟨y,rfl,.inl ⟨⟨xs,rt.sq⟩,h1.ok rs1 (zkT rt l)⟩⟩
  |_=>exact h1.elim
theorem zdf:∀(n:Nat) (lo d:Int) (i:Nat),(yo n lo d)[i]?=if i<n then AA (.int (lo+i*d))else AD
 |0,lo,d,i=>by simp[yo]
 |n+1,lo,d,0=>by simp[yo]
 |n+1,lo,d,i+1=>by
  erw[yo,AM];rw[zdf n (lo+d) d i]
  by_cases h:i<n
  .rw[if_pos h,if_pos (by lia),Int.natCast_succ,HI,BR,Int.add_assoc,En d]
  .rw[if_neg h,if_neg (by lia)]
theorem za3:∀(n:Nat) (lo d:Int),(yo n lo d).length=n
 |0,lo,d=>rfl
 |n+1,lo,d=>by simp[yo,za3 n]
theorem zgK{lo:Int}{n:Nat}:Drw S X B φ H (yo n lo 1) (Itr lo n):=by
 refine⟨λφ' H' s=>by rw[za3];exact AT _,λi φ' H' s hi=>by rw[za3]at hi;exact hi,λi φ' H' st x H2 B' hB s rs hi q=>?_⟩;rw[za3]at hi;let⟨rfl,rfl⟩:=q;refine⟨.int (lo+i),?_,by erw[yd],λ_ _ e=>e⟩;rw[zdf,if_pos hi,Cj]
theorem zhb{o:Option (List PV)}{st:SO}{Q:It->Hp->Prop}(h:Run S X σ B φ H (RD S X B) (toL o st) Q):∃xs,o=AA xs/\Run S X σ B φ H (RD S X B) (.ok xs st) Q:=by
 cases o with
 |none=>exact h.elim
 |some z=>exact⟨z,rfl,h⟩
theorem zgX(hg:Gl X "range")(hm:X.mg "range"=AD)(ha:PE X a (tE S X ca))(hs:starEach [a] X.env=[(AC,eval a X.env)]:=by rfl):PI X tg (.Call (.Name "range" p) [a] [] pos) (tI S X (.range1 ca)):=
 (zhc hg hm (zbo ha ybc hs) hs).imp λσ H R ⟨B,φ,st,ρ,rs,re,h⟩=>by
  erw[evi]at h;refine tE.bind rs re h λx H1 v st1 φ1 s1 rs1 re1 rv h1=>?_;let⟨xs,e,h1⟩:=zhb h1
  cases v with
  |int j=>
   erw[ybE]at e;split at e
   .cases e
    erw[yd]at rv;subst rv;exact⟨j,rfl,by lia,by lia,h1.ok rs1 zgK⟩
   .cases e
  |_=>cases e
theorem zcR:∀(xs:List PV) (k i:Nat),(yP k xs)[i]?=(xs[i]?).map λx=>.tup [.int ((k+i:Nat):Int),x]
 |[],k,i=>by simp[yP]
 |x::xs,k,0=>by simp[yP]
 |x::xs,k,i+1=>by
  erw[yP,AM];rw[zcR xs (k+1) i];have:k+1+i=k+(i+1):=by lia
  rw[this]
theorem zcZ:∀(xs:List PV) (k:Nat),(yP k xs).length=xs.length
 |[],k=>rfl
 |x::xs,k=>by simp[yP,zcZ xs]
theorem zjr{k:Bool}{vs:List PV}{xs:List V}{y:AI}(rt:ybI X.K B φ H k y xs)(l:ye X.K S.cl B φ H vs xs):Drw S X B φ H (yP 0 vs) (Ite X.K y):=by
 have hl:=l.length;have hp:=zcZ vs 0;refine⟨λφ' H' s=>⟨xs,(rt.step s).sq,by lia⟩,λi φ' H' s hi=>⟨xs,xs[i]'(by lia),(rt.step s).sq,by simp[show i<xs.length by lia]⟩,λi φ' H' st x H2 B' hB s rs hi q=>?_⟩;let⟨T,hT,rfl,q⟩:=q;obtain⟨v,hv⟩:∃v,vs[i]?=AA v:=⟨vs[i]'(by lia),by simp[show i<vs.length by lia]⟩;let⟨x',hx',rv⟩:=l.get i hv;have e:=q xs x' (rt.step s).sq hx';subst e;refine⟨.tup [.int i,v],?_,.tup_new hT rs ?_,λb o e=>by rw[zh (zm e hT)];exact e⟩
 .rw[zcR,hv];simp
 .simp only[ye,yd];exact⟨_,_,rfl,rfl,x',[],rfl,(rv.moreB hB).step s,rfl⟩
theorem zkl{es:List AU}{kk:Nat}{tp:CP}(hg:Gl X "enumerate")(hm:X.mg "enumerate"=AD)(ha:PE X a (tE S X ca))(hs:starEach [a] X.env=[(AC,eval a X.env)]:=by rfl):
  PI X (.Tuple es kk tp) (.Call (.Name "enumerate" p) [a] [] pos) (tI S X (.enum ca)):=
 (ziI hg hm (zbo ha ybc hs) hs).imp λσ H R ⟨B,φ,st,ρ,rs,re,h⟩=>by
  erw[evi]at h;refine tE.bind rs re h λx H1 v st1 φ1 s1 rs1 re1 rv h1=>?_
  cases v with
  |tp k vs=>
   erw[yd]at rv;let⟨y,xs,rfl,rt,l⟩:=rv;exact⟨y,rfl,⟨xs,rt.sq⟩,h1.ok rs1 (zjr rt l)⟩
  |_=>exact h1.elim
def tG(S:Se)(X:Cx)(t:Tg):TG:=λv σ H Q=>∃B φ st ρ w ρ',yr X.K S.cl B φ H st/\yG X.K S.cl B φ H ρ σ/\yd X.K S.cl B φ H w v/\yC t w ρ=AA ρ'/\∀σ',yG X.K S.cl B φ H ρ' σ'->Q σ' H
theorem PG.imp{t t':TG}(h:PG X tg t')(k:∀v σ H Q,t v σ H Q->t' v σ H Q):PG X tg t:=λpins s σ H v u Q I rv q=>h pins s σ H v u Q I rv (k v σ H Q q)
theorem zkm{i:Nat}{x:AR}(hN:X.N.Nodup)(hi:X.N[i]?=AA x)(hx:Loc X.env.scope x)(hf:X.fn x=AB \/ X.env.scope.names.lookup x=AA .local:=by first|exact .inl rfl|exact .inr rfl|assumption):PG X (.Name x pos) (tG S X (.n i)):=
 (zhL hN hi hx hf).imp λv σ H Q ⟨B,φ,st,ρ,w,ρ',rs,re,rv,e,q⟩=>by
  cases e
  exact q _ (re.set i rv)
noncomputable def gNs(l:List Nat):TGs:=λvs σ H Q=>vs.length=l.length/\Q ((l.zip vs).foldl (λσ p=>σ.set p.1 (AA p.2)) σ) H
theorem PGs.imp{es:List AU}{t t':TGs}(h:PGs X es t')(k:∀v σ H Q,t v σ H Q->t' v σ H Q):PGs X es t:=λpins s σ H vs us Q I rv q=>h pins s σ H vs us Q I rv (k vs σ H Q q)
theorem zk9:PGs X [] (gNs []):=ycq.imp λvs σ H Q ⟨h,q⟩=>by
 cases vs with
 |nil=>exact⟨rfl,q⟩
 |cons _ _=>cases h
theorem zjq{es:List AU}{l:List Nat}{i:Nat}{x:AR}(hN:X.N.Nodup)(hi:X.N[i]?=AA x)(hx:Loc X.env.scope x)(h2:PGs X es (gNs l))(hf:X.fn x=AB \/ X.env.scope.names.lookup x=AA .local:=by first|exact .inl rfl|exact .inr rfl|assumption):PGs X (.Name x pos::es) (gNs (i::l)):=
 (zjn (zhL hN hi hx hf) h2).imp λvs σ H Q ⟨h,q⟩=>by
  cases vs with
  |nil=>cases h
  |cons v vs=>exact⟨v,vs,rfl,by simpa using h,q⟩
theorem yG.sets{K:AE}{cl:Nat->AI}:∀(l:List Nat) {vs:List PV} {xs:List V} {ρ:IC.Env} {σ:St},yG K cl B φ H ρ σ->ye K cl B φ H vs xs ->
  yG K cl B φ H ((l.zip vs).foldl (λρ p=>ρ.set p.1 (AA p.2)) ρ) ((l.zip xs).foldl (λσ p=>σ.set p.1 (AA p.2)) σ)
 |[],vs,xs,ρ,σ,re,l=>by simpa using re
 |i::is,[],xs,ρ,σ,re,l=>by
  erw[ye]at l;subst l;simpa using re
 |i::is,v::vs,xs,ρ,σ,re,l=>by
  erw[ye]at l;let⟨y,ys,rfl,r,l⟩:=l;erw[EB,D9];exact yG.sets is (re.set i r) l
theorem zn9{es:List AU}{l:List Nat}{k:Nat}(hc:X.calm=AB)(h:PGs X es (gNs l))(hn:(assignEach es X.env).length=l.length:=by rfl)(hst:(assignEach es X.env).findIdx? (·.1)=none:=by rfl):PG X (.Tuple es k pos) (tG S X (.t l)):=
 (zl1 hc h hn hst).imp λv σ H Q ⟨B,φ,st,ρ,w,ρ',rs,re,rv,e,q⟩=>by
  cases w with
  |tp kk vs=>
   erw[yC]at e;split at e
   .rename_i c
    cases e
    erw[yd]at rv;let⟨y,xs,rfl,rt,lr⟩:=rv;have hl:=lr.length;exact⟨y,xs,rfl,rt.sq,by lia,by lia,q _ (yG.sets l re lr)⟩
   .cases e
  |_=>cases e
theorem zk3{es:List AU}{l:List Nat}{k:Nat}(he:PE X a (tE S X ca))(hg:PG X (.Tuple es k p2) (tG S X (.t l)))(hs:swapsWithSole [.Tuple es k p2] a pos.line X.env=pure false:=by rfl)(hw:swappedStores [.Tuple es k p2] a X.env=pure none:=by rfl):
  PS X (.Assign [.Tuple es k p2] a pos) (tS S X (.asg (.t l) ca)):=
 (zjY he hg hs hw).imp λD σ H ⟨B,φ,st,ρ,rs,re,h⟩=>by
  erw[ex]at h;refine tE.fl rs re h λx H1 v st1 φ1 s rs1 re1 rv h1=>?_
  cases e:yC (.t l) v ρ with
  |none=>rw[e]at h1;exact h1.elim
  |some ρ'=>
   rw[e]at h1;exact⟨B,φ1,st1,ρ,v,ρ',rs1,re1,rv,e,λσ' re'=>h1 σ' H1 φ1 .rfl rs1 re'⟩
theorem tI.fl{k:List PV->SO->Fl}{P:It->Hp->Prop}(rs:yr X.K S.cl B φ H st)(re:yG X.K S.cl B φ H ρ σ)(h:yaw S X B φ H ((evi S.call ρ st ci).fl ρ k) D)
  (n:∀x H1 v st1 φ1,Step φ H φ1 H1->yr X.K S.cl B φ1 H1 st1->yG X.K S.cl B φ1 H1 ρ σ->Drw S X B φ1 H1 v x->yaw S X B φ1 H1 (k v st1) D->P x H1):tI S X ci σ H P:=by
 refine⟨B,φ,st,ρ,rs,re,?_⟩
 cases e:evi S.call ρ st ci with
 |ok v st'=>
  rw[e]at h;exact λx H' φ' s rs' rv=>n x H' v st' φ' s rs' (re.step s) rv (h.on s)
 |exc k st'=>
  rw[e]at h;exact λe s' x=>h σ φ H e s' .rfl re x
 |bad=>rw[e]at h;exact h
theorem zmz(hp:EX (model X.prog X.w) X.A X.env X.xe)(hc:X.calm=AB)(hi:PI X tg l (tI S X ci))(hg:PG X tg (tG S X ct))(hb:PSs X ss (tSs S X cs))(hs:∀x,foldedSetIterable l X.env x=pure x:=by intro _;rfl):
  PS X (.For tg l ss [] pos) (tS S X (.for ct ci cs)):=
 (zmo hp hc hi hg hb hs).imp λD σ H ⟨B,φ,st,ρ,rs,re,h⟩=>by
  erw[ex]at h;refine tI.fl rs re h λJ H1 xs st1 φ1 s1 rs1 re1 dr h1=>?_;refine⟨λi m σ H=>∃φ st ρ,i+m=xs.length/\Step φ1 H1 φ H/\yr X.K S.cl B φ H st/\yG X.K S.cl B φ H ρ σ/\yaw S X B φ H (forL ct (λρ2 st2=>exs S.call ρ2 st2 cs) (xs.drop i) ρ st) D,
   ⟨xs.length,φ1,st1,ρ,by lia,.rfl,rs1,re1,by simpa using h1⟩,?_⟩
  rintro i m σ2 H2 ⟨φ2,st2,ρ2,hm,s2,rs2,re2,h2⟩
  by_cases hi:i<xs.length
  .refine .inr ⟨dr.go i φ2 H2 s2 hi,λσ' H'=>∃φ st ρ,Step φ1 H1 φ H'/\yr X.K S.cl B φ H' st/\yG X.K S.cl B φ H' ρ σ'/\yaw S X B φ H' (forL ct (λρ2 st2=>exs S.call ρ2 st2 cs) (xs.drop (i+1)) ρ st) D,
    λσ' H' ⟨φ,st,ρ,s,q⟩=>⟨m-1,by lia,φ,st,ρ,by lia,s,q⟩,λx H3 hy=>?_⟩
   let⟨v,hv,rv,kk⟩:=dr.yld i φ2 H2 st2 x H3 B (λ_ z=>.inl z) s2 rs2 hi hy;have e:xs.drop i=v::xs.drop (i+1):=by
    rw[EG hi];rw[Cy hi]at hv;rw[AZ hv]
   have s3:Step φ2 H2 φ2 H3:=⟨λb o _ e=>kk b o e,AT _,λ_ _ _ e=>e,λ_ h=>.inl h⟩;have rs3:yr X.K S.cl B φ2 H3 st2:=rs2.same kk;rw[e,forL]at h2
   cases eb:yC ct v ρ2 with
   |none=>rw[eb]at h2;exact h2.elim
   |some ρ3=>
    rw[eb]at h2;refine⟨B,φ2,st2,ρ2,v,ρ3,rs3,re2.step s3,rv,eb,λσ' re'=>⟨B,φ2,st2,ρ3,rs3,re',?_⟩⟩;have h3:=yaw.on s3 h2;dsimp only at h3
    cases ee:exs S.call ρ3 st2 cs with
    |nx ρ4 st4=>
     rw[ee]at h3;exact λσ4 H4 φ4 s4 rs4 re4=>⟨φ4,st4,ρ4,s2.trans (s3.trans s4),rs4,re4,yaw.on s4 h3⟩
    |ct ρ4 st4=>
     rw[ee]at h3;exact λσ4 H4 φ4 s4 rs4 re4=>⟨φ4,st4,ρ4,s2.trans (s3.trans s4),rs4,re4,yaw.on s4 h3⟩
    |bk ρ4 st4=>rw[ee]at h3;exact h3
    |rt v4 st4=>rw[ee]at h3;exact h3
    |exc k ρ4 st4=>rw[ee]at h3;exact h3
    |bad=>rw[ee]at h3;exact h3
  .have e:i=xs.length:=by lia
   subst e;rw[GM,forL]at h2;exact .inl ⟨dr.stop φ2 H2 s2,h2 σ2 H2 φ2 .rfl rs2 re2⟩
theorem zjf(hp:EX (model X.prog X.w) X.A X.env X.xe)(hc:PT X c (tTs S X cc))(hb:PSs X ss (tSs S X cs)):PS X (.While c ss [] pos) (tS S X (.while cc cs)):=
 (zi0 hp hc hb).imp λD σ H ⟨B,φ,st,ρ,rs,re,h⟩=>by
  erw[ex]at h;refine⟨λm σ H=>∃φ st ρ,yr X.K S.cl B φ H st/\yG X.K S.cl B φ H ρ σ/\yaw S X B φ H (yal (λρ2 st2=>ev S.call ρ2 st2 cc) (λρ2 st2=>exs S.call ρ2 st2 cs) m ρ st) D,⟨100000,φ,st,ρ,rs,re,h⟩,?_⟩
  rintro m σ2 H2 ⟨φ2,st2,ρ2,rs2,re2,h2⟩
  cases m with
  |zero=>exact h2.elim
  |succ m=>
   rw[yal]at h2;rw[flT _ λk st1=>cond k (yak (exs S.call ρ2 st1 cs) λρ2 st2=>yal (λρ2 st2=>ev S.call ρ2 st2 cc) (λρ2 st2=>exs S.call ρ2 st2 cs) m ρ2 st2) (.nx ρ2 st1)]at h2;refine tTs.fl rs2 re2 h2 λk H3 st3 φ3 s3 rs3 re3 h3=>?_
   cases k with
   |false=>exact h3 σ2 H3 φ3 .rfl rs3 re3
   |true=>
    refine⟨λσ' H'=>∃φ st ρ,yr X.K S.cl B φ H' st/\yG X.K S.cl B φ H' ρ σ'/\yaw S X B φ H' (yal (λρ2 st2=>ev S.call ρ2 st2 cc) (λρ2 st2=>exs S.call ρ2 st2 cs) m ρ st) D,
     λσ' H' q=>⟨m,by lia,q⟩,B,φ3,st3,ρ2,rs3,re3,?_⟩
    erw[cond_true]at h3
    cases ee:exs S.call ρ2 st3 cs with
    |nx ρ4 st4=>
     rw[ee]at h3;exact λσ4 H4 φ4 s4 rs4 re4=>⟨φ4,st4,ρ4,rs4,re4,yaw.on s4 h3⟩
    |ct ρ4 st4=>
     rw[ee]at h3;exact λσ4 H4 φ4 s4 rs4 re4=>⟨φ4,st4,ρ4,rs4,re4,yaw.on s4 h3⟩
    |bk ρ4 st4=>rw[ee]at h3;exact h3
    |rt v4 st4=>rw[ee]at h3;exact h3
    |exc k ρ4 st4=>rw[ee]at h3;exact h3
    |bad=>rw[ee]at h3;exact h3
end
section
variable (S:Se)(K:AE)
def ye8{α β:Type}(B:AI->Prop)(φ:Ph)(H:Hp)(Rel:Ph->Hp->α->β->Prop)(r:R α)(Q:β->Hp->Prop):Prop:=
 match r with
 |.ok v st'=>∀x H' φ',Step φ H φ' H'->yr K S.cl B φ' H' st'->Rel φ' H' v x->Q x H'
 |_=>False
def tE0(c:Ce):TE:=λσ H Q=>∃B φ st ρ,yr K S.cl B φ H st/\yG K S.cl B φ H ρ σ/\ye8 S K B φ H (λφ H=>yd K S.cl B φ H) (ev S.call ρ st c) Q
def tT0(c:Ce):TT:=λσ H Q=>∃B φ st ρ,yr K S.cl B φ H st/\yG K S.cl B φ H ρ σ/\ye8 S K B φ H RB (ya1 (ev S.call ρ st c)) Q
def tG0(t:Tg):TG:=λv σ H Q=>∃B φ st ρ w ρ',yr K S.cl B φ H st/\yG K S.cl B φ H ρ σ/\yd K S.cl B φ H w v/\yC t w ρ=AA ρ'/\∀σ',yG K S.cl B φ H ρ' σ'->Q σ' H
end
section
variable {S:Se}{X:Cx}{K:AE}{cl:Nat->AI}{σ:St}{B:AI->Prop}{φ φ1:Ph}{H H1:Hp}{st:SO}{ρ:IC.Env}{pos p p2 px:CP}{a b c o tg l elt iter:AU}{ca cb cc ce:Ce}{ci:Cit}{ct:Tg}
theorem zkS(hK:X.K=K)(h:PE X a (tE S X ca)):PE X a (tE0 S K ca):=by
 subst hK;refine h.imp λσ H Q kq=>?_;let⟨B,φ,st,ρ,rs,re,q⟩:=kq;refine ⟨B,φ,st,ρ,rs,re,?_⟩
 cases e:ev S.call ρ st ca with
 |ok v st'=>rw[e]at q;exact q
 |exc k st'=>rw[e]at q;exact q.elim
 |bad=>rw[e]at q;exact q
theorem zkr(hK:X.K=K)(h:PT X a (tTs S X ca)):PTs X [a] (tT0 S K ca):=by
 subst hK;refine zlW (h.imp λσ H Q kq=>?_);let⟨B,φ,st,ρ,rs,re,q⟩:=kq;refine ⟨B,φ,st,ρ,rs,re,?_⟩
 cases e:ya1 (ev S.call ρ st ca)with
 |ok v st'=>rw[e]at q;exact q
 |exc k st'=>rw[e]at q;exact q.elim
 |bad=>rw[e]at q;exact q
theorem zil:PTs X [] (tT0 S K (.cst (.bl AB))):=λpins s σ H Q I ⟨B,φ,st,ρ,rs,re,q⟩=>by
 refine zlq pins s σ H Q I ?_;erw[ev,ya1,R.bind,yaF,onO]at q;exact q AB H φ .rfl rs rfl
theorem zlI(hK:X.K=K)(h:PG X tg (tG S X ct)):PG X tg (tG0 S K ct):=by
 subst hK;exact h
theorem ybI.skip{k:Bool}{D y:AI}{u:HO}{xs:List V}(hD:B D)(r:ybI K B φ H k y xs):ybI K B φ (L2.upd H D u) k y xs:=by
 rcases r with⟨r,b,n⟩|r
 .exact .inl ⟨by rw[zh (show y≠D from λz=>b (z ▸ hD))];exact r,b,n⟩
 .exact .inr r
mutual
theorem yd.skip{D:AI}{u:HO}(hD:B D):∀(v:PV) (x:V),yd K cl B φ H v x->yd K cl B φ (L2.upd H D u) v x
 |.non,x,h=>by erw[yd]at h ⊢;exact h
 |.bl b,x,h=>by erw[yd]at h ⊢;exact h
 |.int i,x,h=>by erw[yd]at h ⊢;exact h
 |.str y,x,h=>by erw[yd]at h ⊢;exact h
 |.tp k vs,x,h=>by
  erw[yd]at h ⊢;let⟨y,xs,e,r,l⟩:=h;exact⟨y,xs,e,r.skip hD,ye.skip hD vs xs l⟩
 |.lst vs,x,h=>by
  erw[yd]at h ⊢;let⟨y,xs,e,⟨r,b,n⟩,l⟩:=h;exact⟨y,xs,e,⟨by rw[zh (show y≠D from λz=>b (z ▸ hD))];exact r,b,n⟩,ye.skip hD vs xs l⟩
 |.loc n,x,h=>by erw[yd]at h ⊢;exact h
 |.exn c,x,h=>by
  erw[yd]at h ⊢;let⟨y,e,r,b,n⟩:=h;exact⟨y,e,by rw[zh (show y≠D from λz=>b (z ▸ hD))];exact r,b,n⟩
 |.scr vs,x,h=>by
  erw[yd]at h ⊢;let⟨y,xs,e,r,l⟩:=h;refine⟨y,xs,e,?_,ye.skip hD vs xs l⟩;rcases r with⟨r,b,n⟩|r
  .refine .inl ⟨?_,b,n⟩;have ne:y≠D:=λz=>b (z ▸ hD);rcases r with r|⟨o,r⟩
   .exact .inl (by rw[zh ne];exact r)
   .exact .inr ⟨o,by rw[zh ne];exact r⟩
  .exact .inr r
theorem ye.skip{D:AI}{u:HO}(hD:B D):∀(v:List PV) (x:List V),ye K cl B φ H v x->ye K cl B φ (L2.upd H D u) v x
 |[],x,h=>by erw[ye]at h ⊢;exact h
 |v::vs,x,h=>by
  erw[ye]at h ⊢;let⟨y,ys,e,r,l⟩:=h;exact⟨y,ys,e,yd.skip hD v y r,ye.skip hD vs ys l⟩
end
theorem DK.skip{D:AI}{u:HO}(hD:B D):∀{kvs:List (PV×PV)} {ks:List (Key×V)},DK K cl B φ H kvs ks->DK K cl B φ (L2.upd H D u) kvs ks
 |[],ks,h=>h
 |(k,v)::r,ks,h=>by
  let⟨q,x,t,e,m,rv,l⟩:=h;exact⟨q,x,t,e,m,rv.skip hD,DK.skip hD l⟩
theorem DT.skip{D:AI}{u:HO}(hD:B D):∀{kvs:List (PV×PV)} {ks:List (List Key×V)},DT K cl B φ H kvs ks->DT K cl B φ (L2.upd H D u) kvs ks
 |[],ks,h=>h
 |(k,v)::r,ks,h=>by
  let⟨q,x,t,e,m,rv,l⟩:=h;exact⟨q,x,t,e,m,rv.skip hD,DT.skip hD l⟩
theorem FS.skip{D:AI}{u:HO}(hD:B D):∀{kvs:List (AR×PV)} {ks:List (AR×V)},FS K cl B φ H kvs ks->FS K cl B φ (L2.upd H D u) kvs ks
 |[],ks,h=>h
 |(k,v)::r,ks,h=>by
  let⟨x,t,e,rv,l⟩:=h;exact⟨x,t,e,rv.skip hD,FS.skip hD l⟩
theorem yr.skip{D:AI}{u:HO}(hD:B D)(rs:yr K cl B φ H st):yr K cl B φ (L2.upd H D u) st:=by
 refine⟨rs.len,rs.inj,λn y e=>?_,rs.liv,rs.nb,λy h=>?_⟩
 .let⟨o,q,r⟩:=rs.obj n y e;have ne:y≠D:=λz=>rs.nb y (A2 e) (z ▸ hD);refine⟨o,q,?_⟩
  cases o with
  |lst vs=>
   let⟨xs,hx,l⟩:=r;exact⟨xs,by rw[zh ne];exact hx,l.skip hD⟩
  |dct t kvs=>
   cases t with
   |false=>
    let⟨xs,hx,l⟩:=r;exact⟨xs,by rw[zh ne];exact hx,l.skip hD⟩
   |true=>
    let⟨xs,hx,l⟩:=r;exact⟨xs,by rw[zh ne];exact hx,l.skip hD⟩
  |ins c fs=>
   let⟨ks,⟨dx,hx⟩,l⟩:=r;exact⟨ks,⟨dx,by rw[zh ne];exact hx⟩,l.skip hD⟩
  |dead=>exact r.elim
 .by_cases z:y=D
  .subst z;exact⟨u,zq⟩
  .let⟨w,e⟩:=rs.dom y h;exact⟨w,by rw[zh z];exact e⟩
theorem yG.skip{D:AI}{u:HO}(hD:B D)(re:yG K cl B φ H ρ σ):yG K cl B φ (L2.upd H D u) ρ σ:=⟨re.len,λi v e=>by
 let⟨x,h,q⟩:=re.get i v e;exact⟨x,h,q.skip hD⟩⟩
noncomputable def Bx(B:AI->Prop)(D:AI):AI->Prop:=λy=>B y \/ y=D
theorem zih{D:AI}(hn:H D=AD):∀y,Bx B D y->B y \/ H y=none:=λy z=>z.elim .inl λq=>.inr (q ▸ hn)
theorem yd.more{D:AI}(hn:H D=AD){v:PV}{x:V}(h:yd K cl B φ H v x):yd K cl (Bx B D) φ H v x:=h.moreB (zih hn)
theorem ye.more{D:AI}(hn:H D=AD){v:List PV}{x:List V}(h:ye K cl B φ H v x):ye K cl (Bx B D) φ H v x:=h.moreB (zih hn)
mutual
theorem yd.less{D:AI}:∀(v:PV) (x:V),yd K cl (Bx B D) φ H v x->yd K cl B φ H v x
 |.non,x,h=>by erw[yd]at h ⊢;exact h
 |.bl b,x,h=>by erw[yd]at h ⊢;exact h
 |.int i,x,h=>by erw[yd]at h ⊢;exact h
 |.str y,x,h=>by erw[yd]at h ⊢;exact h
 |.tp k vs,x,h=>by
  erw[yd]at h ⊢;let⟨y,xs,e,r,l⟩:=h;refine⟨y,xs,e,?_,ye.less vs xs l⟩;rcases r with⟨r,b,n⟩|r
  .exact .inl ⟨r,λz=>b (.inl z),n⟩
  .exact .inr r
 |.lst vs,x,h=>by
  erw[yd]at h ⊢;let⟨y,xs,e,⟨r,b,n⟩,l⟩:=h;exact⟨y,xs,e,⟨r,λz=>b (.inl z),n⟩,ye.less vs xs l⟩
 |.loc n,x,h=>by erw[yd]at h ⊢;exact h
 |.exn c,x,h=>by
  erw[yd]at h ⊢;let⟨y,e,r,b,n⟩:=h;exact⟨y,e,r,λz=>b (.inl z),n⟩
 |.scr vs,x,h=>by
  erw[yd]at h ⊢;let⟨y,xs,e,r,l⟩:=h;refine⟨y,xs,e,?_,ye.less vs xs l⟩;rcases r with⟨r,b,n⟩|r
  .exact .inl ⟨r,λz=>b (.inl z),n⟩
  .exact .inr r
theorem ye.less{D:AI}:∀(v:List PV) (x:List V),ye K cl (Bx B D) φ H v x->ye K cl B φ H v x
 |[],x,h=>by erw[ye]at h ⊢;exact h
 |v::vs,x,h=>by
  erw[ye]at h ⊢;let⟨y,ys,e,r,l⟩:=h;exact⟨y,ys,e,yd.less v y r,ye.less vs ys l⟩
end
theorem DK.more{D:AI}(hn:H D=AD):∀{kvs:List (PV×PV)} {ks:List (Key×V)},DK K cl B φ H kvs ks->DK K cl (Bx B D) φ H kvs ks
 |[],ks,h=>h
 |(k,v)::r,ks,h=>by
  let⟨q,x,t,e,m,rv,l⟩:=h;exact⟨q,x,t,e,m,rv.more hn,DK.more hn l⟩
theorem DT.more{D:AI}(hn:H D=AD):∀{kvs:List (PV×PV)} {ks:List (List Key×V)},DT K cl B φ H kvs ks->DT K cl (Bx B D) φ H kvs ks
 |[],ks,h=>h
 |(k,v)::r,ks,h=>by
  let⟨q,x,t,e,m,rv,l⟩:=h;exact⟨q,x,t,e,m,rv.more hn,DT.more hn l⟩
theorem FS.more{D:AI}(hn:H D=AD):∀{kvs:List (AR×PV)} {ks:List (AR×V)},FS K cl B φ H kvs ks->FS K cl (Bx B D) φ H kvs ks
 |[],ks,h=>h
 |(k,v)::r,ks,h=>by
  let⟨x,t,e,rv,l⟩:=h;exact⟨x,t,e,rv.more hn,FS.more hn l⟩
theorem DK.less{D:AI}:∀{kvs:List (PV×PV)} {ks:List (Key×V)},DK K cl (Bx B D) φ H kvs ks->DK K cl B φ H kvs ks
 |[],ks,h=>h
 |(k,v)::r,ks,h=>by
  let⟨q,x,t,e,m,rv,l⟩:=h;exact⟨q,x,t,e,m,rv.less,DK.less l⟩
theorem DT.less{D:AI}:∀{kvs:List (PV×PV)} {ks:List (List Key×V)},DT K cl (Bx B D) φ H kvs ks->DT K cl B φ H kvs ks
 |[],ks,h=>h
 |(k,v)::r,ks,h=>by
  let⟨q,x,t,e,m,rv,l⟩:=h;exact⟨q,x,t,e,m,rv.less,DT.less l⟩
theorem FS.less{D:AI}:∀{kvs:List (AR×PV)} {ks:List (AR×V)},FS K cl (Bx B D) φ H kvs ks->FS K cl B φ H kvs ks
 |[],ks,h=>h
 |(k,v)::r,ks,h=>by
  let⟨x,t,e,rv,l⟩:=h;exact⟨x,t,e,rv.less,FS.less l⟩
theorem yr.less{D:AI}(rs:yr K cl (Bx B D) φ H st):yr K cl B φ H st:=by
 refine⟨rs.len,rs.inj,λn y e=>?_,rs.liv,λy h z=>rs.nb y h (.inl z),λy h=>rs.dom y (.inl h)⟩;let⟨o,q,r⟩:=rs.obj n y e;refine⟨o,q,?_⟩
 cases o with
 |lst vs=>let⟨xs,hx,l⟩:=r;exact⟨xs,hx,l.less⟩
 |dct t kvs=>cases t<;>(let⟨xs,hx,l⟩:=r;exact⟨xs,hx,l.less⟩)
 |ins c fs=>let⟨ks,hx,l⟩:=r;exact⟨ks,hx,l.less⟩
 |dead=>exact r.elim
theorem yr.more{D:AI}{u:HO}(hn:H D=AD)(rs:yr K cl B φ H st):yr K cl (Bx B D) φ (L2.upd H D u) st:=by
 have nD:AA D∉φ:=λz=>by
  let⟨w,e⟩:=rs.there z;rw[hn]at e;cases e
 have s:Step φ H φ (L2.upd H D u):=.upd hn;have rs':=rs.upd (o:=u) hn;refine⟨rs.len,rs.inj,λn y e=>?_,rs.liv,λy h z=>z.elim (rs.nb y h) λq=>nD (q ▸ h),λy h=>?_⟩
 .let⟨o,q,r⟩:=rs.obj n y e;have ne:y≠D:=λz=>nD (z ▸ A2 e);have hD:Bx B D D:=.inr rfl;refine⟨o,q,?_⟩
  cases o with
  |lst vs=>let⟨xs,hx,l⟩:=r;exact⟨xs,by rw[zh ne];exact hx,(l.more hn).skip hD⟩
  |dct t kvs=>
   cases t with
   |false=>let⟨xs,hx,l⟩:=r;exact⟨xs,by rw[zh ne];exact hx,(l.more hn).skip hD⟩
   |true=>let⟨xs,hx,l⟩:=r;exact⟨xs,by rw[zh ne];exact hx,(l.more hn).skip hD⟩
  |ins c fs=>let⟨ks,⟨dx,hx⟩,l⟩:=r;exact⟨ks,⟨dx,by rw[zh ne];exact hx⟩,(l.more hn).skip hD⟩
  |dead=>exact r.elim
 .rcases h with h|h
  .exact rs'.dom y h
  .subst h;exact⟨u,zq⟩
theorem yG.more{D:AI}{u:HO}(hn:H D=AD)(re:yG K cl B φ H ρ σ):yG K cl (Bx B D) φ (L2.upd H D u) ρ σ:=⟨re.len,λi v e=>by
 let⟨x,h,q⟩:=re.get i v e;exact⟨x,h,(q.more hn).skip (.inr rfl)⟩⟩
noncomputable def yau:Tg->List (Option Nat)->Bool
 |.n i,sl=>decide (sl[i]?=AA AD)
 |.t l,sl=>l.all λi=>decide (sl[i]?=AA AD)
theorem zfS:∀(l:List Nat) (vs:List PV) (ρ:IC.Env) (j:Nat),j∉l->((l.zip vs).foldl (λρ p=>ρ.set p.1 (AA p.2)) ρ)[j]?=ρ[j]?
 |[],vs,ρ,j,h=>by simp
 |i::is,[],ρ,j,h=>by simp
 |i::is,v::vs,ρ,j,h=>by
  erw[EB,D9];rw[zfS is vs _ j λz=>h (AY _ z),AO]
  rintro rfl
  exact h BE
theorem zfB:∀(l:List Nat) (vs:List PV) (ρ:IC.Env),((l.zip vs).foldl (λρ p=>ρ.set p.1 (AA p.2)) ρ).length=ρ.length
 |[],vs,ρ=>by simp
 |i::is,[],ρ=>by simp
 |i::is,v::vs,ρ=>by
  erw[EB,D9];rw[zfB is vs,B3]
theorem yG.untgt{sl:List (Option Nat)}{ρ0 ρ1:IC.Env}{v:PV}(hf:yau ct sl=AB)(h0:∀(i:Nat),sl[i]?=AA AD->ρ0[i]?=AA AD)(hb:yC ct v ρ0=AA ρ1)(re:yG K cl B φ H ρ1 σ):yG K cl B φ H ρ0 σ:=by
 cases ct with
 |n i=>
  cases hb
  erw[yau,decide_eq_true_eq]at hf;refine⟨by rw[<-re.len,B3],λj w e=>re.get j w ?_⟩;rw[AO]
  .exact e
  .rintro rfl
   rw[h0 _ hf]at e;cases e
 |t l=>
  cases v with
  |tp k vs=>
   erw[yC]at hb;split at hb
   .cases hb
    erw[yau,BQ,decide_eq_true_eq]at hf;refine⟨by rw[<-re.len,zfB],λj w e=>re.get j w ?_⟩;rw[zfS]
    .exact e
    .intro z;rw[h0 _ (hf j z)]at e;cases e
   .cases hb
  |_=>cases hb
theorem yG.inn{sl:List (Option Nat)}(re:yG K cl B φ H ρ σ):yG K cl B φ H (sl.map λo=>o.bind λj=>(ρ[j]?).join) (L2.inn sl σ):=by
 unfold L2.inn;refine⟨by simp,λi v e=>?_⟩;rw[Bw]at e ⊢
 cases q:sl[i]? with
 |none=>rw[q]at e;cases e
 |some o=>
  rw[q]at e
  cases o with
  |none=>cases e
  |some j=>
   erw[Db,Bk,Option.some.injEq]at e ⊢
   cases q2:ρ[j]? with
   |none=>rw[q2]at e;cases e
   |some w=>
    rw[q2]at e;erw[Option.join_some]at e;subst e;let⟨x,hx,rv⟩:=re.get j v q2;exact⟨x,by rw[hx];rfl,rv⟩
theorem yb3:1000000<sizeLine:=by rw[D2];decide
theorem zmH{α:Type}{o:Option Bool}{k:Bool->R α}{z:α}{s:SO}(h:onO o k=.ok z s):∃b,o=AA b/\k b=.ok z s:=by
 cases o with
 |none=>cases h
 |some b=>exact⟨b,rfl,h⟩
theorem zaQ{α β:Type}{r:R α}{k:α->SO->R β}{z:β}{s:SO}(h:r.bind k=.ok z s):∃a s1,r=.ok a s1/\k a s1=.ok z s:=by
 cases r with
 |ok a s1=>exact⟨a,s1,rfl,h⟩
 |exc c s=>cases h
 |bad=>cases h
theorem zhZ{sl:List (Option Nat)}(hf:yau ct sl=AB){H:Hp}{Q:VK}(h:tE S X (.comp sl ct ci cc ce) σ H Q):ydk sl (tI S X ci) (tG0 S X.K ct) (tT0 S X.K cc) (tE0 S X.K ce) σ H Q:=by
  let⟨B,φ,st,ρ,rs,re,h⟩:=h;erw[ev]at h;refine⟨B,φ,st,ρ,rs,re,(Run.bind h).mono λJ H1 kq=>?_⟩;let⟨xs,st1,φ1,s1,rs1,dr,h1⟩:=kq;refine λD hD=>?_
  generalize hone:(λ(x:PV) (st2:SO)=>match yC ct x (sl.map λo=>o.bind λj=>(ρ[j]?).join)with
   |none=>(R.bad:R (Option PV))
   |some ρ1=>(ev S.call ρ1 st2 cc).bind λb st3=>onO (yaF st3 b) λk=>cond k ((ev S.call ρ1 st3 ce).bind λy st4=>.ok (AA y) st4) (.ok AD st3))=one at h1
  cases e:yaM one xs st1 with
  |exc k s=>rw[e]at h1;exact h1.elim
  |bad=>rw[e]at h1;exact h1.elim
  |ok zs st5=>
   rw[e]at h1;erw[yb7]at h1;split at h1
   case isFalse=>exact h1.elim
   rename_i hz;have nB:¬B D:=rs1.nB hD;have nD:AA D∉φ1:=λz=>by
    let⟨w,e⟩:=rs1.there z;rw[hD]at e;cases e
   refine⟨λi m σc ys H2=>∃φ2 st2 vs rest,i+m=xs.length/\Step φ1 H1 φ2 H2/\H2 D=AA (.lst ys)/\AA D∉φ2/\yr X.K S.cl (Bx B D) φ2 H2 st2/\yG X.K S.cl (Bx B D) φ2 H2 (sl.map λo=>o.bind λj=>(ρ[j]?).join) σc /\
     ye X.K S.cl (Bx B D) φ2 H2 vs ys/\yaM one (xs.drop i) st2=.ok rest st5/\vs++rest=zs,
    ⟨xs.length,φ1,st1,[],zs,by lia,.upd hD,zq,nD,rs1.more hD,(yG.inn (re.step s1)).more hD,by erw[ye],by simpa using e,rfl⟩,?_⟩
   rintro i m σc ys H2 ⟨φ2,st2,vs,rest,hm,s2,hD2,nD2,rs2,re2,l2,ec,ez⟩
   refine⟨hD2,?_⟩
   by_cases hi:i<xs.length
   .have hl2:=l2.length;have hml:=yb3;have hzl:=congrArg C7 ez;rw[A9]at hzl;refine .inr ⟨dr.go i φ2 H2 s2 hi,by lia,λσ' ys' H'=>∃φ2 st2 vs rest,Step φ1 H1 φ2 H'/\H' D=AA (.lst ys')/\AA D∉φ2/\yr X.K S.cl (Bx B D) φ2 H' st2/\yG X.K S.cl (Bx B D) φ2 H' (sl.map λo=>o.bind λj=>(ρ[j]?).join) σ' /\
     ye X.K S.cl (Bx B D) φ2 H' vs ys'/\yaM one (xs.drop (i+1)) st2=.ok rest st5/\vs++rest=zs,λσ' ys' H' ⟨φ2,st2,vs,rest,q⟩=>⟨m-1,by lia,φ2,st2,vs,rest,by lia,q⟩,λx H3 hy=>?_⟩
    let⟨v,hv,rv,kk⟩:=dr.yld i φ2 H2 st2 x H3 (Bx B D) (λy z=>z.elim .inl λq=>.inr (q ▸ hD)) s2 rs2 hi hy;have s3:Step φ2 H2 φ2 H3:=⟨λb o _ e=>kk b o e,AT _,λ_ _ _ e=>e,λ_ h=>.inl h⟩;have rs3:yr X.K S.cl (Bx B D) φ2 H3 st2:=rs2.same kk;have ed:xs.drop i=v::xs.drop (i+1):=by
     rw[EG hi];rw[Cy hi]at hv;rw[AZ hv]
    rw[ed,yaM]at ec;let⟨o,st3,e1,ec⟩:=zaQ ec;let⟨rest',st4,e2,ec⟩:=zaQ ec;rw[<-hone]at e1;dsimp only at e1
    cases eb:yC ct v (sl.map λo=>o.bind λj=>(ρ[j]?).join)with
    |none=>rw[eb]at e1;cases e1
    |some ρ1=>
     rw[eb]at e1;dsimp only at e1;let⟨bv,st6,e3,e1⟩:=zaQ e1;let⟨k,e4,e1⟩:=zmH e1;have er:st4=st5/\ybP o rest'=rest:=by
      injection ec with q1 q2;exact⟨q2,q1⟩
     let⟨rfl,rfl⟩:=er;refine⟨Bx B D,φ2,st2,_,v,ρ1,rs3,re2.step s3,rv,eb,λσ4 re4=>⟨Bx B D,φ2,st2,ρ1,rs3,re4,?_⟩⟩;have et:ya1 (ev S.call ρ1 st2 cc)=.ok k st6:=by
      rw[e3];erw[ya1,R.bind,e4,onO]
     rw[et]
     rintro k' H5 φ5 s5 rs5 rfl
     have nD5:AA D∉φ5:=λz=>by
      rcases s5.new D z with q|q
      .exact nD2 q
      .rw[kk D _ hD2]at q;cases q
     have hD5:H5 D=AA (.lst ys):=s5.keep D _ nD2 (kk D _ hD2);have s25:Step φ1 H1 φ5 H5:=s2.trans (s3.trans s5);have l5:=(l2.step s3).step s5;have re5:yG X.K S.cl (Bx B D) φ5 H5 ρ1 σ4:=re4.step s5;have h0:∀(i:Nat),sl[i]?=AA AD->(sl.map λo=>o.bind λj=>(ρ[j]?).join)[i]?=AA none:=λi q=>by
      rw[Bw,q];rfl
     cases k with
     |false=>
      erw[cond_false]at e1
      cases e1
      exact⟨φ5,_,vs,rest',s25,hD5,nD5,rs5,yG.untgt hf h0 eb re5,l5,e2,ez⟩
     |true=>
      erw[cond_true]at e1;let⟨y,st7,e5,e1⟩:=zaQ e1
      cases e1
      refine⟨Bx B D,φ5,st6,ρ1,rs5,re5,?_⟩;rw[e5];intro y' H6 φ6 s6 rs6 ry;have nD6:AA D∉φ6:=λz=>by
       rcases s6.new D z with q|q
       .exact nD5 q
       .rw[hD5]at q;cases q
      have hD6:H6 D=AA (.lst ys):=s6.keep D _ nD5 hD5;have hBD:Bx B D D:=.inr rfl;refine⟨hD6,φ6,_,vs++[y],rest',?_,zq,nD6,rs6.skip hBD,(yG.untgt hf h0 eb (re5.step s6)).skip hBD,((l5.step s6).append (by erw[ye];exact⟨y',[],rfl,ry,rfl⟩)).skip hBD,e2,?_⟩
      .have s16:=s25.trans s6;exact⟨λb o n q=>by rw[zh (zm q hD)];exact s16.keep b o n q,s16.len,s16.pre,s16.new⟩
      .simpa [ybP] using ez
   .have ei:i=xs.length:=by lia
    subst ei;rw[GM,yaM]at ec
    cases ec
    refine .inl ⟨dr.stop φ2 H2 s2,h1 (.ref D) H2 φ2 s2 rs2.less ?_⟩;erw[yd];exact⟨D,ys,rfl,⟨hD2,nB,nD2⟩,by rw[<-ez,Ax];exact l2.less⟩
theorem zkv{sc:Bl}{NC:List AR}{sl:List (Option Nat)}{ifs:List AU}(hc:X.calm=AB)(O:yai X sc NC sl)(hf:yau ct sl=AB)(hi:PI X tg iter (tI S X ci))(hg:∀j,PG (cxC X sc NC j) tg (tG0 S X.K ct))
  (ht:∀j,PTs (cxC X sc NC j) ifs (tT0 S X.K cc)) (he:∀j,PE (cxC X sc NC j) elt (tE0 S X.K ce)) (hs:∀x,foldedSetIterable iter X.env x=pure x:=by intro _;rfl):
  PE X (.ListComp elt [⟨tg,iter,ifs,0⟩] sc pos) (tE S X (.comp sl ct ci cc ce)):=
 (zke hc O hi hg ht he hs).imp λσ H Q h=>zhZ hf h
end
end L2
namespace IC
open PySem
def RLe{α:Type}(r q:R α):Prop:=r=.bad \/ r=q
def FLe(f g:Fl):Prop:=f=.bad \/ f=g
abbrev Cl:=Nat->List PV->SO->R PV
def CLe(c d:Cl):Prop:=∀f a s,RLe (c f a s) (d f a s)
theorem RLe.rfl{α:Type}{r:R α}:RLe r r:=.inr (DI _)
theorem FLe.rfl{f:Fl}:FLe f f:=.inr (DI _)
theorem RLe.bind{α β:Type}{r q:R α}{k l:α->SO->R β}(h:RLe r q)(hk:∀a s,RLe (k a s) (l a s)):RLe (r.bind k) (q.bind l):=by
 rcases h with h|h
 .subst h;exact .inl (DI _)
 .subst h
  cases r with
  |ok a s=>exact hk a s
  |exc c s=>exact .rfl
  |bad=>exact .rfl
theorem RLe.fl{α:Type}{r q:R α}{ρ:Env}{k l:α->SO->Fl}(h:RLe r q)(hk:∀a s,FLe (k a s) (l a s)):FLe (r.fl ρ k) (q.fl ρ l):=by
 rcases h with h|h
 .subst h;exact .inl (DI _)
 .subst h
  cases r with
  |ok a s=>exact hk a s
  |exc c s=>exact .rfl
  |bad=>exact .rfl
theorem RLe.comp{r q:R (List PV)}(h:RLe r q):RLe (yb7 r) (yb7 q):=by
 rcases h with h|h
 .subst h;exact .inl (DI _)
 .subst h;exact .rfl
theorem zg5{α:Type}{x:PV}{k l:Bool->R α}(h:∀b,RLe (k b) (l b)):RLe (onBl x k) (onBl x l):=by
 cases x with
 |bl b=>exact h b
 |_=>exact .rfl
theorem zd1{α:Type}{x:Option Bool}{k l:Bool->R α}(h:∀b,RLe (k b) (l b)):RLe (onO x k) (onO x l):=by
 cases x with
 |some b=>exact h b
 |none=>exact .rfl
theorem zjZ{x:Option Bool}{k l:Bool->Fl}(h:∀b,FLe (k b) (l b)):FLe (onF x k) (onF x l):=by
 cases x with
 |some b=>exact h b
 |none=>exact .rfl
theorem znQ{α:Type}{x:Option (Option Int)}{k l:Option Int->R α}(h:∀b,RLe (k b) (l b)):RLe (onP x k) (onP x l):=by
 cases x with
 |some b=>exact h b
 |none=>exact .rfl
theorem zcs{α:Type}{b:Bool}{r q r' q':R α}(h:RLe r q)(h':RLe r' q'):RLe (cond b r r') (cond b q q'):=by
 cases b
 .exact h'
 .exact h
theorem zfy{b:Bool}{r q r' q':Fl}(h:FLe r q)(h':FLe r' q'):FLe (cond b r r') (cond b q q'):=by
 cases b
 .exact h'
 .exact h
theorem zb8{f g:PV->SO->R (Option PV)}(h:∀x s,RLe (f x s) (g x s)):∀xs s,RLe (yaM f xs s) (yaM g xs s)
 |[],s=>.rfl
 |x::xs,s=>(h x s).bind λo s1=>(zb8 h xs s1).bind λys s2=>.rfl
theorem zc0{f g:Fl}{k l:Env->SO->Fl}(h:FLe f g)(hk:∀ρ s,FLe (k ρ s) (l ρ s)):FLe (yak f k) (yak g l):=by
 rcases h with h|h
 .subst h;exact .inl (DI _)
 .subst h
  cases f with
  |nx ρ s=>exact hk ρ s
  |ct ρ s=>exact hk ρ s
  |_=>exact .rfl
theorem zdK{t:Tg}{f g:Env->SO->Fl}(h:∀ρ s,FLe (f ρ s) (g ρ s)):∀xs ρ s,FLe (forL t f xs ρ s) (forL t g xs ρ s)
 |[],ρ,s=>.rfl
 |x::xs,ρ,s=>by
  unfold forL
  cases yC t x ρ with
  |none=>exact .rfl
  |some ρ1=>exact zc0 (h ρ1 s) λρ2 s2=>zdK h xs ρ2 s2
theorem zeJ{t u:Env->SO->R PV}{f g:Env->SO->Fl}(ht:∀ρ s,RLe (t ρ s) (u ρ s))(h:∀ρ s,FLe (f ρ s) (g ρ s)):∀n ρ s,FLe (yal t f n ρ s) (yal u g n ρ s)
 |0,ρ,s=>.rfl
 |n+1,ρ,s=>by
  unfold yal;exact(ht ρ s).fl λx s1=>zjZ λb=>zfy (zc0 (h ρ s1) λρ2 s2=>zeJ ht h n ρ2 s2) .rfl
mutual
theorem zd{c d:Cl}(h:CLe c d):∀(e:Ce) (ρ:Env) (s:SO),RLe (ev c ρ s e) (ev d ρ s e)
 |.cst v,ρ,s=>by exact .rfl
 |.var i,ρ,s=>by exact .rfl
 |.bin o a b,ρ,s=>by
  exact(zd h a ρ s).bind λx s1=>(zd h b ρ s1).bind λy s2=>.rfl
 |.neg a,ρ,s=>by
  exact(zd h a ρ s).bind λx s1=>.rfl
 |.not a,ρ,s=>by
  exact(zd h a ρ s).bind λx s1=>.rfl
 |.and a b,ρ,s=>by
  refine(zd h a ρ s).bind λx s1=>?_;exact zg5 λk=>zcs (zd h b ρ s1) .rfl
 |.or a b,ρ,s=>by
  refine(zd h a ρ s).bind λx s1=>?_;exact zg5 λk=>zcs .rfl (zd h b ρ s1)
 |.cmp o a b,ρ,s=>by
  exact(zd h a ρ s).bind λx s1=>(zd h b ρ s1).bind λy s2=>.rfl
 |.chain o p a b k,ρ,s=>by
  refine(zd h a ρ s).bind λx s1=>(zd h b ρ s1).bind λy s2=>?_;exact zd1 λq=>zcs ((zd h k ρ s2).bind λz s3=>.rfl) .rfl
 |.ite k a b,ρ,s=>by
  exact(zd h k ρ s).bind λx s1=>zd1 λq=>zcs (zd h a ρ s1) (zd h b ρ s1)
 |.tup es,ρ,s=>by
  exact(zax h es ρ s).bind λx s1=>.rfl
 |.lst es,ρ,s=>by
  exact(zax h es ρ s).bind λx s1=>.rfl
 |.newl es,ρ,s=>by
  exact(zax h es ρ s).bind λx s1=>.rfl
 |.dict0 t,ρ,s=>by exact .rfl
 |.idx a i,ρ,s=>by
  exact(zd h a ρ s).bind λx s1=>(zd h i ρ s1).bind λy s2=>.rfl
 |.slc a l u,ρ,s=>by
  exact(zd h a ρ s).bind λx s1=>(zd h l ρ s1).bind λy s2=>znQ λo=>(zd h u ρ s2).bind λz s3=>.rfl
 |.call f es,ρ,s=>by
  exact(zax h es ρ s).bind λx s1=>h f x s1
 |.blt b es,ρ,s=>by
  exact(zax h es ρ s).bind λx s1=>.rfl
 |.mth m o es,ρ,s=>by
  exact(zd h o ρ s).bind λx s1=>zd1 λ_=>(zax h es ρ s1).bind λy s2=>.rfl
 |.isi a ts,ρ,s=>by
  exact(zd h a ρ s).bind λx s1=>.rfl
 |.comp sl tg it k e,ρ,s=>by
  refine(zhd h it ρ s).bind λxs s1=>?_;have q:=λ(f g:PV->SO->R (Option PV)) (hfg:∀x s,RLe (f x s) (g x s))=>zb8 hfg xs s1;refine RLe.comp (zb8 (λx s2=>?_) xs s1)
  cases yC tg x _ with
  |none=>exact .rfl
  |some ρ1=>
   dsimp only;exact(zd h k ρ1 s2).bind λb s3=>zd1 λq=>zcs ((zd h e ρ1 s3).bind λy s4=>.rfl) .rfl
 |.nope,ρ,s=>by exact .rfl
 |.frz a,ρ,s=>by
  exact(zd h a ρ s).bind λx s1=>.rfl
 |.dix D a,ρ,s=>by
  exact(zd h a ρ s).bind λx s1=>.rfl
 |.din a D,ρ,s=>by
  exact(zd h a ρ s).bind λx s1=>.rfl
 |.fld q a f,ρ,s=>by
  exact(zd h a ρ s).bind λx s1=>.rfl
 |.new q i es,ρ,s=>by
  refine(zax h es ρ s).bind λx s1=>RLe.bind ?_ λv s2=>.rfl;rcases h i (.loc s1.length::x) (s1++[.ins q []])with e|e
  .rw[e];exact .inl (DI _)
  .rw[e];exact .rfl
 |.mcl q i m o es,ρ,s=>by
  exact(zd h o ρ s).bind λx s1=>zd1 λ_=>(zax h es ρ s1).bind λy s2=>h i (x::y) s2
theorem zax{c d:Cl}(h:CLe c d):∀(e:Ces) (ρ:Env) (s:SO),RLe (evs c ρ s e) (evs d ρ s e)
 |.nil,ρ,s=>by exact .rfl
 |.cons e es,ρ,s=>by
  exact(zd h e ρ s).bind λx s1=>(zax h es ρ s1).bind λy s2=>.rfl
theorem zhd{c d:Cl}(h:CLe c d):∀(e:Cit) (ρ:Env) (s:SO),RLe (evi c ρ s e) (evi d ρ s e)
 |.seq e,ρ,s=>by
  exact(zd h e ρ s).bind λx s1=>.rfl
 |.range1 a,ρ,s=>by
  exact(zd h a ρ s).bind λx s1=>.rfl
 |.range2 a b,ρ,s=>by
  exact(zd h a ρ s).bind λx s1=>(zd h b ρ s1).bind λy s2=>.rfl
 |.rangeD a b,ρ,s=>by
  exact(zd h a ρ s).bind λx s1=>(zd h b ρ s1).bind λy s2=>.rfl
 |.enum e,ρ,s=>by
  exact(zd h e ρ s).bind λx s1=>.rfl
 |.zip a b,ρ,s=>by
  exact(zd h a ρ s).bind λx s1=>(zd h b ρ s1).bind λy s2=>.rfl
 |.revl e,ρ,s=>by
  exact(zd h e ρ s).bind λx s1=>.rfl
 |.revr e,ρ,s=>by
  exact(zd h e ρ s).bind λx s1=>.rfl
 |.chars e,ρ,s=>by
  exact(zd h e ρ s).bind λx s1=>.rfl
end
mutual
theorem zor{c d:Cl}(h:CLe c d):∀(x:Cs) (ρ:Env) (s:SO),FLe (ex c ρ s x) (ex d ρ s x)
 |.expr e,ρ,s=>by
  exact(zd h e ρ s).fl λx s1=>.rfl
 |.asg t e,ρ,s=>by
  exact(zd h e ρ s).fl λx s1=>.rfl
 |.six o i e,ρ,s=>by
  exact(zd h e ρ s).fl λx s1=>(zd h o ρ s1).fl λy s2=>(zd h i ρ s2).fl λz s3=>.rfl
 |.dput o i e,ρ,s=>by
  exact(zd h e ρ s).fl λx s1=>(zd h o ρ s1).fl λy s2=>(zd h i ρ s2).fl λz s3=>.rfl
 |.aug i o e,ρ,s=>by
  first|unfold ev|unfold ex|unfold evs|unfold evi|unfold exs
  split
  .exact(zd h e ρ s).fl λx s1=>.rfl
  .exact .rfl
 |.ret e,ρ,s=>by
  exact(zd h e ρ s).fl λx s1=>.rfl
 |.ite k a b,ρ,s=>by
  exact(zd h k ρ s).fl λx s1=>zjZ λq=>zfy (zaH h a ρ s1) (zaH h b ρ s1)
 |.for t it b,ρ,s=>by
  exact(zhd h it ρ s).fl λxs s1=>zdK (λρ2 s2=>zaH h b ρ2 s2) xs ρ s1
 |.while k b,ρ,s=>by
  exact zeJ (λρ2 s2=>zd h k ρ2 s2) (λρ2 s2=>zaH h b ρ2 s2) _ ρ s
 |.nope,ρ,s=>by exact .rfl
 |.mkr i D n es,ρ,s=>by
  refine(zd h n ρ s).fl λx s1=>?_;split
  .exact((zax h es _ s1).bind λvs s2=>h _ vs s2).fl λv s3=>.rfl
  .exact .rfl
 |.sfl q o f e,ρ,s=>by
  exact(zd h e ρ s).fl λx s1=>(zd h o ρ s1).fl λy s2=>.rfl
theorem zaH{c d:Cl}(h:CLe c d):∀(x:Css) (ρ:Env) (s:SO),FLe (exs c ρ s x) (exs d ρ s x)
 |.nil,ρ,s=>by exact .rfl
 |.cons x xs,ρ,s=>by
  first|unfold ev|unfold ex|unfold evs|unfold evi|unfold exs
  rcases zor h x ρ s with e|e
  .rw[e];exact .inl (DI _)
  .rw[e]
   cases ex d ρ s x with
   |nx ρ1 s1=>exact zaH h xs ρ1 s1
   |_=>exact .rfl
end
theorem zeG(T:Nat->Option Fn):∀k,CLe (yc T k) (yc T (k+1))
 |0,f,a,s=>.inl (DI _)
 |k+1,f,a,s=>by
  have h:=zeG T k;rw[yc,yc]
  cases T f with
  |none=>exact .rfl
  |some fn=>
   dsimp only;split
   .split
    .split
     .rcases zaH h fn.body (a.map AA++Af (fn.ns-fn.np) AD) []with e|e
      .rw[e];exact .inl (DI _)
      .rw[e];exact .rfl
     .exact .rfl
    .rcases zaH h fn.body (a.map AA++Af (fn.ns-fn.np) AD) s with e|e
     .rw[e];exact .inl (DI _)
     .rw[e];exact .rfl
   .exact .rfl
theorem zag{T:Nat->Option Fn}{k:Nat}{f:Nat}{a:List PV}{s s':SO}{v:PV}(h:yc T k f a s=.ok v s'):∀j,yc T (k+j) f a s=.ok v s'
 |0=>h
 |j+1=>by
  have q:=zag h j;rcases zeG T (k+j) f a s with e|e
  .rw[q]at e;cases e
  .rw[D0]at e;rw[<-e];exact q
end IC
namespace L2
open PySem PySem.Spec PyProof.Rows IC
def spI(K:AE)(cl:Nat->AI)(call:Nat->List PV->SO->R PV)(f:Nat):Sp:=λvs H Q E=>∃B φ st args,yr K cl B φ H st/\ye K cl B φ H args vs/\match call f args st with
 |.ok v st'=>∀x H' φ',Step φ H φ' H'->yr K cl B φ' H' st'->yd K cl B φ' H' v x->Q x H'
 |.exc c st'=>∀H' φ',Step φ H φ' H'->yr K cl B φ' H' st'->E (.ref (cl c)) AD H'
 |.bad=>False
section
variable {S:Se}{X:Cx}{k:Nat}{f:AI}{fd:BA}{ps ks:List AR}{sp:Sp}{dvs:List V}{ds:List AF}{x:AR}{p pos:CP}{e:AU}{es:List AU}{t tk:TA}{CX:CXT}{σ:St}{H:Hp}
theorem zc2{pins:List (AI×CA)}{s:AJ}{Q:VK}{us:List AF}{vs:List V}{E:XK}(F:yaB X.prog X.w X.K X.mg X.base CX k f fd ps sp)(hr:yao k X.A)(hb:Binds X.K fd ps ds)(hd:Vals dvs ds)
  (I:Inv X pins σ H s) (r:Vals vs us) (h:sp (vs++dvs) H Q E) (hx:∀e s',CX X.stack H s E e s'->X.xe e s'):A1 (model X.prog X.w) X.A (call (.ref f) us) (EP X pins σ Q) X.xe s:=by
 have r2:Vals (vs++dvs) (us++ds):=r.append hd;have hl:(us++ds).length=ps.length:=by rw[<-r2.length];exact F.len _ _ _ _ h
 refine G9 (Dj (F.run X.A X.stack s H ⟨us,[]⟩ (us++ds) (vs++dvs) Q E hr I.env0 (hb s us I.kIn hl) r2 h) λr s' hq=>?_)
 cases r with
 |error e=>exact hx e s' hq
 |ok fl=>
  cases fl with
  |ret u=>exact I.after hq
  |next=>exact Be hq
  |brk=>exact Be hq
  |cont=>exact Be hq
noncomputable def ycd(CX:CXT)(X:Cx)(sp:Sp)(dvs:List V)(t:TA):TE:=λσ H Q=>t σ H λvs H1=>∃E:XK,sp (vs++dvs) H1 Q E/\∀pins s e s',Inv X pins σ H1 s->CX X.stack H1 s E e s'->X.xe e s'
theorem zjl(F:yaB X.prog X.w X.K X.mg X.base CX k f fd ps sp)(hr:yao k X.A)(hg:Gl X x)(hm:X.mg x=AA (.ref f))(hk:Ap X.K (.ref f)=AB)(hb:Binds X.K fd ps ds)(hd:Vals dvs ds)
  (ha:PA X (e::es) t) (hdb:(x==("__debug__":AR))=false:=by decide) (he:starEach (e::es) X.env=(AC,eval e X.env)::starEach es X.env:=by rfl) (hpl:(backTo pos (starEach es X.env)).any (·.1)=false:=by rfl):
  PE X (.Call (.Name x p) (e::es) [] pos) (ycd CX X sp dvs t):=by
 intro pins s σ H Q I h;refine BZ (zcy I hg hm ?_ hdb);refine DB (h₀:=X.base) I.ok.mod.kin hk (thn (ha pos pins s σ H _ I h) λus s1 kq=>?_) he hpl;let⟨vs,H1,I1,r,E,q,hx⟩:=kq;refine ⟨I1.kIn,?_⟩;exact zc2 F hr hb hd I1 r q λe s' c=>hx pins s1 e s' I1 c
theorem zgY(F:yaB X.prog X.w X.K X.mg X.base CX k f fd ps sp)(hr:yao k X.A)(hg:Gl X x)(hm:X.mg x=AA (.ref f))(hk:Ap X.K (.ref f)=AB)(hb:Binds X.K fd ps ds)(hd:Vals dvs ds)
  (hdb:(x==("__debug__":AR))=false:=by decide):PE X (.Call (.Name x p) [] [] pos) (ycd CX X sp dvs ycY):=by
 intro pins s σ H Q I h;let⟨E,q,hx⟩:=h;refine BZ (zcy I hg hm ?_ hdb);exact FV I.kIn hk (zc2 F hr hb hd I .nil q λe s' c=>hx pins s e s' I c)
variable {B:AI->Prop}{φ:Ph}{st:SO}{ces:Ces}{fi:Nat}
theorem zaR{vs:List PV}{xs:List V}{Q:VK}(rs:yr X.K S.cl B φ H st)(l:ye X.K S.cl B φ H vs xs)(h:Run S X σ B φ H (RV S X B) (S.call fi vs st) Q):
  ∃E:XK,spI X.K S.cl S.call fi xs H Q E/\∀pins s e s',Inv X pins σ H s->CX1 X.prog X.w X.stack H s E e s'->X.xe e s':=by
 cases c:S.call fi vs st with
 |ok v st'=>
  rw[c]at h;refine⟨λ_ _ _=>False,⟨B,φ,st,vs,rs,l,by rw[c];exact h⟩,λpins s e s' _ z=>?_⟩;let⟨_,_,_,_,_,_,_,_,_,_,_,_,_,_,z⟩:=z;exact z.elim
 |exc k st'=>
  rw[c]at h;refine⟨λcls _ H'=>cls=.ref (S.cl k)/\∃φ',Step φ H φ' H'/\yr X.K S.cl B φ' H' st',⟨B,φ,st,vs,rs,l,by rw[c];exact λH' φ' s r=>⟨rfl,φ',s,r⟩⟩,λpins s e s' I z=>h e s' (.inl ⟨pins,H,s,φ,I,.rfl,z⟩)⟩
 |bad=>rw[c]at h;exact h.elim
theorem zk2(F:yaB X.prog X.w X.K X.mg X.base (CX1 X.prog X.w) k f fd ps (spI X.K S.cl S.call fi))(hr:yao k X.A)(hg:Gl X x)(hm:X.mg x=AA (.ref f))(hk:Ap X.K (.ref f)=AB)(hb:Binds X.K fd ps [])
  (ha:PA X (e::es) (tAs S X ces)) (hdb:(x==("__debug__":AR))=false:=by decide) (he:starEach (e::es) X.env=(AC,eval e X.env)::starEach es X.env:=by rfl) (hpl:(backTo pos (starEach es X.env)).any (·.1)=false:=by rfl):
  PE X (.Call (.Name x p) (e::es) [] pos) (tE S X (.call fi ces)):=
 (zjl F hr hg hm hk hb .nil ha hdb he hpl).imp λσ H Q ⟨B,φ,st,ρ,rs,re,h⟩=>by
  erw[ev]at h;refine tAs.bind rs re h λxs H1 vs st1 φ1 s1 rs1 re1 rv h1=>?_;rw[Ax];exact zaR rs1 rv h1
theorem zju(F:yaB X.prog X.w X.K X.mg X.base (CX1 X.prog X.w) k f fd ps (spI X.K S.cl S.call fi))(hr:yao k X.A)(hg:Gl X x)(hm:X.mg x=AA (.ref f))(hk:Ap X.K (.ref f)=AB)(hb:Binds X.K fd ps [])
  (hdb:(x==("__debug__":AR))=false:=by decide):PE X (.Call (.Name x p) [] [] pos) (tE S X (.call fi .nil)):=
 (zgY F hr hg hm hk hb .nil hdb).imp λσ H Q ⟨B,φ,st,ρ,rs,re,h⟩=>by
  erw[ev,evs,R.bind]at h;exact zaR rs (by erw[ye];rfl) h
end
section
variable {P:A5}{w:Ai}{K:AE}{mg:AR->Option AF}{base:Az}{cl:Nat->AI}{T:Nat->Option IC.Fn}{fi:Nat}{fn:IC.Fn}{x qual:AR}{stm:Bt}{f:AI}{fd:BA}{N ps:List AR}{k:Nat}
theorem CX1.mono{outer:List BY}{H:Hp}{s:AJ}{E E':XK}{e:AF}{s':AJ}(h:CX1 P w outer H s E e s')(n:∀cls H',E cls AD H'->E' cls AD H'):CX1 P w outer H s E' e s':=by
 let⟨a,cls,a0,H',Bh,r1,r2,r3,r4,r5,r6,r7,r8,r9,r10⟩:=h;exact⟨a,cls,a0,H',Bh,r1,r2,r3,r4,r5,r6,r7,r8,r9,n _ _ r10⟩
theorem yG.start{B:AI->Prop}{φ:Ph}{H:Hp}{args:List PV}{vs:List V}(l:ye K cl B φ H args vs)(n:Nat)(hn:N.length-vs.length=n):yG K cl B φ H (args.map AA++Af n AD) (L2.start N vs):=by
 have hl:=l.length;unfold L2.start;refine⟨by simp[hl,hn],λi v e=>?_⟩
 by_cases hi:i<args.length
 .rw[Ag (by simpa using hi),Bw]at e
  cases q:args[i]? with
  |none=>rw[q]at e;cases e
  |some v'=>
   rw[q]at e
   cases e
   let⟨y,hy,rv⟩:=l.get i q;exact⟨y,by rw[Ag (by simp;lia),Bw,hy];rfl,rv⟩
 .rw[Ak (by simp;lia),E8]at e;split at e<;>cases e
theorem leave{N:List AR}{scope:Bl}{cd:AF}{A:Ao}{outer:List BY}{s₀:AJ}{H₀:Hp}{E:XK}{call:Nat->List PV->SO->R PV}{σ:St}{B:AI->Prop}{φ:Ph}{H:Hp}{c:Nat}{st':SO}{e:AF}{s':AJ}
  (h:ExcAt ⟨cl,call,AB⟩ (yaQ (CX1 P w) P w K mg base N qual scope f cd A outer s₀ H₀ E) σ B φ H c st' e s') (n:∀φ' H',Step φ H φ' H'->yr K cl B φ' H' st'->E (.ref (cl c)) AD H'):
  (yaQ (CX1 P w) P w K mg base N qual scope f cd A outer s₀ H₀ E).xe e s':=by
 rcases h with⟨pins,H1,s,φ1,I,s1,q⟩|⟨_,pins,H1,s,φ1,h',e0,vs,I,s1,rs,mk,rfl,rfl⟩|⟨_,pins,H1,s,I,q⟩
 .exact ydJ pins σ H1 s e s' I (q.mono λcls H' ⟨e1,φ',s2,r⟩=>by subst e1;exact n φ' H' (s1.trans s2) r)
 .exact zhq I mk (n φ1 H1 s1 rs)
 .exact yed I (q.mono λcls H' ⟨e1,φ',s2,r⟩=>by subst e1;exact n φ' H' s2 r)
theorem zj0(hT:T fi=AA fn):∀(args:List PV) (st:SO),yc T (k+1) fi args st ≠ .bad->args.length=fn.np:=λargs st hne=>by
 apply Classical.byContradiction;intro c;apply hne;rw[yc,hT];exact if_neg c
theorem zmL(hT:T fi=AA fn)(hnp:ps.length=fn.np){vs:List V}{H:Hp}{Q:VK}{E:XK}(h:spI K cl (yc T (k+1)) fi vs H Q E):vs.length=ps.length:=by
 let⟨B,φ,st,args,rs,l,h⟩:=h;rw[hnp,<-l.length];refine zj0 (k:=k) hT args st λz=>?_;rw[z]at h;exact h
theorem zlb(hT:T fi=AA fn)(hns:N.length=fn.ns){scope:Bl}{cdv:AF}{A:Ao}{outer:List BY}{s:AJ}{vs:List V}{H:Hp}{Q:VK}{E:XK}(h:spI K cl (yc T (k+1)) fi vs H Q E):
  tSs ⟨cl,yc T k,AB⟩ (yaQ (CX1 P w) P w K mg base N qual scope f cdv A outer s H E) fn.body {nx:=λ_ H'=>Q .non H',rt:=Q} (L2.start N vs) H:=by
 let⟨B,φ,st,args,rs,l,h⟩:=h;have hl:args.length=fn.np:=zj0 (k:=k) hT args st λz=>by rw[z]at h;exact h
 have hlen:=l.length;rw[yc,hT]at h;dsimp only at h;rw[if_pos hl]at h
 by_cases hp:fn.pure=AB
 .rw[if_pos hp]at h
  by_cases hz:nLs args=AB
  .rw[if_pos hz]at h;have rs0:yr K cl (λa=>B a \/ AA a∈φ) [] H []:=⟨rfl,λm n a e=>by simp at e,λn a e=>by simp at e,λn o e=>by simp at e,λa z=>by simp at z,λa z=>z.elim (rs.dom a) rs.there⟩;have back:∀{φ':Ph} {H':Hp},Step [] H φ' H'->Step φ H φ H'/\yr K cl B φ H' st:=λ{φ' H'} s'=>
    have kk:∀b o,H b=AA o->H' b=AA o:=λb o e=>s'.keep b o (by simp) e
    ⟨⟨λb o _ e=>kk b o e,AT _,λ_ _ _ e=>e,λ_ h=>.inl h⟩,rs.same kk⟩
   refine⟨_,[],[],_,rs0,yG.start (ye.inn rs.nb args vs hz l) (fn.ns-fn.np) (by lia),?_⟩;show yaw _ _ _ _ _ (exs (yc T k) (args.map AA++Af (fn.ns-fn.np) AD) [] fn.body) _
   cases e:exs (yc T k) (args.map AA++Af (fn.ns-fn.np) AD) [] fn.body with
   |nx ρ' st'=>
    rw[e]at h;intro σ' H' φ' s' rs' re';let⟨s2,r2⟩:=back s';exact h .non H' φ s2 r2 (by erw[yd])
   |rt v st'=>
    rw[e]at h;dsimp only at h
    by_cases hv:nL v=AB
    .rw[if_pos hv]at h;intro y H' φ' s' rs' rv;let⟨s2,r2⟩:=back s';exact h y H' φ s2 r2 (yd.out v y hv rv)
    .rw[if_neg hv]at h;exact h.elim
   |exc c ρ' st'=>
    rw[e]at h;intro σ' φ1 H1 ev s' s1 _ ex;refine leave ex λφ2 H2 s2 _=>?_;let⟨s3,r3⟩:=back (s1.trans s2);exact h H2 φ s3 r3
   |bk ρ' st'=>rw[e]at h;exact h.elim
   |ct ρ' st'=>rw[e]at h;exact h.elim
   |bad=>rw[e]at h;exact h.elim
  .rw[if_neg hz]at h;exact h.elim
 .rw[if_neg hp]at h;refine⟨B,φ,st,_,rs,yG.start l (fn.ns-fn.np) (by lia),?_⟩;show yaw _ _ _ _ _ (exs (yc T k) (args.map AA++Af (fn.ns-fn.np) AD) st fn.body) _
  cases e:exs (yc T k) (args.map AA++Af (fn.ns-fn.np) AD) st fn.body with
  |nx ρ' st'=>
   rw[e]at h;intro σ' H' φ' s' rs' re';exact h .non H' φ' s' rs' (by erw[yd])
  |rt v st'=>
   rw[e]at h;intro y H' φ' s' rs' rv;exact h y H' φ' s' rs' rv
  |exc c ρ' st'=>
   rw[e]at h;intro σ' φ1 H1 ev s' s1 _ ex;exact leave ex λφ2 H2 s2 r2=>h H2 φ2 (s1.trans s2) r2
  |bk ρ' st'=>rw[e]at h;exact h.elim
  |ct ρ' st'=>rw[e]at h;exact h.elim
  |bad=>rw[e]at h;exact h.elim
end
noncomputable def tyN:Ty->String
 |.int=>"int" | .bool=>"bool" | .str=>"str" | .tuple=>"tuple" | .list=>"list" | _=>""
structure yea(K:AE)(t:Ty):Prop where
 n:B0 K (.type "NoneType") (.type (tyN t))=AA (ybo .non t)
 b:B0 K (.type "bool") (.type (tyN t))=AA (ybo (.bl AB) t)
 i:B0 K (.type "int") (.type (tyN t))=AA (ybo (.int 0) t)
 s:B0 K (.type "str") (.type (tyN t))=AA (ybo (.str GF) t)
 p:B0 K (.type "tuple") (.type (tyN t))=AA (ybo (.tp AB []) t)
 l:B0 K (.type "list") (.type (tyN t))=AA (ybo (.lst []) t)
section
variable {S:Se}{X:Cx}{σ:St}{B:AI->Prop}{φ:Ph}{H:Hp}{st:SO}{p pos p2 px:CP}{a b c d o:AU}{ca cb cc:Ce}{t:Ty}
def ygr(S:Se)(X:Cx)(t:Ty):List V->Hp->VK->Prop:=λxs H Q=>∃B φ st v x z,xs=[x,.ty (tyN t)]/\yr X.K S.cl B φ H st/\yd X.K S.cl B φ H v x/\yaD v [t]=AA z/\ydh t=AB /\
 ∀z' H' φ',Step φ H φ' H'->yr X.K S.cl B φ' H' st->yd X.K S.cl B φ' H' z z'->Q z' H'
theorem zl3(Z:yea X.K t):yac X (.builtin "isinstance") (ygr S X t):=by
 rintro pins s σ H xs us Q I r ⟨B,φ,st,v,x,z,rfl,rs,rv,e,hb,q⟩
 let⟨u,c',rfl,ru,rc⟩:=vals2 r
 cases (show c'=Ed (tyN t)from rc)
 have fin:∀(k:Bool) (tk:Nat),z=.bl k->EP X pins σ Q (.bool k) {s with toks:=tk}:=λk tk ez=>⟨.bl k,H,I.tok tk,rfl,q _ H φ .rfl rs (by subst ez;erw[yd])⟩
 cases v with
 |non=>
  erw[yd]at rv;subst rv
  cases (show u=CH from ru)
  erw[yaD,hb,if_true]at e;exact Cd PySem.W.kitx_none I.kIn Ca Z.n (λz=>nomatch z) λtk=>fin _ tk (by cases e;cases t<;>rfl)
 |bl k=>
  erw[yd]at rv;subst rv
  cases (show u=Dp k from ru)
  erw[yaD,hb,if_true]at e;exact Cd PySem.W.kitx_bool I.kIn Ca Z.b (λz=>nomatch z) λtk=>fin _ tk (by cases e;cases t<;>rfl)
 |int k=>
  erw[yd]at rv;subst rv;let⟨tk,rfl⟩:=ru;erw[yaD,hb,if_true]at e;exact Cd PySem.W.kitx_int I.kIn Ca Z.i (λz=>nomatch z) λtk=>fin _ tk (by cases e;cases t<;>rfl)
 |str k=>
  erw[yd]at rv;subst rv;let⟨tk,rfl⟩:=ru;erw[yaD,hb,if_true]at e;exact Cd PySem.W.kitx_str I.kIn Ca Z.s (λz=>nomatch z) λtk=>fin _ tk (by cases e;cases t<;>rfl)
 |tp k vs=>
  erw[yd]at rv;let⟨y,ys,rfl,rt,l⟩:=rv
  cases (show u=Ah y from ru)
  erw[yaD,hb,if_true]at e;let⟨its,_,⟨o,g,c,_,_⟩,_⟩:=I.tuple rt.sq;exact Cd PySem.W.kitx_tuple I.kIn ⟨o,g,c⟩ Z.p (λz=>nomatch z) λtk=>fin _ tk (by cases e;cases t<;>rfl)
 |lst vs=>
  erw[yd]at rv;let⟨y,ys,rfl,rt,l⟩:=rv
  cases (show u=Ah y from ru)
  erw[yaD,hb,if_true]at e;let⟨_,_,n,_,h1⟩:=(show yO X.prog X.w H s.heap y (.lst ys)from I.hok y _ rt.1);exact Cd PySem.W.kitx_list I.kIn ⟨_,h1,rfl⟩ Z.l (λz=>nomatch z) λtk=>fin _ tk (by cases e;cases t<;>rfl)
 |loc n=>cases e
 |scr n=>cases e
 |exn n=>erw[yaD,Bb,List.all_nil,hb,Cg,if_true]at e;cases e
theorem znr{T:AR}(Z:yea X.K t)(ht:ydh t=AB)(hg:Gl X "isinstance")(hm:X.mg "isinstance"=AD)(hgT:Gl X T)(hmT:X.mg T=AD)(hT:bootBuiltins T=AA (.type (tyN t)))(ha:PE X a (tE S X ca))(hnT:T ≠ "__name__":=by decide)(hdT:(T==("__debug__":AR))=false:=by decide)
  (he:starEach [a,.Name T p2] X.env=(AC,eval a X.env)::starEach [.Name T p2] X.env:=by rfl) (hpl:(backTo pos (starEach [.Name T p2] X.env)).any (·.1)=false:=by rfl):
  PE X (.Call (.Name "isinstance" p) [a,.Name T p2] [] pos) (tE S X (.isi ca [t])):=
 (zfK (zl3 Z) hg hm GZ (zbo ha (zbo (zkM (v:=.ty (tyN t)) hgT hmT hT rfl hnT hdT) ybc) he) (by decide) (by decide) he hpl).imp λσ H Q ⟨B,φ,st,ρ,rs,re,h⟩=>by
  erw[ev]at h;refine tE.bind rs re h λx H1 v st1 φ1 s1 rs1 re1 rv h1=>?_;let⟨z,e,q⟩:=zab h1 rs1;exact⟨B,φ1,st1,v,x,z,rfl,rs1,rv,e,ht,q⟩
theorem ziL{st4:SO}{x y v:PV}(h:ybp st x y v=AA st4):∃n xs k j,x=.loc n/\st[n]?=AA (.lst xs)/\y=.int k/\ixI xs.length k=AA j/\st4=st.set n (.lst (xs.set j v)):=by
 cases x with
 |loc n=>
  erw[ybp]at h
  cases q:st[n]? with
  |none=>rw[q]at h;cases h
  |some o=>
   rw[q]at h
   cases o with
   |lst xs=>
    cases y with
    |int k=>
     dsimp only at h
     cases q2:ixI xs.length k with
     |none=>rw[q2]at h;cases h
     |some j=>rw[q2]at h;exact⟨n,xs,k,j,rfl,q,rfl,q2,(AZ h).symm⟩
    |_=>cases h
   |_=>cases h
 |_=>cases h
theorem ye.put{K:AE}{cl:Nat->AI}:∀{vs:List PV} {xs:List V} (j:Nat) {v:PV} {x:V},ye K cl B φ H vs xs->yd K cl B φ H v x->ye K cl B φ H (vs.set j v) (xs.set j x)
 |[],xs,j,v,x,l,r=>by erw[ye]at l;subst l;simp[ye]
 |w::vs,xs,0,v,x,l,r=>by
  erw[ye]at l;let⟨y,ys,rfl,_,l⟩:=l;erw[A7,ye];exact⟨x,ys,rfl,r,l⟩
 |w::vs,xs,j+1,v,x,l,r=>by
  erw[ye]at l;let⟨y,ys,rfl,ry,l⟩:=l;erw[A8,ye];exact⟨y,ys.set j x,rfl,ry,ye.put j l r⟩
theorem znH(he:PE X a (tE S X ca))(ho:PE X b (tE S X cb))(hi:PE X c (tE S X cc))(hs:swapsWithSole [.Subscript b c px] a pos.line X.env=pure false:=by rfl)(hw:swappedStores [.Subscript b c px] a X.env=pure none:=by rfl)
  (hg:PG X (.Subscript b c px) (yeT (tE S X cb) (tE S X cc) yc5):=by exact zjR ‹_› ‹_› zfr):PS X (.Assign [.Subscript b c px] a pos) (tS S X (.six cb cc ca)):=
 (zjY he hg hs hw).imp λD σ H ⟨B,φ,st,ρ,rs,re,h⟩=>by
  erw[ex]at h;refine tE.fl rs re h λv' H1 v st1 φ1 s1 rs1 re1 rv h1=>tE.fl rs1 re1 h1 λx' H2 x st2 φ2 s2 rs2 re2 rx h2=>tE.fl rs2 re2 h2 λy' H3 y st3 φ3 s3 rs3 re3 ry h3=>?_
  cases e:ybp st3 x y v with
  |none=>rw[e]at h3;exact h3.elim
  |some st4=>
   rw[e]at h3;let⟨n,xs,k,j,rfl,hn,rfl,hj,rfl⟩:=ziL e;erw[yd]at ry;subst ry;let⟨l,ys,rfl,hp,hx,lr⟩:=rs3.list (rx.step s3) hn;refine⟨l,ys,k,j,rfl,rfl,hx,by rw[<-lr.length];exact hj,?_⟩;have s4:Step φ3 H3 φ3 (L2.upd H3 l (.lst (ys.set j v'))):=.put (A2 hp);exact h3 σ _ φ3 s4 (rs3.put hp ⟨_,zq,(lr.put j ((rv.step s2).step s3)).step s4⟩) (re3.step s4)
end
section
variable {S:Se}{X:Cx}{σ:St}{B:AI->Prop}{φ:Ph}{H:Hp}{st:SO}{p pos p2 px py pt pt2 apos:CP}{a b c d o:AU}{ca cb cc:Ce}{kt k2:Nat}
theorem znD{i j:Nat}{x y:AR}(hc:X.calm=AB)(hN:X.N.Nodup)(hi:X.N[i]?=AA x)(hj:X.N[j]?=AA y)(hij:i≠j)(h:PS X (.Assign [.Tuple [.Name x px,.Name y py] kt pt] (.Tuple [a,b] k2 pt2) pos) (yeP i j (tAs S X (.cons ca (.cons cb .nil))))):
  PS X (.Assign [.Tuple [.Name x px,.Name y py] kt pt] (.Tuple [a,b] k2 pt2) pos) (tS S X (.asg (.t [i,j]) (.tup (.cons ca (.cons cb .nil))))):=
 h.imp λD σ H ⟨B,φ,st,ρ,rs,re,h⟩=>by
  erw[ex,ev]at h;refine⟨B,φ,st,ρ,rs,re,?_⟩
  cases e:evs S.call ρ st (.cons ca (.cons cb .nil))with
  |bad=>rw[e]at h;exact h
  |exc k st'=>rw[e]at h;exact λe s' x=>h σ φ H e s' .rfl re x
  |ok vs st'=>
   rw[e]at h;intro xs H' φ' s rs' l;erw[R.bind]at h;split at h
   .rcases vs with _|⟨v,_|⟨w,_|⟨u,t⟩⟩⟩
    .exact h.elim
    .exact h.elim
    .let⟨v',w',rfl,rv,rw⟩:=l.two;refine⟨v',w',rfl,?_⟩;exact h _ H' φ' s rs' (((re.step s).set i rv).set j rw)
    .exact h.elim
   .exact h.elim
theorem zlx{bo:BOp}{v w z:PV}(h:ybJ bo v w=AA z):∃i j,v=.int i/\w=.int j/\IC.binI bo i j=AA z:=by
 unfold ybJ at h;split at h
 .exact⟨_,_,rfl,rfl,h⟩
 .cases h
theorem zlA:PIp X .Add (rT2 S X (ybJ .add)):=by
 rintro pins s σ H x y v u Q I rx ry ⟨B,φ,st,a,b,z,rs,ra,rb,e,q⟩
 let⟨i,j,rfl,rfl,e⟩:=zlx e
 cases e
 erw[yd]at ra rb;subst ra rb;exact znf pins s σ H _ _ v u Q I rx ry ⟨i,j,rfl,rfl,q _ H φ .rfl rs (by erw[yd])⟩
end
end L2
namespace WK
open PySem L2 IC
def GC(K:AE)(mg:AR->Option AF)(cl:Nat->AI)(x:AR)(v:PV):Prop:=∃y:AI,mg x=AA (.ref y)/\∀B φ H,yd K cl B φ H v (.ref y)
theorem zoS{S:Se}{X:Cx}{x:AR}{v:PV}{pos:CP}(hg:Gl X x)(h:GC X.K X.mg S.cl x v)(hd:(x==("__debug__":AR))=false:=by decide):PE X (.Name x pos) (tE S X (.cst v)):=by
 let⟨y,hm,hk⟩:=h;exact zkL hg hm hk hd
theorem zj1:bootBuiltins "int"=AA (.type "int"):=by decide +kernel
theorem zlE:bootBuiltins "bool"=AA (.type "bool"):=by decide +kernel
theorem zl6:bootBuiltins "str"=AA (.type "str"):=by decide +kernel
theorem zfx:bootBuiltins "tuple"=AA (.type "tuple"):=by decide +kernel
theorem zmW:bootBuiltins "len"=AA (.builtin "len"):=by decide +kernel
theorem znu:bootBuiltins "min"=AA (.builtin "min"):=by decide +kernel
theorem zn3:bootBuiltins "max"=AA (.builtin "max"):=by decide +kernel
theorem znE:bootBuiltins "all"=AA (.builtin "all"):=by decide +kernel
theorem zlv{k:Nat}{A:Ao}(r:yao k A):A.units+1<cLine:=by have:=r.units;lia
end WK
namespace L2
open PySem PySem.Spec PyProof.Rows IC
noncomputable def shC:Sum Ce Int->Option Int
 |.inl _=>AD
 |.inr i=>AA i
noncomputable def yaN:List (Option Int)->List V->List V
 |[],_=>[]
 |some i::r,zs=>.int i::yaN r zs
 |none::r,z::zs=>z::yaN r zs
 |none::_,[]=>[]
noncomputable def pick:List (Option Int)->List V->List V
 |none::r,v::vs=>v::pick r vs
 |some _::r,_::vs=>pick r vs
 |_,_=>[]
noncomputable def nKw:List (Option Int)->Nat
 |[]=>0
 |none::r=>nKw r+1
 |some _::r=>nKw r
noncomputable def ycR:Ces->Nat
 |.nil=>0
 |.cons _ r=>ycR r+1
def gK(np:Nat)(sh:List (Option Int))(vs zs:List V):List V:=if vs.length=np/\zs.length=nKw sh then vs++yaN sh zs else []
theorem zgE{call:Nat->List PV->SO->R PV}{ρ:IC.Env}:∀(a:Ces) {st st':SO} {vs:List PV},evs call ρ st a=.ok vs st'->vs.length=ycR a
 |.nil,st,st',vs,h=>by erw[evs]at h;cases h;rfl
 |.cons e r,st,st',vs,h=>by
  erw[evs]at h
  cases q:ev call ρ st e with
  |ok v s1=>
   rw[q]at h;erw[R.bind]at h
   cases q2:evs call ρ s1 r with
   |ok ws s2=>
    rw[q2]at h
    cases h
    simp[ycR,zgE r q2]
   |exc c s=>rw[q2]at h;cases h
   |bad=>rw[q2]at h;cases h
  |exc c s=>rw[q]at h;cases h
  |bad=>rw[q]at h;cases h
theorem zhQ{call:Nat->List PV->SO->R PV}{ρ:IC.Env}:∀(a b:Ces) (st:SO),evs call ρ st (yaC a b)=(evs call ρ st a).bind λvs st1=>(evs call ρ st1 b).bind λws st2=>.ok (vs++ws) st2
 |.nil,b,st=>by
  erw[yaC,evs,R.bind,Aq]
  cases evs call ρ st b<;>rfl
 |.cons e r,b,st=>by
  erw[yaC,evs]
  cases ev call ρ st e with
  |ok v st1=>
   erw[R.bind];rw[zhQ r b st1]
   cases evs call ρ st1 r with
   |ok vs st2=>
    erw[R.bind]
    cases evs call ρ st2 b<;>rfl
   |exc c s=>rfl
   |bad=>rfl
  |exc c s=>rfl
  |bad=>rfl
section
variable {S:Se}{X:Cx}{k:Nat}{f:AI}{fd:BA}{ps ks:List AR}{sp:Sp}{x:AR}{p pos kpos:CP}{e:AU}{es:List AU}{kws:List C2}{nm:Option AR}{t tk:TA}{CX:CXT}{ca:Ce}{ces:Ces}{items:List (Sum Ce Int)}{g:List AF->List AF->List AF}{gV:List V->List V->List V}
theorem zbW{K:AE}{cl:Nat->AI}{B:AI->Prop}{φ:Ph}{H:Hp}{call:Nat->List PV->SO->R PV}{ρ:IC.Env}:∀(items:List (Sum Ce Int)) {st st':SO} {vs:List PV} {xs:List V},evs call ρ st (yH items)=.ok vs st'->ye K cl B φ H vs xs->yaN (items.map shC) (pick (items.map shC) xs)=xs/\(pick (items.map shC) xs).length=nKw (items.map shC)
 |[],st,st',vs,xs,h,l=>by
  erw[yH,evs]at h
  cases h
  erw[ye]at l;subst l;exact⟨rfl,rfl⟩
 |.inl c::r,st,st',vs,xs,h,l=>by
  erw[yH,evs]at h;let⟨v,s1,e1,h⟩:=zaQ h;let⟨ws,s2,e2,h⟩:=zaQ h
  cases h
  erw[ye]at l;let⟨y,ys,rfl,_,l⟩:=l;let⟨q1,q2⟩:=zbW r e2 l;erw[AL,shC,pick,yaN,nKw,AS,q1,q2];exact⟨trivial,trivial⟩
 |.inr i::r,st,st',vs,xs,h,l=>by
  erw[yH,evs,ev]at h;let⟨v,s1,e1,h⟩:=zaQ h;let⟨ws,s2,e2,h⟩:=zaQ h
  cases h
  cases e1
  erw[ye,yd]at l;let⟨y,ys,rfl,rfl,l⟩:=l;let⟨q1,q2⟩:=zbW r e2 l;erw[AL,shC,pick,yaN,nKw,q1,q2];exact⟨trivial,trivial⟩
def tK(S:Se)(X:Cx)(items:List (Sum Ce Int)):TA:=λσ H Q=>∃B φ st ρ,yr X.K S.cl B φ H st/\yG X.K S.cl B φ H ρ σ/\Run S X σ B φ H (RL S X B) (evs S.call ρ st (yH items)) λxs H'=>Q (pick (items.map shC) xs) H'
theorem PK.imp{t t':TA}(h:PK X kws t')(k:∀σ H Q,t σ H Q->t' σ H Q):PK X kws t:=λpos pins s σ H Q I q=>h pos pins s σ H Q I (k σ H Q q)
theorem zmu:PK X [] (tK S X []):=ycX.imp λσ H Q ⟨B,φ,st,ρ,rs,re,h⟩=>by
 erw[yH,evs]at h;exact h.ok rs (x:=[]) (by erw[ye])
theorem zoz{i:Int}(h:PK X kws (tK S X items)):PK X kws (tK S X (.inr i::items)):=h.imp λσ H Q ⟨B,φ,st,ρ,rs,re,h⟩=>by
 erw[yH,evs,ev,R.bind]at h;refine⟨B,φ,st,ρ,rs,re,?_⟩
 cases e:evs S.call ρ st (yH items)with
 |ok vs st'=>
  rw[e]at h;intro xs H' φ' s rs' l;exact h (.int i::xs) H' φ' s rs' (by erw[ye,yd];exact⟨_,_,rfl,rfl,l⟩)
 |exc c s=>rw[e]at h;exact h
 |bad=>rw[e]at h;exact h
theorem zoi(ha:PE X e (tE S X ca))(h:PK X kws (tK S X items)):PK X (⟨nm,e,kpos⟩ :: kws) (tK S X (.inl ca::items)):=(zkE ha h).imp λσ H Q ⟨B,φ,st,ρ,rs,re,h⟩=>by
 erw[yH,evs]at h;refine tE.bind rs re h λx H1 v st1 φ1 s1 rs1 re1 rv h1=>⟨B,φ1,st1,ρ,rs1,re1,?_⟩;refine(Run.bind (Rel:=RL S X B) h1).mono λxs H2 kq=>?_;let⟨ws,st2,φ2,s2,rs2,l,h2⟩:=kq;exact h2.ok rs2 (x:=x::xs) (by erw[ye];exact⟨x,xs,rfl,rv.step s2,l⟩)
theorem zjm{fi:Nat}(F:yaB X.prog X.w X.K X.mg X.base (CX1 X.prog X.w) k f fd ps (spI X.K S.cl S.call fi))(hr:yao k X.A)(hg:Gl X x)(hm:X.mg x=AA (.ref f))(hk:Ap X.K (.ref f)=AB){np:Nat}(hb:∃g,ybC X.K fd ps ks g (gK np (items.map shC)))(hnp:ycR ces=np)
  (ha:PA X (e::es) (tAs S X ces)) (hkw:PK X kws (tK S X items)) (hall:(backToKw pos (keywordEach kws X.env)).all (·.1.isSome)=true:=by rfl) (hks:(backToKw pos (keywordEach kws X.env)).filterMap (·.1)=ks:=by rfl)
  (hdb:(x==("__debug__":AR))=false:=by decide) (he:starEach (e::es) X.env=(AC,eval e X.env)::starEach es X.env:=by rfl)
  (hpl:((backTo pos (starEach (e::es) X.env)).any (·.1) || (backToKw pos (keywordEach kws X.env)).any (·.1.isNone))=false:=by rfl):
  PE X (.Call (.Name x p) (e::es) kws pos) (tE S X (.call fi (yaC ces (yH items)))):=by
 intro pins s σ H Q I ⟨B,φ,st,ρ,rs,re,h⟩;erw[ev]at h;rw[zhQ,R.bind_assoc]at h;refine BZ (zcy I hg hm ?_ hdb);have h0:tAs S X ces σ H λvs H1=>tK S X items σ H1 λzs H2=>∃E:XK,spI X.K S.cl S.call fi (gK np (items.map shC) vs zs) H2 Q E/\∀pins s e s',Inv X pins σ H2 s->CX1 X.prog X.w X.stack H2 s E e s'->X.xe e s':=by
  have hlen:∀vs st',evs S.call ρ st ces=.ok vs st'->vs.length=np:=λvs st' q=>(zgE ces q).trans hnp;refine⟨B,φ,st,ρ,rs,re,?_⟩
  cases q:evs S.call ρ st ces with
  |exc c s=>rw[q]at h;exact h
  |bad=>rw[q]at h;exact h
  |ok vs st1=>
  rw[q]at h;intro xs H1 φ1 s1 rs1 rv;have h1:=Run.on s1 h;have re1:=re.step s1;have hv:=hlen vs st1 q;refine⟨B,φ1,st1,ρ,rs1,re1,?_⟩;have h1:Run S X σ B φ1 H1 (RV S X B) (((evs S.call ρ st1 (yH items)).bind λa st=>(R.ok (vs++a) st:R (List PV))).bind λvs st1=>S.call fi vs st1) Q:=h1;rw[R.bind_assoc]at h1
  cases e:evs S.call ρ st1 (yH items)with
  |ok ws st2=>
   rw[e]at h1;intro ys H2 φ2 s2 rs2 l2;let⟨m1,m2⟩:=zbW items e l2;have eg:gK np (items.map shC) xs (pick (items.map shC) ys)=xs++ys:=by
    unfold gK;rw[if_pos ⟨by rw[<-rv.length];exact hv,m2⟩,m1]
   show ∃E:XK,spI X.K S.cl S.call fi (gK np (items.map shC) xs (pick (items.map shC) ys)) H2 Q E/\_;rw[eg];exact zaR rs2 ((rv.step s2).append l2) (Run.on s2 h1)
  |exc c s=>rw[e]at h1;exact h1
  |bad=>rw[e]at h1;exact h1
 refine PySem.W.callWith_KW (h₀:=X.base) I.ok.mod.kin hk hall (thn (ha pos pins s σ H _ I h0) λus s1 kq=>?_) hpl he;let⟨vs,H1,I1,r,q⟩:=kq;refine thn (hkw pos pins s1 σ H1 _ I1 q) λws s2 kq=>?_;let⟨zs,H2,I2,rz,E,q2,hx⟩:=kq;refine ⟨I2.kIn,?_⟩;rw[hks];let⟨g,hb⟩:=hb;have r2:=hb.rel r rz;have hl:(g us ws).length=ps.length:=by rw[<-r2.length];exact F.len _ _ _ _ q2
 refine G9 (Dj (F.run X.A X.stack s2 H2 ⟨us,ks.zip ws⟩ (g us ws) (gK np (items.map shC) vs zs) Q E hr I2.env0 (hb.to s2 us ws I2.kIn hl) r2 q2) λr s' hq=>?_)
 cases r with
 |error e=>exact hx pins s2 e s' I2 hq
 |ok fl=>
  cases fl with
  |ret u=>exact I2.after hq
  |next=>exact Be hq
  |brk=>exact Be hq
  |cont=>exact Be hq
end
noncomputable def ya0:List (Option Int)->List AF->List AF->List AF
 |[],_,_=>[]
 |some _::r,ws,d::ds=>d::ya0 r ws ds
 |none::r,w::ws,_::ds=>w::ya0 r ws ds
 |_,_,_=>[]
theorem zcW:∀(sh:List (Option Int)) (ds:List Int) {zs:List V} {ws us:List AF},Vals (ds.map V.int) us->Vals zs ws->sh.length=ds.length->(∀p∈sh.zip ds,∀i,p.1=AA i->i=p.2)->Vals (yaN sh zs) (ya0 sh ws us)
 |[],ds,zs,ws,us,r,q,hl,h=>.nil
 |some i::r,[],zs,ws,us,rr,q,hl,h=>by simp at hl
 |some i::r,d::ds,zs,ws,_,.cons a b,q,hl,h=>by
  have:i=d:=h (AA i,d) (by simp) i rfl;subst this;exact .cons a (zcW r ds b q (by simpa using hl) λp hp=>h p (by simp[hp]))
 |none::r,[],zs,ws,us,rr,q,hl,h=>by simp at hl
 |none::r,d::ds,_,_,_,.cons a b,.nil,hl,h=>.nil
 |none::r,d::ds,_,_,_,.cons a b,.cons c q,hl,h=>.cons c (zcW r ds b q (by simpa using hl) λp hp=>h p (by simp[hp]))
structure FnD(K:AE)(mg:AR->Option AF)(x:AR)(st:Bt)(ps:List AR)(ds:List Int)(f:AI)(fd:BA):Prop where
 ex:∃(oc:AF) (od:Option AI) (dT:AI) (kV doc pm:AF) (an:Option AI) (cdv ct:AF) (osl:Array (Option AF)) (o:CA) (its:Array AF) (n:Nat),
  fd=B4 x x (yaa st) (yS st) (yu st) (.ref dT) kV doc pm an cdv ct/\K.lookup f=AA ⟨oc,od,.func fd,osl⟩/\CJ K cdv x=AB/\K.lookup dT=AA o/\o.data=.seq its n/\Vals (ds.map V.int) its.toList
 kp:Ap K (.ref f)=AB
 m:mg x=AA (.ref f)
theorem kbD{K:AE}{mg:AR->Option AF}{x:AR}{st:Bt}{ps ks:List AR}{ds:List Int}{f:AI}{fd:BA}{np off:Nat}{sh:List (Option Int)}(D:FnD K mg x st ps ds f fd)(hnk:ks.length=nKw sh)(hsh:sh.length=(ds.drop off).length)(hd':((sh.zip (ds.drop off)).all λp=>p.1.all λi=>decide (i=p.2))=AB)
  (h:∀(dT:AI) (kV doc pm:AF) (an:Option AI) (cdv ct:AF) (us ws its:List AF),us.length=np->ws.length=ks.length->its.length=ds.length ->
   ∃k,bindArgs (B4 x x (yaa st) (yS st) (yu st) (.ref dT) kV doc pm an cdv ct) ⟨us,ks.zip ws⟩=seqItems? (.ref dT) >>= k/\k (AA its.toArray)=pure (ps.zip (us++ya0 sh ws (its.drop off)))) (hps:0<ps.length):
  ∃g,ybC K fd ps ks g (gK np sh):=by
 have hd:∀p∈sh.zip (ds.drop off),∀i,p.1=AA i->i=p.2:=λp hp i hi=>by
  have:=BQ.mp hd' p hp;rw[hi]at this;simpa using this
 let⟨oc,od,dT,kV,doc,pm,an,cdv,ct,osl,o,its,n,rfl,lk,hcd,lo,hs,r⟩:=D.ex;refine⟨λus ws=>if us.length=np/\ws.length=nKw sh then us++ya0 sh ws (its.toList.drop off)else [],⟨λs us ws KX hl=>?_,λ{vs us zs ws} rv rz=>?_⟩⟩
 .by_cases c:us.length=np/\ws.length=nKw sh
  .rw[if_pos c]at hl ⊢;let⟨k,h1,h2⟩:=h dT kV doc pm an cdv ct us ws its.toList c.1 (by rw[hnk];exact c.2) (by rw[<-r.length,BC]);exact BindsTo.of_defaults rfl (KX _ _ lo) hs h1 (by simpa using h2)
  .rw[if_neg c]at hl;simp at hl;lia
 .unfold gK;have e1:=rv.length;have e2:=rz.length
  by_cases c:us.length=np/\ws.length=nKw sh
  .rw[if_pos c,if_pos (by lia)];refine rv.append (zcW sh (ds.drop off) ?_ rz hsh hd);rw[List.map_drop];exact r.drop off
  .rw[if_neg c,if_neg (by lia)];exact .nil
section
variable {P:A5}{w:Ai}{K:AE}{mg:AR->Option AF}{base:Az}{cl:Nat->AI}{T:Nat->Option IC.Fn}{fi:Nat}{fn:IC.Fn}{x:AR}{stm:Bt}{f:AI}{fd:BA}{N ps:List AR}{ds:List Int}{k:Nat}
end
theorem zdM(a b:Key):peq (yaz a) (yaz b)=decide (a=b):=by
 rw[Da]
 cases a<;>cases b<;>simp[yaz,peq]
theorem zfz:∀(a b:List Key),ya9 (a.map yaz) (b.map yaz)=decide (a=b)
 |[],[]=>by simp[ya9]
 |[],y::ys=>by simp[ya9]
 |x::xs,[]=>by simp[ya9]
 |x::xs,y::ys=>by
  erw[AL,ya9,zdM,zfz xs ys];rw[Da];simp
theorem zdy(a b:List Key):peq (.tup (a.map yaz)) (.tup (b.map yaz))=decide (a=b):=by
 erw[peq,zfz]
theorem zgt{k:PV}(h:yby k=AB):∃q,k=yaz q:=by
 cases k with
 |int i=>exact⟨.inl i,rfl⟩
 |str i=>exact⟨.inr i,rfl⟩
 |_=>cases h
theorem zhV:∀{ks:List PV},ks.all yby=AB->∃qs:List Key,ks=qs.map yaz
 |[],_=>⟨[],rfl⟩
 |k::ks,h=>by
  rw[Bb,AK]at h;let⟨q,rfl⟩:=zgt h.1;let⟨qs,rfl⟩:=zhV h.2;exact⟨q::qs,rfl⟩
section
variable {S:Se}{X:Cx}{K:AE}{cl:Nat->AI}{σ:St}{B:AI->Prop}{φ:Ph}{H:Hp}{st:SO}{p pos p2 px apos:CP}{a b c d o:AU}{ca cb cc:Ce}
theorem ya3{q:Key}{x:V}:yd K cl B φ H (yaz q) x ↔ x=kV q:=by
 cases q<;>simp[yaz,yd,kV]
theorem zeB:∀{qs:List Key} {xs:List V},ye K cl B φ H (qs.map yaz) xs->xs=qs.map kV
 |[],xs,l=>by simpa only[Ac,ye] using l
 |q::qs,xs,l=>by
  erw[AL,ye]at l;let⟨y,ys,rfl,r,l⟩:=l;rw[ya3.mp r,zeB l];rfl
theorem DK.look{q:Key}:∀{kvs:List (PV×PV)} {ks:List (Key×V)},DK K cl B φ H kvs ks->∀{v:PV} {x:V},yd K cl B φ H v x->yd K cl B φ H ((IC.look (yaz q) kvs).getD v) ((ybz ks q).getD x)
 |[],ks,h,v,x,r=>by cases h;exact r
 |(k,w)::t,ks,h,v,x,r=>by
  let⟨q',y,s,rfl,rfl,rv,l⟩:=h;erw[IC.look,zdM]
  by_cases e:q'=q
  .rw[zbG (p:=(q',y)) e];simp[e,rv]
  .rw[zbv (p:=(q',y)) e];erw[decide_eq_true_eq,e,if_false];exact DK.look l r
theorem DT.look{q:List Key}:∀{kvs:List (PV×PV)} {ks:List (List Key×V)},DT K cl B φ H kvs ks->∀{v:PV} {x:V},yd K cl B φ H v x->yd K cl B φ H ((IC.look (.tup (q.map yaz)) kvs).getD v) ((ybz ks q).getD x)
 |[],ks,h,v,x,r=>by cases h;exact r
 |(k,w)::t,ks,h,v,x,r=>by
  let⟨q',y,s,rfl,rfl,rv,l⟩:=h;erw[IC.look,zdy]
  by_cases e:q'=q
  .rw[zbG (p:=(q',y)) e];simp[e,rv]
  .rw[zbv (p:=(q',y)) e];erw[decide_eq_true_eq,e,if_false];exact DT.look l r
theorem DK.any{q:Key}:∀{kvs:List (PV×PV)} {ks:List (Key×V)},DK K cl B φ H kvs ks->(kvs.any λp=>peq p.1 (yaz q))=ks.any λkv=>decide (kv.1=q)
 |[],ks,h=>by cases h;rfl
 |(k,w)::t,ks,h=>by
  let⟨q',y,s,rfl,rfl,rv,l⟩:=h;erw[BN,zdM,DK.any l]
theorem DT.any{q:List Key}:∀{kvs:List (PV×PV)} {ks:List (List Key×V)},DT K cl B φ H kvs ks->(kvs.any λp=>peq p.1 (.tup (q.map yaz)))=ks.any λkv=>decide (kv.1=q)
 |[],ks,h=>by cases h;rfl
 |(k,w)::t,ks,h=>by
  let⟨q',y,s,rfl,rfl,rv,l⟩:=h;erw[BN,zdy,DT.any l]
theorem DK.map{q:Key}{v:PV}{x:V}(r:yd K cl B φ H v x):∀{kvs:List (PV×PV)} {ks:List (Key×V)},DK K cl B φ H kvs ks->DK K cl B φ H (kvs.map λp=>if peq p.1 (yaz q)=AB then(p.1,v)else p) (ks.map λkv=>if kv.1=q then(kv.1,x)else kv)
 |[],ks,h=>by cases h;exact rfl
 |(k,w)::t,ks,h=>by
  let⟨q',y,s,rfl,rfl,rv,l⟩:=h;erw[AL,zdM,decide_eq_true_eq]
  by_cases e:q'=q
  .simp only[e,if_true];exact⟨q,x,_,rfl,rfl,r,DK.map r l⟩
  .simp only[e,if_false];exact⟨q',y,_,rfl,rfl,rv,DK.map r l⟩
theorem DT.map{q:List Key}{v:PV}{x:V}(r:yd K cl B φ H v x):∀{kvs:List (PV×PV)} {ks:List (List Key×V)},DT K cl B φ H kvs ks->DT K cl B φ H (kvs.map λp=>if peq p.1 (.tup (q.map yaz))=AB then(p.1,v)else p) (ks.map λkv=>if kv.1=q then(kv.1,x)else kv)
 |[],ks,h=>by cases h;exact rfl
 |(k,w)::t,ks,h=>by
  let⟨q',y,s,rfl,rfl,rv,l⟩:=h;erw[AL,zdy,decide_eq_true_eq]
  by_cases e:q'=q
  .simp only[e,if_true];exact⟨q,x,_,rfl,rfl,r,DT.map r l⟩
  .simp only[e,if_false];exact⟨q',y,_,rfl,rfl,rv,DT.map r l⟩
theorem DK.snoc{q:Key}{v:PV}{x:V}(r:yd K cl B φ H v x):∀{kvs:List (PV×PV)} {ks:List (Key×V)},DK K cl B φ H kvs ks->DK K cl B φ H (kvs++[(yaz q,v)]) (ks++[(q,x)])
 |[],ks,h=>by cases h;exact⟨q,x,[],rfl,rfl,r,rfl⟩
 |(k,w)::t,ks,h=>by
  let⟨q',y,s,rfl,rfl,rv,l⟩:=h;exact⟨q',y,_,rfl,rfl,rv,DK.snoc r l⟩
theorem DT.snoc{q:List Key}{v:PV}{x:V}(r:yd K cl B φ H v x):∀{kvs:List (PV×PV)} {ks:List (List Key×V)},DT K cl B φ H kvs ks->DT K cl B φ H (kvs++[(.tup (q.map yaz),v)]) (ks++[(q,x)])
 |[],ks,h=>by cases h;exact⟨q,x,[],rfl,rfl,r,rfl⟩
 |(k,w)::t,ks,h=>by
  let⟨q',y,s,rfl,rfl,rv,l⟩:=h;exact⟨q',y,_,rfl,rfl,rv,DT.snoc r l⟩
theorem DK.put{q:Key}{v:PV}{x:V}{kvs:List (PV×PV)}{ks:List (Key×V)}(l:DK K cl B φ H kvs ks)(r:yd K cl B φ H v x):DK K cl B φ H (IC.put (yaz q) v kvs) (putK ks q x):=by
 unfold IC.put putK;rw[DK.any l];split
 .exact DK.map r l
 .exact DK.snoc r l
theorem DT.put{q:List Key}{v:PV}{x:V}{kvs:List (PV×PV)}{ks:List (List Key×V)}(l:DT K cl B φ H kvs ks)(r:yd K cl B φ H v x):DT K cl B φ H (IC.put (.tup (q.map yaz)) v kvs) (putK ks q x):=by
 unfold IC.put putK;rw[DT.any l];split
 .exact DT.map r l
 .exact DT.snoc r l
theorem DK.len:∀{kvs:List (PV×PV)} {ks:List (Key×V)},DK K cl B φ H kvs ks->kvs.length=ks.length
 |[],ks,h=>by cases h;rfl
 |(k,w)::t,ks,h=>by
  let⟨q',y,s,rfl,rfl,rv,l⟩:=h;simp[DK.len l]
theorem DT.len:∀{kvs:List (PV×PV)} {ks:List (List Key×V)},DT K cl B φ H kvs ks->kvs.length=ks.length
 |[],ks,h=>by cases h;rfl
 |(k,w)::t,ks,h=>by
  let⟨q',y,s,rfl,rfl,rv,l⟩:=h;simp[DT.len l]
theorem yr.dct{n:Nat}{t:Bool}{kvs:List (PV×PV)}{x:V}(rs:yr K cl B φ H st)(r:yd K cl B φ H (.loc n) x)(h:st[n]?=AA (.dct t kvs)):∃y,x=.ref y/\φ[n]?=AA (AA y)/\yb8 K cl B φ H (.dct t kvs) y:=by
 erw[yd]at r;let⟨hn,y,rfl,ha⟩:=r;let⟨z,hz⟩:=rs.liv n _ h (by intro z;cases z);obtain rfl:=ha z hz;let⟨o,ho,ro⟩:=rs.obj n z hz;rw[h]at ho;cases ho;exact⟨z,rfl,hz,ro⟩
theorem zen{v:PV}{t:Bool}{kvs:List (PV×PV)}(h:ya8 st v=AA (t,kvs)):∃n,v=.loc n/\st[n]?=AA (.dct t kvs):=by
 cases v with
 |loc n=>
  erw[ya8]at h;split at h
  .rename_i t' xs q
   cases h
   exact⟨n,rfl,q⟩
  .cases h
 |_=>cases h
theorem zhi{k:PV}(h:isKey AC k=AB):∃q,k=yaz q:=zgt h
theorem zhU{k:PV}(h:isKey AB k=AB):∃q:List Key,k=.tup (q.map yaz):=by
 cases k with
 |tp b xs=>
  cases b with
  |false=>
   let⟨qs,rfl⟩:=zhV h;exact⟨qs,rfl⟩
  |true=>cases h
 |_=>cases h
theorem zg2{q:List Key}{x:V}(r:yd K cl B φ H (.tup (q.map yaz)) x):∃y,x=.ref y/\H y=AA (.tup (q.map kV)):=by
 erw[yd]at r;let⟨y,xs,rfl,rt,l⟩:=r;rcases rt with⟨rt,_⟩|⟨z,_⟩
 .exact⟨y,rfl,by rw[rt,zeB l]⟩
 .cases z
theorem zhe:PE X (.Dict [] [] pos) (tE S X (.dict0 AB)):=yb6.imp λσ H Q ⟨B,φ,st,ρ,rs,re,h⟩=>by
 erw[ev]at h;exact λp hp=>h _ _ (φ++[AA p]) (.push hp) (rs.push hp (rs.nB hp) ⟨[],zq,rfl⟩) (.loc_new rs)
theorem zn0(hu:X.A.units+1<cLine)(ha:PE X a (tE S X ca))(hb:PE X b (tE S X cb))(hc:PE X c (tE S X cc))(m:M2 X a "get" apos b c pos:=by exact⟨rfl,rfl,rfl,rfl⟩):PE X (.Call (.Attribute a "get" apos) [b,c] [] pos) (tE S X (.mth .get ca (.cons cb (.cons cc .nil)))):=
 (zir hu ha hb hc m).imp λσ H Q ⟨B,φ,st,ρ,rs,re,h⟩=>by
  erw[ev]at h;refine tE.bind rs re h λx H1 v st1 φ1 s1 rs1 re1 rv h1=>?_;let⟨_,e1,h1⟩:=zgM h1;erw[yaE]at e1
  cases q:ya8 st1 v with
  |none=>rw[q]at e1;cases e1
  |some tk=>
   let⟨t,kvs⟩:=tk;let⟨n,rfl,hn⟩:=zen q;let⟨y,rfl,hy,ro⟩:=rs1.dct rv hn;refine⟨y,rfl,?_,?_⟩
   .cases t with
    |false=>let⟨ks,hk,_⟩:=ro;exact .inl ⟨ks,.inl hk⟩
    |true=>let⟨ks,hk,_⟩:=ro;exact .inr ⟨ks,.inl hk⟩
   .simp only[evs,R.bind_assoc]at h1;refine tE.bind rs1 re1 h1 λkx H2 kv st2 φ2 s2 rs2 re2 rk h2=>tE.bind rs2 re2 h2 λdx H3 dv st3 φ3 s3 rs3 re3 rd h3=>?_;erw[R.bind]at h3;unfold yca at h3;erw[ydz]at h3
    cases q3:ya8 st3 (.loc n)with
    |none=>rw[q3]at h3;exact h3.elim
    |some tk3=>
     let⟨t3,kvs3⟩:=tk3;rw[q3]at h3;dsimp only at h3;split at h3
     .rename_i hk;let⟨n',e',hn3⟩:=zen q3
      cases e'
      let⟨y3,ey,hy3,ro3⟩:=rs3.dct ((rv.step s2).step s3) hn3
      cases ey
      have rk3:=rk.step s3
      cases t3 with
      |false=>
       let⟨q,rfl⟩:=zhi hk;let⟨ks,hks,l⟩:=ro3;refine⟨ybz ks q,.inl ⟨ks,q,.inl hks,ya3.mp rk3,rfl⟩,h3.ok rs3 (DK.look l rd)⟩
      |true=>
       let⟨q,rfl⟩:=zhU hk;let⟨ks,hks,l⟩:=ro3;let⟨b',rfl,hb'⟩:=zg2 rk3;exact⟨ybz ks q,.inr ⟨ks,q,b',.inl hks,rfl,hb',rfl⟩,h3.ok rs3 (DT.look l rd)⟩
     .exact h3.elim
theorem zgB{st4:SO}{x y v:PV}(h:ya7 st x y v=AA st4):∃n t kvs,x=.loc n/\st[n]?=AA (.dct t kvs)/\isKey t y=AB/\kvs.length<1000000/\st4=st.set n (.dct t (IC.put y v kvs)):=by
 cases x with
 |loc n=>
  erw[ya7]at h;split at h
  .rename_i t kvs q;split at h
   .rename_i c;exact⟨n,t,kvs,rfl,q,c.1,c.2,(AZ h).symm⟩
   .cases h
  .cases h
 |_=>cases h
theorem zlX(hu:X.A.units+1<cLine)(ho:PE X b (tE S X cb))(hi:PE X c (tE S X cc))(hv:PE X a (tE S X ca))(hs:swapsWith a (AA (.Subscript b c px)) pos.line X.env=pure false:=by rfl):PS X (.Assign [.Subscript b c px] a pos) (tS S X (.dput cb cc ca)):=
 (zkh hu ho hi hv hs).imp λD σ H ⟨B,φ,st,ρ,rs,re,h⟩=>by
  erw[ex]at h;refine tE.fl rs re h λv' H1 v st1 φ1 s1 rs1 re1 rv h1=>tE.fl rs1 re1 h1 λx' H2 x st2 φ2 s2 rs2 re2 rx h2=>tE.fl rs2 re2 h2 λy' H3 y st3 φ3 s3 rs3 re3 ry h3=>?_
  cases e:ya7 st3 x y v with
  |none=>rw[e]at h3;exact h3.elim
  |some st4=>
   rw[e]at h3;let⟨n,t,kvs,rfl,hn,hk,hl,rfl⟩:=zgB e;let⟨l,rfl,hp,ro⟩:=rs3.dct (rx.step s3) hn;have rv3:=(rv.step s2).step s3;have hm:=ybS
   cases t with
   |false=>
    let⟨q,rfl⟩:=zhi hk;let⟨ks,hks,ld⟩:=ro;have s4:Step φ3 H3 φ3 (L2.upd H3 l (.dK (putK ks q v'))):=.put (A2 hp);refine⟨l,_,rfl,.inl ⟨ks,q,hks,ya3.mp ry,by have:=ld.len;lia,rfl⟩,h3 σ _ φ3 s4 (rs3.put hp ⟨_,zq,(ld.put rv3).step s4⟩) (re3.step s4)⟩
   |true=>
    let⟨q,rfl⟩:=zhU hk;let⟨ks,hks,ld⟩:=ro;let⟨b',rfl,hb'⟩:=zg2 ry;have s4:Step φ3 H3 φ3 (L2.upd H3 l (.dT (putK ks q v'))):=.put (A2 hp);refine⟨l,_,rfl,.inr ⟨ks,q,b',hks,rfl,hb',by have:=ld.len;lia,rfl⟩,h3 σ _ φ3 s4 (rs3.put hp ⟨_,zq,(ld.put rv3).step s4⟩) (re3.step s4)⟩
end
section
variable {S:Se}{X:Cx}{σ:St}{B:AI->Prop}{φ:Ph}{H:Hp}{p pos p3 p4:CP}{a b tg:AU}{ca cb:Ce}
end
end L2
namespace WK
open PySem L2 IC
section
variable {K:AE}{cl:Nat->AI}{B:AI->Prop}{φ:Ph}{H:Hp}
theorem zjI:ye K cl B φ H [] []:=by erw[ye]
theorem zhj{v:PV}{x:V}{vs:List PV}{xs:List V}(h:yd K cl B φ H v x)(l:ye K cl B φ H vs xs):ye K cl B φ H (v::vs) (x::xs):=by
 erw[ye];exact⟨x,xs,rfl,h,l⟩
end
theorem znW{P:A5}{w:Ai}{outer:List BY}{H:Hp}{s:AJ}{e:AF}{s':AJ}(h:CX1 P w outer H s (λ_ _ _=>False) e s'):False:=by
 let⟨_,_,_,_,_,_,_,_,_,_,_,_,_,_,z⟩:=h;exact z
theorem zig{K:AE}{cl:Nat->AI}{B:AI->Prop}{φ:Ph}{H:Hp}:∀ns:List Int,ye K cl B φ H (ns.map .int) (ns.map V.int)
 |[]=>zjI
 |n::ns=>zhj (by erw[yd]) (zig ns)
def spX(K:AE)(call:Nat->List PV->SO->R PV)(fi:Nat):Sp:=λvs H Q E=>∀cl,spI K cl call fi vs H Q E
theorem zg0{K:AE}{call:Nat->List PV->SO->R PV}{fi:Nat}{H:Hp}{a:AI}{ns:List Int}(ht:∀ns:List Int,ns.length<=63->call fi [.scr (ns.map .int)] []=.ok (.bl AB) [])(hl:ns.length<=63)(hS:SqL K H a (ns.map V.int)):
  spX K call fi [.ref a] H (λv _=>v=.bl AB) λ_ _ _=>False:=by
 intro cl;refine⟨λ_=>False,[],[],[.scr (ns.map .int)],⟨rfl,λm n a e=>by simp at e,λn a e=>by simp at e,λn o e=>by simp at e,λa z=>by simp at z,λa z=>z.elim⟩,zhj ?_ zjI,?_⟩
 .simp only[yd];refine⟨a,_,rfl,?_,zig ns⟩;rcases hS with hS|hS
  .exact .inl ⟨hS,λz=>z,by simp⟩
  .exact .inr hS
 .rw[ht ns hl];intro x H' φ' _ _ r;simpa only[yd] using r
end WK
namespace L2
open PySem PySem.Spec PyProof.Rows IC
theorem zgF{l:List AR}(h:l.Nodup){i j:Nat}(hi:i<l.length)(hj:j<l.length)(e:l[i]=l[j]):i=j:=by
 rcases Nat.lt_trichotomy i j with q|q|q
 .exact absurd e (EH.mp h i j hi hj q)
 .exact q
 .exact absurd e.symm (EH.mp h j i hj hi q)
section
variable {X:Cx}{pins:List (AI×CA)}{σ:St}{H:Hp}{s:AJ}
theorem Inv.drop{h':Az}{m:AR->Option AF}{v:Option AF}{i:Nat}{n:AR}(I:Inv X pins σ H s)(hN:X.N.Nodup)(hi:X.N[i]?=AA n)(hm:s.heap.Ns X.env.locals m)(look:∀(i:Nat) (x:AR) (v:V),X.N[i]?=AA x->σ[i]?=AA (AA v)->Vis X.env.scope x->∃u,RelV v u/\Look X.env s.heap m x u)(hs:C9 X.env.locals s.heap h')(hn:h'.Ns X.env.locals (λx=>if x=n then v else m x)):Inv X pins (σ.set i AD) H {s with heap:=h'}:=by
 have k:∀b u,b≠X.env.locals->s.heap.get? b=AA u->h'.get? b=AA u:=λb u hb q=>(hs.2 b hb).trans q;have nl:∀b o,X.s₀.heap.get? b=AA o->b≠X.env.locals:=λb o e=>Aj (A4 (AW e) I.ok.above);refine⟨I.ok,I.os,I.bare,⟨λb o q n hb hx=>k b o (nl b o q) (I.base.keep b o q n hb hx),λb o q n hb hx=>?_,I.base.free,λb o q hx=>?_,I.base.tups,I.base.frzs,I.base.tbls⟩,⟨_,hn,λj x v e1 e2 hv=>?_⟩,λx c e=>?_,I.free,I.freeC,λp hp=>?_,λb u e=>?_,?_⟩
 .let⟨sl,q1⟩:=I.base.slot b o q n hb hx;exact⟨sl,k b _ (nl b o q) q1⟩
 .let⟨o',q1⟩:=I.base.there b o q hx;exact⟨o',k b o' (nl b o q) q1⟩
 .have hj:j≠i:=λz=>by
   subst z;rw[Ch]at e2;erw[if_true]at e2;split at e2<;>cases e2
  rw[AO (BK hj)]at e2;have hx:x≠n:=λz=>by
   subst z;let⟨l1,g1⟩:=BJ.mp e1;let⟨l2,g2⟩:=BJ.mp hi;exact hj (zgF hN l1 l2 (g1.trans g2.symm))
  let⟨u,r,lk⟩:=look j x v e1 e2 hv;refine⟨u,r,?_⟩;rcases lk with⟨q1,q2⟩|⟨q1,c,q2,o,q3,q4⟩
  .exact .inl ⟨q1,by dsimp only;rw[if_neg hx];exact q2⟩
  .exact .inr ⟨q1,c,q2,o,k c o (I.cne x c q2) q3,q4⟩
 .let⟨v,o,ho,hd⟩:=I.cell x c e;exact⟨v,o,k c o (I.cne x c e) ho,hd⟩
 .let⟨q1,q2,q3,q4⟩:=I.pin p hp;exact⟨k _ _ q3 q1,q2,q3,q4⟩
 .refine(I.hok b u e).stay (λc v hc q=>k c v (λz=>?_) q) (λ_ q=>q) λ_ _ q=>q;have fr:=I.free;subst z;rcases hc with z|z
  .rw[z,e]at fr
   cases fr
  .rw[z]at fr
   cases fr
 .rw[B3];exact I.len
end
section
variable {X:Cx}{body suite:List Bt}{b₀:Bt}{x n:AR}{np hpos pos:CP}{W:AI}{i:Nat}
end
section
variable {S:Se}{X:Cx}{σ:St}{B:AI->Prop}{φ φ1:Ph}{H H1:Hp}{st:SO}{ρ:IC.Env}{D:Ends}{body suite:List Bt}{b₀:Bt}{x n:AR}{p p2 np hpos pos cpos:CP}{W:AI}{i:Nat}{cb ch:Css}{a e:AU}{es:List AU}{ca ce:Ce}{ces:Ces}
theorem yG.drop{K:AE}{cl:Nat->AI}(r:yG K cl B φ H ρ σ)(i:Nat):yG K cl B φ H (ρ.set i AD) (σ.set i AD):=by
 refine⟨by rw[B3,B3];exact r.len,λj w e=>?_⟩
 by_cases h:j=i
 .subst h;rw[Ch]at e;erw[if_true]at e;split at e<;>cases e
 .rw[AO (BK h)]at e ⊢;exact r.get j w e
noncomputable abbrev Se.quiet(S:Se):Se:={S with may:=AC}
theorem all_nil{P:Nat->Prop}:∀c∈([]:List Nat),P c:=λ_ h=>by cases h
theorem all_cons{P:Nat->Prop}{c:Nat}{cs:List Nat}(h:P c)(t:∀d∈cs,P d):∀d∈c::cs,P d:=λd hd=>by
 rcases A3.mp hd with e|e
 .exact e ▸ h
 .exact t d e
structure ycT(K:AE)(mg:AR->Option AF)(C:AI)(x:AR):Prop where
 m:mg x=AA (.ref C)
 q:F1 K C [.type "ValueError",.type "Exception",.type "BaseException",.type "object"] "ValueError.__new__"=AB
end
section
variable {S:Se}{X:Cx}{p pos p2 px apos:CP}{a b:AU}{ca cb:Ce}
def GCI(mg:AR->Option AF)(x:AR)(i:Int):Prop:=∃t,mg x=AA (.int i t)
theorem zm4{x:AR}{i:Int}(hg:Gl X x)(h:GCI X.mg x i)(hd:(x==("__debug__":AR))=false:=by decide):PE X (.Name x pos) (tE S X (.cst (.int i))):=by
 let⟨t,hm⟩:=h;exact(zcO hg hm (show RelV (.int i) (.int i t)from ⟨t,rfl⟩) hd).imp λσ H Q ⟨B,φ,st,ρ,rs,re,h⟩=>by
  erw[ev]at h;exact h.ok rs (by erw[yd])
end
end L2
namespace WE
open PySem PySem.Spec PyProof.Rows
section
variable {prog:A5}{w:Ai}{A:Ao}{E:AF->AJ->Prop}{s:AJ}
def ydl(h:Az)(a t:AI)(i:Int):Prop:=∃o,h.get? a=AA o/\o.cls=.type "reversed"/\o.data=.fields #[.ref t,rawInt i]
theorem ydl.typeIs{a t:AI}{i:Int}(x:ydl s.heap a t i):s.TypeIs (.ref a) "reversed":=let ⟨o,ho,hc,_⟩:=x;⟨o,ho,hc⟩
end
end WE
namespace L2
open PySem PySem.Spec PyProof.Rows
end L2
namespace L2
open PySem PySem.Spec PyProof.Rows IC
open Classical in
section
variable {S:Se}{X:Cx}{σ:St}{B:AI->Prop}{φ φ1:Ph}{H H1:Hp}{st:SO}{ρ:IC.Env}{p pos p2 px py pt pt2:CP}{a b c d o a' b' c' d':AU}{ca cb cc cd ce cf:Ce}{pins:List (AI×CA)}{s:AJ}{kt k2:Nat}{es:List AU}{ces:Ces}{x:AR}
end
end L2
namespace IC
open PySem
end IC
namespace L2
open PySem PySem.Spec PyProof.Rows IC
section
variable {S:Se}{X:Cx}{σ:St}{B:AI->Prop}{φ:Ph}{H:Hp}{p p2 pos pos2 apos:CP}{a b tg:AU}{ca cb:Ce}
theorem zc4:∀bs:List Bool,((CU bs.length).any λi=>(bs[i]?).getD AB)=bs.any id
 |[]=>rfl
 |b::bs=>by
  rw[AS,Eo,BN,Gz,BN,<-zc4 bs];rfl
theorem zix(hc:X.calm=AB):yac X (.builtin "any") (λxs H Q=>∃(l:AI) (bs:List Bool),xs=[.ref l]/\SqL X.K H l (bs.map V.bl)/\Q (.bl (bs.any id)) H):=by
 intro pins s σ H xs us Q I r h;let⟨l,bs,rfl,hq,q⟩:=h;let⟨u,rfl,ru⟩:=Vals.one r
 cases (show u=Ah l from ru)
 let⟨its,rv,pl,hz⟩:=I.list hq;have hb:=zdt rv;have hl:=pl.isList;have hlt:l<s.heap.objs.size:=by
  let⟨_,e,_⟩:=hl;exact AW e
 refine call_any_walk (EL hl ?_);refine⟨s.heap.objs.size,[s.heap.objs.size,l],[s.heap.objs.size],its.toArray.size,_,_,λi=>(bs[i]?).getD AB,rfl,HR (A:=X.A.in1) (I.ok.hd hc) _ l (Aj hlt) its.toArray,⟨⟨_,A0 _ rfl,rfl,rfl⟩,hl.push _⟩,λi v s' Q' E' hP hQ=>?_,λh' tk hk=>?_⟩
 .let⟨b,e,rfl⟩:=hb.get i v (by simpa using hP);erw[e,Bj]at hQ;exact BX hQ
 .have e:((CU its.toArray.size).any λi=>(bs[i]?).getD AB)=bs.any id:=by
   rw[AX,hb.length];exact zc4 bs
  rw[e];exact⟨.bl _,H,I.kept (t':=tk) (FZ hk),rfl,q⟩
theorem zj9:∀{vs:List PV} {m:Bool},IC.anyB vs=AA m->∃ns:List Bool,vs=ns.map .bl/\m=ns.any id
 |[],m,h=>by cases h;exact⟨[],rfl,rfl⟩
 |.bl i::r,m,h=>by
  erw[IC.anyB]at h;split at h
  .rename_i c e
   cases h
   let⟨ns,e1,e2⟩:=zj9 e;exact⟨i::ns,by rw[e1];rfl,by rw[e2];rfl⟩
  .cases h
 |.non::r,m,h=>by cases h
 |.int _::r,m,h=>by cases h
 |.str _::r,m,h=>by cases h
 |.tp _ _::r,m,h=>by cases h
 |.lst _::r,m,h=>by cases h
 |.loc _::r,m,h=>by cases h
 |.exn _::r,m,h=>by cases h
 |.scr _::r,m,h=>by cases h
theorem znT:bootBuiltins "any"=AA (.builtin "any"):=by decide +kernel
theorem zft:∀{ns:List Int} {us:List AF},Vals (ns.map V.int) us->us.length=ns.length/\∀(i:Nat) (v:AF),us[i]?=AA v->∃n t,ns[i]?=AA n/\v=.int n t
 |[],_,.nil=>⟨rfl,λi v h=>by simp at h⟩
 |n::ns,_,.cons r q=>by
  let⟨h1,h2⟩:=zft q;let⟨t,rfl⟩:=r;refine⟨by simp[h1],λi v h=>?_⟩
  cases i with
  |zero=>simp at h;exact⟨n,t,rfl,h.symm⟩
  |succ i=>simp at h;simpa using h2 i v h
theorem zdn:∀ns:List Int,((CU ns.length).any λi=>((ns[i]?).getD 1) != 0)=ns.any (· != 0)
 |[]=>rfl
 |b::bs=>by
  rw[AS,Eo,BN,Gz,BN,<-zdn bs];rfl
theorem zgu(hc:X.calm=AB):yac X (.builtin "any") (λxs H Q=>∃(l:AI) (ns:List Int),xs=[.ref l]/\SqT X.K H l (ns.map V.int)/\Q (.bl (ns.any (· != 0))) H):=by
 intro pins s σ H xs us Q I r h;let⟨l,ns,rfl,hq,q⟩:=h;let⟨u,rfl,ru⟩:=Vals.one r
 cases (show u=Ah l from ru)
 let⟨its,rv,p,hz⟩:=I.tuple hq;let⟨hn,hb⟩:=zft rv;have hl:s.heap.IsTuple l its.toArray:=p;have hlt:l<s.heap.objs.size:=by
  let⟨_,e,_⟩:=hl;exact AW e
 refine call_any_walk (Br hl ?_);refine⟨s.heap.objs.size,[s.heap.objs.size,l],[s.heap.objs.size],its.toArray.size,_,_,λi=>((ns[i]?).getD 1) != 0,rfl,Walks.tuple (A:=X.A.in1) (I.ok.hd hc) _ l (Aj hlt) its.toArray,⟨⟨_,A0 _ rfl,rfl,rfl⟩,hl.push _⟩,λi v s' Q' E' hP hQ=>?_,λh' tk hk=>?_⟩
 .let⟨b,t,e,rfl⟩:=hb i v (by simpa using hP);erw[e,Bj]at hQ;exact truthy_int hQ
 .have e:((CU its.toArray.size).any λi=>((ns[i]?).getD 1) != 0)=ns.any (· != 0):=by
   rw[AX,hn];exact zdn ns
  rw[e];exact⟨.bl _,H,I.kept (t':=tk) (FZ hk),rfl,q⟩
theorem zg9:∀{vs:List PV} {m:Bool},IC.anyI vs=AA m->∃ns:List Int,vs=ns.map .int/\m=ns.any (· != 0)
 |[],m,h=>by cases h;exact⟨[],rfl,rfl⟩
 |.int i::r,m,h=>by
  erw[IC.anyI]at h;split at h
  .rename_i c e
   cases h
   let⟨ns,e1,e2⟩:=zg9 e;exact⟨i::ns,by rw[e1];rfl,by rw[e2];rfl⟩
  .cases h
 |.non::r,m,h=>by cases h
 |.bl _::r,m,h=>by cases h
 |.str _::r,m,h=>by cases h
 |.tp _ _::r,m,h=>by cases h
 |.lst _::r,m,h=>by cases h
 |.loc _::r,m,h=>by cases h
 |.exn _::r,m,h=>by cases h
 |.scr _::r,m,h=>by cases h
theorem zk5(st:SO)(v:PV):(∃k xs,v=.tp k xs) \/ yah .any st [v]=(yU st v).bind λxs=>(anyB xs).map .bl:=by
 cases v<;>first|exact .inl ⟨_,_,rfl⟩|exact .inr rfl
theorem zmd(hc:X.calm=AB):yac X (.builtin "any") (rB S X .any):=by
 rintro pins s σ H xs us Q I r ⟨B,φ,st,vs,z,rs,l,e,q⟩
 let⟨v,rfl⟩:=zcG e λ_ _=>rfl;let⟨x,rfl,rv⟩:=l.one;rcases zk5 st v with⟨k,ws,rfl⟩|ev
 .have e:(IC.anyI ws).map PV.bl=AA z:=e
  cases e2:IC.anyI ws with
  |none=>rw[e2]at e;cases e
  |some m=>
   rw[e2]at e
   cases e
   let⟨ns,rfl,rfl⟩:=zg9 e2;erw[yd]at rv;let⟨a,ys,rfl,h,l⟩:=rv;have h:=h.sq;rw[l.ints]at h;exact zgu hc pins s σ H _ us Q I r ⟨a,ns,rfl,h,q _ H φ .rfl rs (by erw[yd])⟩
 .rw[ev]at e
  cases e1:yU st v with
  |none=>rw[e1]at e;cases e
  |some ws=>
   rw[e1]at e;erw[Bk]at e
   cases e2:IC.anyB ws with
   |none=>rw[e2]at e;cases e
   |some m=>
    rw[e2]at e
    cases e
    let⟨ns,rfl,rfl⟩:=zj9 e2;let⟨a,ys,rfl,h,l⟩:=zc1 rs rv e1;rw[l.bls]at h;exact zix hc pins s σ H _ us Q I r ⟨a,ns,rfl,h,q _ H φ .rfl rs (by erw[yd])⟩
end
end L2
namespace WE
open PySem PySem.Spec PyProof.Rows
section
variable {pg:A5}{wd:Ai}{A:Ao}{Er:AF->AJ->Prop}{s:AJ}
theorem tit_keep{h h':Az}{i t:AI}{j:Nat}(u:h.IsTupleIter i t j)(k:∀o,h.get? i=AA o->h'.get? i=AA o):h'.IsTupleIter i t j:=let ⟨o,g,r⟩:=u;⟨o,k o g,r⟩
theorem zcc{h h':Az}{t:AI}{xs:Array AF}(u:h.IsTuple t xs)(k:∀o,h.get? t=AA o->h'.get? t=AA o):h'.IsTuple t xs:=let ⟨o,g,r⟩:=u;⟨o,k o g,r⟩
def Kz(z TO i1 i2:AI)(h h':Az):Prop:=∀c o,c≠z->c≠TO->c≠i1->c≠i2->h.get? c=AA o->h'.get? c=AA o
theorem zhl{z TI TO i1 i2 l1 l2:AI}{j:Nat}{xs ys:Array AF}{x y a b:AF}{Q:AF->AJ->Prop}(D:Fu z TI TO i1 i2 l1 l2)
  (gz:EN s.heap z TI TO .none) (gI:CZ s.heap TI (.ref i1) (.ref i2)) (gO:CZ s.heap TO a b) (u1:s.heap.IsTupleIter i1 l1 j) (u2:s.heap.IsTupleIter i2 l2 j) (t1:s.heap.IsTuple l1 xs) (t2:s.heap.IsTuple l2 ys) (ex:xs[j]?=AA x) (ey:ys[j]?=AA y)
  (k:∀h',EN h' z TI TO (rawInt s.heap.objs.size)->CZ h' TO x y->h'.IsTupleIter i1 l1 (j+1)->h'.IsTupleIter i2 l2 (j+1)->CZ h' s.heap.objs.size x y->h'.objs.size=s.heap.objs.size+1->Kz z TO i1 i2 s.heap h'->Q (.ref s.heap.objs.size) {s with heap:=h'}):
  A1 (model pg wd) A (Gu.«zip.__next__» ⟨[.ref z],[]⟩) (λf s'=>∃v,f=.done (.ret v)/\Q v s') Er s:=by
 show A1 _ _ (field (.ref z) 2 >>= _) _ _ _;refine AH (BU gz rfl (x:=.bool AC) rfl ?_);show A1 _ _ (field (.ref z) 3 >>= _) _ _ _;refine AH (BU gz rfl (x:=.ref TI) rfl ?_);refine AH (C6 gI rfl ?_);show A1 _ _ (Bc (.ref z) >>= _) _ _ _;refine AH ?_;unfold Bc;refine AH (BU gz rfl (x:=.none) rfl (AV ?_));erw[if_true];refine AH (Ee ?_);refine AH (BU gz rfl (x:=.ref TO) rfl ?_);refine AH (Cb gz (by simp) λha za sa=>?_)
 replace za:EN ha z TI TO .ellipsis:=za
 refine AH ?_;erw[GN,G0,Eu,Gf];refine AH (AH (F2 ?_));show A1 _ _ (BS (.ref i1) >>= _) _ _ _;refine AH (zbY (tit_keep u1 λo e=>sa.extBut _ _ D.i1z e) (zcc t1 λo e=>sa.extBut _ _ D.l1z e) ex λhb ub sb=>AV ?_);have ob:CZ hb TO a b:=sb.extBut _ _ D.TOi1 (sa.extBut _ _ D.TOz gO);refine AH (C6 ob rfl ?_);refine AH (FG ob λhc oc sc=>?_)
 replace oc:CZ hc TO x b:=oc
 refine AH (wpAny_letGo (AV ?_));refine AH (AH (F2 ?_));show A1 _ _ (BS (.ref i2) >>= _) _ _ _;refine AH (zbY (tit_keep u2 λo e=>sc.extBut _ _ D.TOi2.symm (sb.extBut _ _ D.i12.symm (sa.extBut _ _ D.i2z e))) (zcc t2 λo e=>sc.extBut _ _ D.l2TO (sb.extBut _ _ D.l2i1 (sa.extBut _ _ D.l2z e))) ey λhd ud sd=>AV ?_);have od:CZ hd TO x b:=sd.extBut _ _ D.TOi2 oc;refine AH (C6 od rfl ?_);refine AH (FG od λhe oe se=>?_)
 replace oe:CZ he TO x y:=oe
 refine AH (wpAny_letGo (AV (AV ?_)));refine AH (C6 oe rfl ?_);refine AH (wpAny_newTuple ?_);have sz:he.objs.size=s.heap.objs.size:=by rw[se.1,sd.1,sc.1,sb.1,sa.1]
 have ze:EN he z TI TO .ellipsis:=se.extBut _ _ D.TOz.symm (sd.extBut _ _ D.i2z.symm (sc.extBut _ _ D.TOz.symm (sb.extBut _ _ D.i1z.symm za)));have ke:Kz z TO i1 i2 s.heap he:=λc o p1 p2 p3 p4 e=>se.extBut _ _ p2 (sd.extBut _ _ p4 (sc.extBut _ _ p2 (sb.extBut _ _ p3 (sa.extBut _ _ p1 e))));have v1:he.IsTupleIter i1 l1 (j+1):=tit_keep ub λo e=>se.extBut _ _ D.TOi1.symm (sd.extBut _ _ D.i12 (sc.extBut _ _ D.TOi1.symm e));have v2:he.IsTupleIter i2 l2 (j+1):=tit_keep ud λo e=>se.extBut _ _ D.TOi2.symm e;have lz:z<he.objs.size:=AW ze;show A1 _ _ (Cu (.ref z) (.ref he.objs.size) >>= _) _ _ _;refine AH ?_;unfold Cu;have zf:EN (he.push {cls:=.type "tuple",data:=.seq #[x,y]}) z TI TO .ellipsis:=AQ _ ze;refine AH (Cb zf (by simp) λhg zg sg=>?_)
 replace zg:EN hg z TI TO (rawInt he.objs.size):=zg
 refine Cb zg (by simp) λhi zi si=>?_
 replace zi:EN hi z TI TO (rawInt he.objs.size):=zi
 have up:∀c o,c≠z->he.get? c=AA o->hi.get? c=AA o:=λc o p e=>si.extBut _ _ p (sg.extBut _ _ p (AQ _ e));have pn:CZ hi he.objs.size x y:=si.extBut _ _ (Ef lz) (sg.extBut _ _ (Ef lz) (A0 _ rfl));have si8:hi.objs.size=he.objs.size+1:=by rw[si.1,sg.1,Bv]
 rw[sz]at zi pn si8;refine AV ⟨_,rfl,?_⟩;show Q (.ref he.objs.size) _;rw[sz];exact k hi zi (up _ _ D.TOz oe) (tit_keep v1 λo e=>up _ o D.i1z e) (tit_keep v2 λo e=>up _ o D.i2z e) pn si8 λc o p1 p2 p3 p4 e=>up c o p1 (ke c o p1 p2 p3 p4 e)
theorem ziA{z TI TO i1 i2 l1 l2:AI}{j:Nat}{xs:Array AF}{a b:AF}{Q:Fin->AJ->Prop}(hh:A.handled=AD)(D:Fu z TI TO i1 i2 l1 l2)
  (gz:EN s.heap z TI TO .none) (gI:CZ s.heap TI (.ref i1) (.ref i2)) (gO:CZ s.heap TO a b) (u1:s.heap.IsTupleIter i1 l1 j) (t1:s.heap.IsTuple l1 xs) (ex:xs[j]?=AD)
  (k:∀h' e,Kz z TO i1 i2 s.heap h'->(∃o,h'.get? e=AA o/\o.cls=.type "StopIteration")->Er (.ref e) {s with heap:=h'}):
  A1 (model pg wd) A (Gu.«zip.__next__» ⟨[.ref z],[]⟩) Q Er s:=by
 show A1 _ _ (field (.ref z) 2 >>= _) _ _ _;refine AH (BU gz rfl (x:=.bool AC) rfl ?_);show A1 _ _ (field (.ref z) 3 >>= _) _ _ _;refine AH (BU gz rfl (x:=.ref TI) rfl ?_);refine AH (C6 gI rfl ?_);show A1 _ _ (Bc (.ref z) >>= _) _ _ _;refine AH ?_;unfold Bc;refine AH (BU gz rfl (x:=.none) rfl (AV ?_));erw[if_true];refine AH (Ee ?_);refine AH (BU gz rfl (x:=.ref TO) rfl ?_);refine AH (Cb gz (by simp) λha za sa=>?_)
 replace za:EN ha z TI TO .ellipsis:=za
 refine AH ?_;erw[GN,G0,Eu,Gf];refine AH (AH (F2 ?_));show A1 _ _ (BS (.ref i1) >>= _) _ _ _;refine AH (zeq hh (tit_keep u1 λo e=>sa.extBut _ _ D.i1z e) (zcc t1 λo e=>sa.extBut _ _ D.l1z e) ex λhb e sb he=>?_);let⟨oe,ge,ce⟩:=he;have zb:EN hb z TI TO .ellipsis:=sb _ _ D.i1z.symm za;have ne:e≠z:=λq=>by subst q;rw[zb]at ge;cases ge;simp at ce
 exact Cb zb (by simp) λhc _ sc=>k hc e (λc o p1 _ p3 _ q=>sc.extBut _ _ p1 (sb _ _ p3 (sa.extBut _ _ p1 q))) ⟨oe,sc.extBut _ _ ne ge,ce⟩
theorem pyNext_zipT{z TI TO i1 i2 l1 l2:AI}{j:Nat}{xs ys:Array AF}{x y a b:AF}{Q:Option AF->AJ->Prop}(D:Fu z TI TO i1 i2 l1 l2)
  (gz:EN s.heap z TI TO .none) (gI:CZ s.heap TI (.ref i1) (.ref i2)) (gO:CZ s.heap TO a b) (u1:s.heap.IsTupleIter i1 l1 j) (u2:s.heap.IsTupleIter i2 l2 j) (t1:s.heap.IsTuple l1 xs) (t2:s.heap.IsTuple l2 ys) (ex:xs[j]?=AA x) (ey:ys[j]?=AA y)
  (k:∀h',EN h' z TI TO (rawInt s.heap.objs.size)->CZ h' TO x y->h'.IsTupleIter i1 l1 (j+1)->h'.IsTupleIter i2 l2 (j+1)->CZ h' s.heap.objs.size x y->h'.objs.size=s.heap.objs.size+1->Kz z TO i1 i2 s.heap h'->Q (AA (.ref s.heap.objs.size)) {s with heap:=h'}):
  A1 (model pg wd) A (pyNext (.ref z)) Q Er s:=by
 have ty:s.TypeIs (.ref z) "zip":=⟨_,gz,rfl⟩;unfold pyNext;exact AH (wpAny_attempt (Bg (name:=AG "__next__") ty Dd (C5 Dd ty GO (zhl D gz gI gO u1 u2 t1 t2 ex ey λh' a1 a2 a3 a4 a5 a6 a7=>AV (k h' a1 a2 a3 a4 a5 a6 a7)) (Fv _))))
theorem pyNext_zipE{z TI TO i1 i2 l1 l2:AI}{j:Nat}{xs:Array AF}{a b:AF}{Q:Option AF->AJ->Prop}(hh:A.handled=AD)(D:Fu z TI TO i1 i2 l1 l2)
  (gz:EN s.heap z TI TO .none) (gI:CZ s.heap TI (.ref i1) (.ref i2)) (gO:CZ s.heap TO a b) (u1:s.heap.IsTupleIter i1 l1 j) (t1:s.heap.IsTuple l1 xs) (ex:xs[j]?=AD)
  (k:∀h',Kz z TO i1 i2 s.heap h'->Q AD {s with heap:=h'}):A1 (model pg wd) A (pyNext (.ref z)) Q Er s:=by
 have ty:s.TypeIs (.ref z) "zip":=⟨_,gz,rfl⟩;unfold pyNext;refine AH (wpAny_attempt (Bg (name:=AG "__next__") ty Dd (C5 Dd ty GO (ziA hh D gz gI gO u1 t1 ex λh' e kk he=>?_) (Fv _))));let⟨o,ho,hc⟩:=he;exact AH (wpAny_isInstance (T:="StopIteration") (b:=AB) ⟨o,ho,hc⟩ isSubtype_stop (AV (k _ kk)))
end
noncomputable abbrev ti(l:AI):Obj:={cls:=.type "tuple_iterator",data:=.fields #[.ref l,.int 0 0]}
abbrev zh1(h:Az)(l1:AI):Heap:=h.push (ti l1)
abbrev zh2(h:Az)(l1 l2:AI):Heap:=(zh1 h l1).push (ti l2)
abbrev zh3(h:Az)(l1 l2:AI):Heap:=(zh2 h l1 l2).push {cls:=.type "tuple",data:=.seq #[.ref h.objs.size,.ref (zh1 h l1).objs.size]}
abbrev zh4(h:Az)(l1 l2:AI):Heap:=(zh3 h l1 l2).push {cls:=.type "tuple",data:=.seq #[.none,.none]}
abbrev zh5(h:Az)(l1 l2:AI):Heap:=(zh4 h l1 l2).push {cls:=.type "zip",data:=.fields #[.none,.bool AC,.bool AC,.ref (zh2 h l1 l2).objs.size,.ref (zh3 h l1 l2).objs.size]}
theorem zgn(l1 l2:AI)(xs ys:Array AF):
  Meets (Gu.«zip.__new__» ⟨[.type "zip",.ref l1,.ref l2],[]⟩) (λ_ R s=>s.heap.IsTuple l1 xs/\s.heap.IsTuple l2 ys/\R (.ok (.ret (.ref (zh4 s.heap l1 l2).objs.size))) {s with heap:=zh5 s.heap l1 l2}):=
 .of_wp λprog w A R s h=>by
  let⟨hp,g,d,tk,os⟩:=s;let⟨q1,q2,h⟩:=h;have hsub:=sub_zip;have T1:Fp (GU ⟨hp,g,d,tk,os⟩) l1 xs:=q1;have T2:Fp (GU ⟨hp.push (ti l1),g,d,tk,os⟩) l2 ys:=zcc q2 λo e=>AQ _ e
  wp_walk using Br T1,Br T2
  exact⟨_,rfl,h⟩
theorem call_zipT{pg:A5}{wd:Ai}{A:Ao}{Er:AF->AJ->Prop}{s:AJ}{l1 l2:AI}{xs ys:Array AF}{Q:AF->AJ->Prop}(t1:s.heap.IsTuple l1 xs)(t2:s.heap.IsTuple l2 ys)
  (k:∀h',EN h' (s.heap.objs.size+4) (s.heap.objs.size+2) (s.heap.objs.size+3) .none->CZ h' (s.heap.objs.size+2) (.ref s.heap.objs.size) (.ref (s.heap.objs.size+1))->CZ h' (s.heap.objs.size+3) .none .none->h'.IsTupleIter s.heap.objs.size l1 0->h'.IsTupleIter (s.heap.objs.size+1) l2 0 ->
   (∀b o,s.heap.get? b=AA o->h'.get? b=AA o)->Q (.ref (s.heap.objs.size+4)) {s with heap:=h'}):A1 (model pg wd) A (call (.type "zip") [.ref l1,.ref l2]) Q Er s:=by
 refine callType_new F.called_zip (by decide) (F.typeCall_zip_2 _ _) (F.newCall_zip_2 _ _) (λobj=>F.args_object_init_3 obj _ _) F.entry_zip_new (zgn l1 l2 xs ys) ⟨t1,t2,?_⟩;have n1:(zh1 s.heap l1).objs.size=s.heap.objs.size+1:=Bv ..;have n2:(zh2 s.heap l1 l2).objs.size=s.heap.objs.size+2:=by rw[Bv,n1]
 have n3:(zh3 s.heap l1 l2).objs.size=s.heap.objs.size+3:=by rw[Bv,n2]
 have n4:(zh4 s.heap l1 l2).objs.size=s.heap.objs.size+4:=by rw[Bv,n3]
 have kp:∀{h:Az} {o:CA} {b:AI} {u:CA},h.get? b=AA u->(h.push o).get? b=AA u:=λe=>AQ _ e;have m5:(zh5 s.heap l1 l2).get? (zh4 s.heap l1 l2).objs.size=AA _:=A0 _ rfl;have m4:(zh5 s.heap l1 l2).get? (zh3 s.heap l1 l2).objs.size=AA _:=kp (A0 _ rfl);have m3:(zh5 s.heap l1 l2).get? (zh2 s.heap l1 l2).objs.size=AA _:=kp (kp (A0 _ rfl));have m2:(zh5 s.heap l1 l2).get? (zh1 s.heap l1).objs.size=AA _:=kp (kp (kp (A0 _ rfl)));have m1:(zh5 s.heap l1 l2).get? s.heap.objs.size=AA _:=kp (kp (kp (kp (A0 _ rfl))));rw[n2,n3,n4]at m5;rw[n1,n2]at m3;rw[n3]at m4;rw[n1]at m2;show _/\_;rw[n4];exact⟨⟨_,m5,rfl⟩,k _ m5 m3 m4 ⟨_,m1,rfl,rfl⟩ ⟨_,m2,rfl,rfl⟩ λb o e=>kp (kp (kp (kp (kp e))))⟩
end WE
namespace L2
open PySem PySem.Spec PyProof.Rows
noncomputable def Itz(K:AE)(a b:AI):It:=
 ⟨λi H=>∃xs ys x y,SqT K H a xs/\SqT K H b ys/\xs[i]?=AA x/\ys[i]?=AA y,λi H v H'=>∃T,H T=AD/\v=.ref T/\∀xs ys x y,SqT K H a xs->SqT K H b ys->xs[i]?=AA x->ys[i]?=AA y->H'=upd H T (.tup [x,y]),λi H=>∃xs,SqT K H a xs/\xs.length=i⟩
theorem zh7{P:A5}{w:Ai}{K:AE}{es:List AU}{kk:Nat}{pos:CP}(z TI TO i1 i2 a b:AI)(D:Fu z TI TO i1 i2 a b):
  Turn P w K (.Tuple es kk pos) (Itz K a b) [z,TI,TO,i1,i2] z (λi h=>EN h z TI TO .none/\CZ h TI (.ref i1) (.ref i2)/\(∃p q,CZ h TO p q)/\h.IsTupleIter i1 a i/\h.IsTupleIter i2 b i) where
 mem:=by simp
 obj:=λi h st c hc=>by
  let⟨g0,g1,⟨p,q,g2⟩,⟨o3,g3,_,d3⟩,⟨o4,g4,_,d4⟩⟩:=st;erw[A3,BB,or_false]at hc;rcases hc with rfl|rfl|rfl|rfl|rfl
  .exact⟨_,g0,λv y=>nomatch y⟩
  .exact⟨_,g1,λv y=>nomatch y⟩
  .exact⟨_,g2,λv y=>nomatch y⟩
  .exact⟨o3,g3,λv y=>by rw[d3]at y;cases y⟩
  .exact⟨o4,g4,λv y=>by rw[d4]at y;cases y⟩
 keep:=λi h h' st k=>by
  let⟨g0,g1,⟨p,q,g2⟩,g3,g4⟩:=st;exact⟨k z (by simp) _ g0,k TI (by simp) _ g1,⟨p,q,k TO (by simp) _ g2⟩,WE.tit_keep g3 λo e=>k i1 (by simp) o e,WE.tit_keep g4 λo e=>k i2 (by simp) o e⟩
 item:=by
  intro X hP hw hK hc i pins s σ H E I hf st hg;subst hP hw hK;let⟨xs,ys,x,y,hq1,hq2,hx,hy⟩:=hg;let⟨its,rv,p1,_⟩:=I.tuple hq1;let⟨jts,rw',p2,_⟩:=I.tuple hq2;let⟨g0,g1,⟨p,q,g2⟩,g3,g4⟩:=st;let⟨u,hu,ru⟩:=rv.get hx;let⟨v,hv,rv2⟩:=rw'.get hy;refine WE.pyNext_zipT D g0 g1 g2 g3 g4 p1 p2 (by simpa using hu) (by simpa using hv) λh1 a1 a2 a3 a4 a5 a6 a7=>⟨_,rfl,?_⟩;refine wpAny_letOwnedTupleGo_zip a1 λh2 b1 b2=>?_;have lt:∀{c o},s.heap.get? c=AA o->s.heap.objs.size≠c:=λe=>Ef (AW e);have hTz:s.heap.objs.size≠z:=lt g0;have hch:∀c o,c∉[z,TI,TO,i1,i2]->s.heap.get? c=AA o->h2.get? c=AA o:=λc o hn e=>b2.extBut _ _ (λz'=>hn (by simp[z'])) (a7 c o (λz'=>hn (by simp[z'])) (λz'=>hn (by simp[z'])) (λz'=>hn (by simp[z'])) (λz'=>hn (by simp[z'])) e);have new:yO X.prog X.w (upd H s.heap.objs.size (.tup [x,y])) h2 s.heap.objs.size (.tup [x,y]):=⟨by show 2<=sizeLine;decide,[u,v],.cons ru (.cons rv2 .nil),_,b2.extBut _ _ hTz a5,rfl,_,rfl⟩;have I2:=I.turnLaid (t':=s.toks) hf hch (AT _) new;have gI:CZ h1 TI (.ref i1) (.ref i2):=a7 _ _ D.TIz D.TITO D.TIi1 D.TIi2 g1;refine⟨.ref s.heap.objs.size,_,I2,rfl,⟨s.heap.objs.size,I.hok.fresh (AT _),rfl,λxs' ys' x' y' hx1 hy1 hx2 hy2=>?_⟩,⟨b1,b2.extBut _ _ D.TIz gI,⟨_,_,b2.extBut _ _ D.TOz a2⟩,WE.tit_keep a3 λo e=>b2.extBut _ _ D.i1z e,WE.tit_keep a4 λo e=>b2.extBut _ _ D.i2z e⟩,λc hc=>?_⟩
  .rw[I.tuple_inj hx1 hq1,hx]at hx2;rw[I.tuple_inj hy1 hq2,hy]at hy2
   cases hx2
   cases hy2
   rfl
  .have hne:c≠s.heap.objs.size:=λz'=>by
    subst z';let⟨o3,e3,_⟩:=g3;let⟨o4,e4,_⟩:=g4;erw[A3,BB,or_false]at hc;rcases hc with z' | z' | z' | z' | z'
    .exact lt g0 z'
    .exact lt g1 z'
    .exact lt g2 z'
    .exact lt e3 z'
    .exact lt e4 z'
   rw[zh hne];exact(hf c hc).1
 done:=by
  intro X hP hw hK hc i pins s σ H E I hf st hg;subst hP hw hK;let⟨xs,hq1,hx⟩:=hg;let⟨its,rv,p1,_⟩:=I.tuple hq1;let⟨g0,g1,⟨p,q,g2⟩,g3,g4⟩:=st;have hl:=rv.length;refine WE.pyNext_zipE (I.ok.hd hc) D g0 g1 g2 g3 p1 (by simp;lia) λh' kz=>⟨rfl,I.turnedL (t':=s.toks) hf λc o hn e=>kz c o (λz'=>hn (by simp[z'])) (λz'=>hn (by simp[z'])) (λz'=>hn (by simp[z'])) (λz'=>hn (by simp[z'])) e⟩
 self:=λ_ _ _ _ _ st q=>GP st.1 q
def ygq(K:AE)(ta:TA):TI:=λσ H R=>ta σ H λvs H1=>∃a b,vs=[.ref a,.ref b]/\(∃xs,SqT K H1 a xs)/\(∃ys,SqT K H1 b ys)/\R (Itz K a b) H1
theorem zkn{X:Cx}{a b:AU}{es:List AU}{kk:Nat}{tp:CP}{ta:TA}{p pos:CP}(hg:Gl X "zip")(hm:X.mg "zip"=AD)(ha:PA X [a,b] ta)(hs:starEach [a,b] X.env=[(AC,eval a X.env),(AC,eval b X.env)]:=by rfl)(hs2:starEach [b] X.env=[(AC,eval b X.env)]:=by rfl):
  PI X (.Tuple es kk tp) (.Call (.Name "zip" p) [a,b] [] pos) (ygq X.K ta):=by
 intro pins s σ H R I h;refine BZ (zdd I hg hm boot_zip ?_);refine CC (thn (ha pos pins s σ H _ I h) λus s1 kq=>?_) (by rw[hs,hs2]) (by rw[hs2];rfl);let⟨vs,H1,I1,r1,q1⟩:=kq;let⟨l1,l2,rfl,⟨xs,hq1⟩,⟨ys,hq2⟩,q⟩:=q1
 cases r1 with
 |cons r rr=>
  cases rr with
  |cons r2 r3=>
   cases r3
   cases (show _=Ah l1 from r)
   cases (show _=Ah l2 from r2)
   let⟨its,rv,pt1,_⟩:=I1.tuple hq1;let⟨jts,rv2,pt2,_⟩:=I1.tuple hq2;have b1:l1<s1.heap.objs.size:=by let⟨_,e,_⟩:=pt1;exact AW e
   have b2:l2<s1.heap.objs.size:=by let⟨_,e,_⟩:=pt2;exact AW e
   refine WE.call_zipT pt1 pt2 λh1 g0 g1 g2 g3 g4 kp=>?_;refine GP g0 ?_;refine⟨_,[s1.heap.objs.size+4,s1.heap.objs.size+2,s1.heap.objs.size+3,s1.heap.objs.size,s1.heap.objs.size+1],_,_,H1,rfl,I1.kept (t':=s1.toks) kp,zh7 _ _ _ _ _ l1 l2 (zipApart_new b1 b2),⟨g0,g1,⟨_,_,g2⟩,g3,g4⟩,λc hc=>?_,q⟩;have hb2:s1.heap.objs.size<=c:=by
    erw[A3,BB,or_false]at hc;rcases hc with z' | z' | z' | z' | z'<;>subst z'
    .exact DS _ 4
    .exact DS _ 2
    .exact DS _ 3
    .exact AT _
    .exact DS _ 1
   exact I1.fpOk hb2 (I1.hok.fresh hb2)
end L2
namespace L2
open PySem PySem.Spec PyProof.Rows IC
inductive yb4(K:AE)(cl:Nat->AI)(w:Ai):List (AR×PV)->List CF->Prop
 |nil:yb4 K cl w [] []
 |cons {k:AR} {v:PV} {t:HV} {u:AF} {x:V} {D:List (AR×PV)} {es:List CF} (hr:RelV x u) (hv:∀B φ H,yd K cl B φ H v x) (h:yb4 K cl w D es):yb4 K cl w ((k,v)::D) (⟨EC w.params k,.str k t,u⟩ :: es)
def GD(K:AE)(w:Ai)(mg:AR->Option AF)(cl:Nat->AI)(x:AR)(D:List (AR×PV)):Prop:=
 ∃(y:AI) (es:Array CF) (ep:Nat),mg x=AA (.ref y)/\K.lookup y=AA ⟨.type "dict",AD,.dict es ep,#[]⟩/\(y==sysModules)=AC/\yb4 K cl w D es.toList/\(D.map (·.1)).Nodup
theorem yb4.pairs{K:AE}{cl:Nat->AI}{P:A5}{w:Ai}{D:List (AR×PV)}{es:List CF}(h:yb4 K cl w D es):
  ∃vs:List (AR×AF),Pairs (strKind P w) es vs/\(∀e∈es,∃k,(strKind P w).is k e.key=AB/\e.hash=(strKind P w).hash k)/\vs.map (·.1)=D.map (·.1) /\
   (∀s,(valueAt vs s).isSome=(yaP s D).isSome)/\∀s v,yaP s D=AA v->∃u x,valueAt vs s=AA u/\RelV x u/\∀B φ H,yd K cl B φ H v x:=by
 induction h with
 |nil=>exact⟨[],.nil,λe he=>(by cases he),rfl,λs=>rfl,λs v e=>by cases e⟩
 |@cons k v t u x D es hr hv h ih=>
  let⟨vs,h1,h2,h3,h4,h5⟩:=ih;have hat:∀s,valueAt ((k,u)::vs) s=if k=s then AA u else valueAt vs s:=λs=>by
   unfold valueAt;rw[Bz]
   by_cases e:k=s
   .simp[e]
   .simp[e]
  refine⟨(k,u)::vs,.cons (DU P w k t) rfl h1,λe he=>?_,by rw[AL,AL,h3],λs=>?_,λs v' e=>?_⟩
  .rcases A3.1 he with rfl|he
   .exact⟨k,DU P w k t,rfl⟩
   .exact h2 e he
  .rw[hat,yaP]
   by_cases e:k=s
   .rw[if_pos e,if_pos (by simpa using e)];rfl
   .rw[if_neg e,if_neg (by simpa using e),h4]
  .rw[yaP]at e;rw[hat]
   by_cases q:k=s
   .rw[if_pos (by simpa using q)]at e
    cases e
    exact⟨u,x,by rw[if_pos q],hr,hv⟩
   .rw[if_neg (by simpa using q)]at e;let⟨u',x',e1,e2,e3⟩:=h5 s v' e;exact⟨u',x',by rw[if_neg q];exact e1,e2,e3⟩
section
variable {S:Se}{X:Cx}{σ:St}{B:AI->Prop}{φ:Ph}{H:Hp}{st:SO}{pos p:CP}{a b i:AU}{ca cb:Ce}{x:AR}{D:List (AR×PV)}{ty:TE}
theorem zgG{y:AI}{es:Array CF}{ep:Nat}{pins:List (AI×CA)}{s:AJ}(I:Inv X pins σ H s)(hk:X.K.lookup y=AA ⟨.type "dict",AD,.dict es ep,#[]⟩)(hn:(D.map (·.1)).Nodup){vs:List (AR×AF)}(h1:Pairs (strKind X.prog X.w) es.toList vs)
  (h2:∀e∈es.toList,∃k,(strKind X.prog X.w).is k e.key=AB/\e.hash=(strKind X.prog X.w).hash k) (h3:vs.map (·.1)=D.map (·.1)):s.heap.DictOf (strKind X.prog X.w) y vs:=
 ⟨_,es,ep,I.kIn y _ hk,⟨rfl,rfl,rfl⟩,rfl,λe he=>h2 e (by simpa using he),h1,by rw[h3];exact hn⟩
def ydZ(S:Se)(X:Cx)(D:List (AR×PV))(ty:TE):TE:=λσ H Q=>ty σ H λz H2=>∃s v,z=.str s/\yaP s D=AA v/\∀x',(∀B φ H,yd X.K S.cl B φ H v x')->Q x' H2
theorem zkQ(hg:Gl X x)(h:GD X.K X.w X.mg S.cl x D)(hi:PE X i ty)(hs:ycL i)(hd:(x==("__debug__":AR))=false:=by decide):PE X (.Subscript (.Name x p) i pos) (ydZ S X D ty):=by
 let⟨y,es,ep,hm,hk,hsy,hr,hn⟩:=h;let⟨vs,h1,h2,h3,h4,h5⟩:=hr.pairs (P:=X.prog);intro pins s σ H Q I q0;refine zhv EI.lookup hs (thn (zcO (v:=.ref y) hg hm rfl hd pins s σ H (λz H1=>z=.ref y/\ty σ H1 λz H2=>∃s v,z=.str s/\yaP s D=AA v/\∀x',(∀B φ H,yd X.K S.cl B φ H v x')->Q x' H2) I ⟨rfl,q0⟩) λu s1 kq=>?_);let⟨z,H1,I1,rz,ez,q1⟩:=kq;refine thn (hi pins s1 σ H1 _ I1 q1) λiv s2 kq=>?_;let⟨z2,H2,I2,rz2,sx,v,ez2,e,q2⟩:=kq;subst ez;subst ez2;obtain rfl:u=Ah y:=rz;let⟨t,rfl⟩:=rz2;have dd:=zgG I2 hk hn h1 h2 h3;let⟨u',x',e1,e2,e3⟩:=h5 sx v e;exact⟨dd.typeIs,GQ (DU X.prog X.w sx t) dd.mapOf e1 ⟨x',H2,I2.tok _,e2,q2 x' e3⟩⟩
theorem zme(hg:Gl X x)(h:GD X.K X.w X.mg S.cl x D)(hb:PE X b (tE S X cb))(hs:ycL b:=by exact λ_ _=>rfl)(hd:(x==("__debug__":AR))=false:=by decide):PE X (.Subscript (.Name x p) b pos) (tE S X (.dix D cb)):=
 (zkQ hg h hb hs hd).imp λσ H Q ⟨B,φ,st,ρ,rs,re,h⟩=>by
  erw[ev]at h;refine tE.bind rs re h λz H1 v st1 φ1 s1 rs1 re1 rv h1=>?_;let⟨w,e,q⟩:=zab h1 rs1
  cases v with
  |str sx=>
   erw[yd]at rv;exact⟨sx,w,rv,e,λx' hx=>q x' H1 φ1 .rfl rs1 (hx _ _ _)⟩
  |_=>cases e
def yfu(y:AI)(D:List (AR×PV)):R2:=λx z H Q=>z=.ref y/\∃s,x=.str s/\Q (.bl (yaP s D).isSome) H
theorem zno(hg:Gl X x)(h:GD X.K X.w X.mg S.cl x D)(ha:PE X a (tE S X ca))(hm:behindInMarks .In (.Name x p)=false:=by ac_rfl)(hd:(x==("__debug__":AR))=false:=by decide):PE X (.Compare a [.In] [.Name x p] pos) (tE S X (.din ca D)):=by
 let⟨y,es,ep,hmg,hk,hsy,hr,hn⟩:=h;let⟨vs,h1,h2,h3,h4,h5⟩:=hr.pairs (P:=X.prog);have op:OpR X (compareOp .In) (yfu y D):=by
  intro pins s σ H z1 z2 v u Q I r1 r2 ⟨ez,sx,ex,q⟩;subst ez;subst ex;obtain rfl:u=Ah y:=r2;let⟨t,rfl⟩:=r1;have dd:=zgG I hk hn h1 h2 h3;refine wpAny_in_of (DU X.prog X.w sx t) hsy dd.mapOf ⟨.bl (yaP sx D).isSome,H,I.tok _,?_,q⟩;rw[h4];rfl
 refine(zgr op ha (zcO (v:=.ref y) hg hmg rfl hd) hm).imp λσ H Q kq=>?_;let⟨B,φ,st,ρ,rs,re,h⟩:=kq;erw[ev]at h;refine tE.bind rs re h λz H1 v st1 φ1 s1 rs1 re1 rv h1=>?_;let⟨w,e,q⟩:=zab h1 rs1
 cases v with
 |str sx=>
  erw[yd]at rv
  cases e
  exact⟨rfl,sx,rv,q _ H1 φ1 .rfl rs1 (by erw[yd])⟩
 |_=>cases e
theorem zei:∀(xs ys:List PV) (i:Nat) {x y:PV},xs[i]?=AA x->ys[i]?=AA y->(yaL xs ys)[i]?=AA (.tup [x,y])
 |[],_,i,_,_,h,_=>by simp at h
 |_::_,[],i,_,_,_,h=>by simp at h
 |x::xs,y::ys,0,_,_,h1,h2=>by simp at h1 h2;simp[yaL,h1,h2]
 |x::xs,y::ys,i+1,_,_,h1,h2=>by
  erw[AM]at h1 h2;erw[yaL,AM];exact zei xs ys i h1 h2
theorem zej:∀(xs ys:List PV),xs.length<=ys.length->(yaL xs ys).length=xs.length
 |[],_,_=>by simp[yaL]
 |_::_,[],h=>by simp at h
 |x::xs,y::ys,h=>by erw[yaL,AS,zej xs ys (by simpa using h)]
theorem zlj{k j:Bool}{vs ws:List PV}{xs ys:List V}{y z:AI}(rt:ybI X.K B φ H k y xs)(l:ye X.K S.cl B φ H vs xs)(rt2:ybI X.K B φ H j z ys)(l2:ye X.K S.cl B φ H ws ys)(hle:vs.length<=ws.length):Drw S X B φ H (yaL vs ws) (Itz X.K y z):=by
 have hl:=l.length;have hl2:=l2.length;have hp:=zej vs ws hle;refine⟨λφ' H' s=>⟨xs,(rt.step s).sq,by lia⟩,λi φ' H' s hi=>⟨xs,ys,xs[i]'(by lia),ys[i]'(by lia),(rt.step s).sq,(rt2.step s).sq,by simp[show i<xs.length by lia],by simp[show i<ys.length by lia]⟩,λi φ' H' st x H2 B' hB s rs hi q=>?_⟩;let⟨T,hT,rfl,q⟩:=q;obtain⟨v,hv⟩:∃v,vs[i]?=AA v:=⟨vs[i]'(by lia),by simp[show i<vs.length by lia]⟩;obtain⟨w,hw⟩:∃w,ws[i]?=AA w:=⟨ws[i]'(by lia),by simp[show i<ws.length by lia]⟩;let⟨x',hx',rv⟩:=l.get i hv;let⟨y',hy',rw'⟩:=l2.get i hw;have e:=q xs ys x' y' (rt.step s).sq (rt2.step s).sq hx' hy';subst e;refine⟨.tup [v,w],zei vs ws i hv hw,.tup_new hT rs ?_,λb o e=>by rw[zh (zm e hT)];exact e⟩;erw[ye];exact⟨x',[y'],rfl,(rv.moreB hB).step s,y',[],rfl,(rw'.moreB hB).step s,rfl⟩
theorem zmJ{es:List AU}{kk:Nat}{tp:CP}(hg:Gl X "zip")(hm:X.mg "zip"=AD)(ha:PE X a (tE S X ca))(hb:PE X b (tE S X cb))(hs:starEach [a,b] X.env=[(AC,eval a X.env),(AC,eval b X.env)]:=by rfl)(hs2:starEach [b] X.env=[(AC,eval b X.env)]:=by rfl):
  PI X (.Tuple es kk tp) (.Call (.Name "zip" p) [a,b] [] pos) (tI S X (.zip ca cb)):=
 (zkn hg hm (zbo ha (zbo hb ybc hs2) (by rw[hs,hs2])) hs hs2).imp λσ H R ⟨B,φ,st,ρ,rs,re,h⟩=>by
  erw[evi]at h;refine tE.bind rs re h λx H1 v st1 φ1 s1 rs1 re1 rv h1=>tE.bind rs1 re1 h1 λy H2 w st2 φ2 s2 rs2 re2 rw h2=>?_;let⟨zs,e,h2⟩:=zhb h2
  cases v with
  |tp k vs=>
   cases w with
   |tp j ws=>
    erw[ydF]at e
    by_cases hle:vs.length<=ws.length
    .rw[if_pos hle]at e
     cases e
     erw[yd]at rv rw;let⟨a1,xs,rfl,rt,l⟩:=rv;let⟨a2,ys,rfl,rt2,l2⟩:=rw;exact⟨a1,a2,rfl,⟨xs,(rt.step s2).sq⟩,⟨ys,rt2.sq⟩,h2.ok rs2 (zlj (rt.step s2) (l.step s2) rt2 l2 hle)⟩
    .rw[if_neg hle]at e
     cases e
   |_=>cases e
  |_=>cases e
end
section
variable {K:AE}{cl:Nat->AI}{B:AI->Prop}{φ:Ph}{H:Hp}{st:SO}
end
section
variable {S:Se}{X:Cx}{K:AE}{cl:Nat->AI}{σ:St}{B:AI->Prop}{φ φ1:Ph}{H H1:Hp}{st:SO}{ρ:IC.Env}{pos p p2 px:CP}{a b c o tg l elt iter:AU}{ca cb cc ce:Ce}{ci:Cit}{ct:Tg}
end
section
variable {K:AE}{cl:Nat->AI}{B:AI->Prop}{φ:Ph}{H:Hp}{st:SO}
theorem FS.lookup{f:AR}:∀{fs:List (AR×PV)} {ks:List (AR×V)},FS K cl B φ H fs ks->(∀v,fs.lookup f=AA v->∃x,ks.lookup f=AA x/\yd K cl B φ H v x)/\(fs.lookup f=AD->ks.lookup f=AD)
 |[],ks,h=>by
  cases (show ks=[]from h)
  exact⟨nofun,λ_=>rfl⟩
 |(k,v)::r,ks,h=>by
  let⟨x,s,rfl,rv,l⟩:=h;let⟨q1,q2⟩:=FS.lookup (f:=f) l;erw[Bu]
  cases e:f==k with
  |true=>exact⟨λw z=>by cases z;exact⟨x,rfl,rv⟩,λz=>by cases z⟩
  |false=>exact⟨q1,q2⟩
theorem FS.put{f:AR}{v:PV}{x:V}(r:yd K cl B φ H v x):∀{fs:List (AR×PV)} {ks:List (AR×V)},FS K cl B φ H fs ks->FS K cl B φ H (ybD f v fs) (yaY f x ks)
 |[],ks,h=>by
  cases (show ks=[]from h)
  exact⟨x,[],rfl,r,rfl⟩
 |(k,w)::q,ks,h=>by
  let⟨y,s,rfl,ry,l⟩:=h;erw[ybD,yaY]
  by_cases c:k=f
  .rw[if_pos c,if_pos c];exact⟨x,s,rfl,r,l⟩
  .rw[if_neg c,if_neg c];exact⟨y,_,rfl,ry,FS.put r l⟩
theorem FS.len:∀{fs:List (AR×PV)} {ks:List (AR×V)},FS K cl B φ H fs ks->fs.length=ks.length
 |[],ks,h=>by cases (show ks=[]from h);rfl
 |(k,w)::q,ks,h=>by
  let⟨y,s,rfl,ry,l⟩:=h;simp[FS.len l]
theorem yr.ins{n c:Nat}{fs:List (AR×PV)}{x:V}(rs:yr K cl B φ H st)(r:yd K cl B φ H (.loc n) x)(h:st[n]?=AA (.ins c fs)):∃y ks dx,x=.ref y/\φ[n]?=AA (AA y)/\H y=AA (.ins (cl c) dx ks)/\FS K cl B φ H fs ks:=by
 erw[yd]at r;let⟨hn,y,rfl,hy⟩:=r;let⟨a,ha⟩:=rs.liv n _ h (by intro z;cases z);let⟨o,ho,ro⟩:=rs.obj n a ha;have e:=hy a ha;subst e;rw[h]at ho
 cases ho
 let⟨ks,⟨dx,q⟩,l⟩:=ro;exact⟨a,ks,dx,rfl,ha,q,l⟩
end
section
variable {S:Se}{X:Cx}{σ:St}{B:AI->Prop}{φ φ1:Ph}{H H1:Hp}{st:SO}{ρ:IC.Env}{p pos pos' p2 apos:CP}{a b d o e:AU}{ca cb cc:Ce}{es:List AU}{ces:Ces}{c i k:Nat}{f m x:AR}{fa:AI}{fd:BA}{ps:List AR}
theorem zfo{st:SO}{x v:PV}(h:yaV c st x f=AA v):∃n fs,x=.loc n/\st[n]?=AA (.ins c fs)/\fs.lookup f=AA v:=by
 cases x with
 |loc n=>
  erw[yaV]at h;split at h
  .rename_i dd fs e;split at h
   .rename_i q;subst q;exact⟨n,fs,rfl,e,h⟩
   .cases h
  .cases h
 |_=>cases h
theorem zfI{st st4:SO}{x v:PV}(h:yaT c st x f v=AA st4):∃n fs,x=.loc n/\st[n]?=AA (.ins c fs)/\fs.length<1000/\st4=st.set n (.ins c (ybD f v fs)):=by
 cases x with
 |loc n=>
  erw[yaT]at h;split at h
  .rename_i dd fs e;split at h
   .rename_i q;let⟨q,q2⟩:=q;subst q
    cases h
    exact⟨n,fs,rfl,e,q2,rfl⟩
   .cases h
  .cases h
 |_=>cases h
theorem zi6{st:SO}{x:PV}{t:Bool}(h:ybR c m st x=AA t):∃n fs,x=.loc n/\st[n]?=AA (.ins c fs)/\fs.lookup m=none:=by
 cases x with
 |loc n=>
  erw[ybR]at h;split at h
  .rename_i dd fs e;split at h
   .rename_i q;let⟨q,q2⟩:=q;subst q;exact⟨n,fs,rfl,e,q2⟩
   .cases h
  .cases h
 |_=>cases h
theorem zmQ(hc:Cls X.K (S.cl c))(hn:yam X.K (S.cl c) f)(ha:PE X a (tE S X ca))(hb:attributeBase a f X.env (eval a X.env)=eval a X.env:=by rfl):PE X (.Attribute a f pos) (tE S X (.fld c ca f)):=
 (znl ha hb).imp λσ H Q ⟨B,φ,st,ρ,rs,re,h⟩=>by
  erw[ev]at h;refine tE.bind rs re h λx H1 v st1 φ1 s1 rs1 re1 rv h1=>?_;let⟨z,e,q⟩:=zab h1 rs1;let⟨n,fs,rfl,hn',l⟩:=zfo e;let⟨y,ks,dx,rfl,_,hy,lr⟩:=rs1.ins rv hn';let⟨x,hx,rx⟩:=lr.lookup.1 z l;exact⟨y,S.cl c,dx,ks,x,rfl,hy,hc,hn,hx,q x H1 φ1 .rfl rs1 rx⟩
theorem zml(hc:Cls X.K (S.cl c))(hn:yam X.K (S.cl c) f)(ha:PE X a (tE S X ca))(hv:PE X b (tE S X cb))(hs:swapsWith b (AA (.Attribute a f pos')) pos.line X.env=pure false:=by rfl):PS X (.Assign [.Attribute a f pos'] b pos) (tS S X (.sfl c ca f cb)):=
 (zmq ha hv hs).imp λD σ H ⟨B,φ,st,ρ,rs,re,h⟩=>by
  erw[ex]at h;refine tE.fl rs re h λv' H1 v st1 φ1 s1 rs1 re1 rv h1=>tE.fl rs1 re1 h1 λx' H2 x st2 φ2 s2 rs2 re2 rx h2=>?_
  cases e:yaT c st2 x f v with
  |none=>rw[e]at h2;exact h2.elim
  |some st4=>
   rw[e]at h2;let⟨n,fs,rfl,hn',hl,rfl⟩:=zfI e;let⟨y,ks,dx,rfl,hp,hy,lr⟩:=rs2.ins rx hn';refine⟨y,S.cl c,dx,ks,rfl,hy,hc,hn,by rw[<-lr.len];exact hl,?_⟩;have s4:Step φ2 H2 φ2 (L2.upd H2 y (.ins (S.cl c) dx (yaY f v' ks))):=.put (A2 hp);exact h2 σ _ φ2 s4 (rs2.put (o:=.ins c (ybD f v fs)) hp ⟨_,⟨dx,zq⟩,(FS.put (rv.step s2) lr).step s4⟩) (re2.step s4)
theorem noX:ybw (CX1 X.prog X.w) X (λ_ _ _=>False):=λpins σ H s e s' _ z=>by
 let⟨_,_,_,_,_,_,_,_,_,_,_,_,_,_,z⟩:=z;exact z.elim
theorem zie{vs:List PV}{xs:List V}{Q:VK}{rs:yr X.K S.cl B φ H st}(l:ye X.K S.cl B φ H vs xs)(h:Run S X σ B φ H (RV S X B) ((ybn (S.call i (.loc st.length::vs) (st++[.ins c []]))).bind λv st2=>newV st.length v st2) Q):
  ∀x dx,H x=AD->H dx=AD->dx≠x->spI X.K S.cl S.call i (.ref x::xs) (L2.upd (L2.upd H dx (.own x)) x (.ins (S.cl c) dx [])) (λv H2=>v=.non/\Q (.ref x) H2) (λ_ _ _=>False):=by
 intro x dx hx hdx ne;have hx':L2.upd H dx (.own x) x=none:=by rw[zh (BK ne)];exact hx
 have t1:Step φ H φ (L2.upd H dx (.own x)):=.upd hdx;have rs1:=rs.upd (o:=.own x) hdx;have t2:Step φ (L2.upd H dx (.own x)) (φ++[AA x]) (L2.upd (L2.upd H dx (.own x)) x (.ins (S.cl c) dx [])):=.push hx';have rs2:=rs1.push hx' (rs1.nB hx') (o:=.ins c []) ⟨[],⟨dx,zq⟩,rfl⟩;have ll:yd X.K S.cl B (φ++[AA x]) (L2.upd (L2.upd H dx (.own x)) x (.ins (S.cl c) dx [])) (.loc st.length) (.ref x):=.loc_new rs1;refine⟨B,φ++[AA x],st++[.ins c []],.loc st.length::vs,rs2,?_,?_⟩
 .simp only[ye];exact⟨.ref x,xs,rfl,ll,(l.step t1).step t2⟩
 .cases e:S.call i (.loc st.length::vs) (st++[.ins c []])with
  |ok v st'=>
   rw[e]at h;erw[ybn,R.bind]at h
   cases v with
   |non=>
    intro z H' φ' s rs' rz;erw[yd]at rz;exact⟨rz,h (.ref x) H' φ' ((t1.trans t2).trans s) rs' (ll.step s)⟩
   |_=>exact h.elim
  |exc k s=>rw[e]at h;exact h.elim
  |bad=>rw[e]at h;exact h.elim
theorem zmU(M:Mk X.K (S.cl c) fa)(F:yaB X.prog X.w X.K X.mg X.base (CX1 X.prog X.w) k fa fd ps (spI X.K S.cl S.call i))(hr:yao (k+1) X.A)(hg:Gl X x)(hm:X.mg x=AA (.ref (S.cl c)))(hb:Binds X.K fd ps [])
  (ha:PA X (e::es) (tAs S X ces)) (hdb:(x==("__debug__":AR))=false:=by decide) (he:starEach (e::es) X.env=(AC,eval e X.env)::starEach es X.env:=by rfl) (hpl:(backTo pos (starEach es X.env)).any (·.1)=false:=by rfl):
  PE X (.Call (.Name x p) (e::es) [] pos) (tE S X (.new c i ces)):=
 (zlY M F hr hg hm hb .nil noX ha hdb he hpl).imp λσ H Q ⟨B,φ,st,ρ,rs,re,h⟩=>by
  erw[ev]at h;refine tAs.bind rs re h λxs H1 vs st1 φ1 s1 rs1 re1 rv h1=>?_;rw[Ax];exact zie (rs:=rs1) rv h1
noncomputable def ybN(CX:CXT)(X:Cx)(C:AI)(m:AR)(sp:Sp)(ta:TE)(t:TA):TE:=λσ H Q=>ta σ H λx H1=>∃y dx fs,x=.ref y/\H1 y=AA (.ins C dx fs)/\fs.lookup m=AD/\t σ H1 λvs H2=>∃E:XK,sp (.ref y::vs) H2 Q E/\∀pins s e s',Inv X pins σ H2 s->CX X.stack H2 s E e s'->X.xe e s'
theorem ziu{CX:CXT}{sp:Sp}{C:AI}{ta:TE}{t:TA}{pl:Gj Bool}(he:PE X o ta)(c:Cls X.K C)(hm:Meth X.K C m fa)(F:yaB X.prog X.w X.K X.mg X.base CX k fa fd ps sp)(hr:yao k X.A)(hb:Binds X.K fd ps [])(ha:PA X (e::es) t)
  (hst:starEach (e::es) X.env=(AC,eval e X.env)::starEach es X.env:=by rfl) (hpl:(backTo pos (starEach es X.env)).any (·.1)=false:=by rfl)
  (ht:eval (.Call (.Attribute o m apos) (e::es) [] pos) X.env=(do
   let ov <-eval o X.env
   standAt apos.atName
   let (f,first) <-holding [ov] (getMethod ov m pl)
   callWith pos f first (backTo pos (starEach (e::es) X.env)) (backToKw pos (keywordEach [] X.env))):=by rfl):
  PE X (.Call (.Attribute o m apos) (e::es) [] pos) (ybN CX X C m sp ta t):=by
 intro pins s σ H Q I h;refine FA (pl:=pl) (thn (he pins s σ H _ I h) λu s1 kq=>?_) ht;let⟨x,H1,I1,rx,y,dx,fs,ex,ea,l,q⟩:=kq;subst ex;obtain rfl:u=Ah y:=rx;refine zdq I1 ea c hm l ?_;refine DB (first:=[.ref y]) (h₀:=X.base) I.ok.mod.kin hm.kp (thn (ha pos pins s1 σ H1 _ I1 q) λus s2 kq=>?_) hst hpl;let⟨vs,H2,I2,r,E,q2,hx⟩:=kq;refine ⟨I2.kIn,?_⟩;exact zc2 (us:=.ref y::us) (vs:=.ref y::vs) F hr hb .nil I2 (.cons rfl r) (by rw[Ax];exact q2) λe s' z=>hx pins s2 e s' I2 z
theorem zhm{CX:CXT}{sp:Sp}{C:AI}{ta:TE}{pl:Gj Bool}(he:PE X o ta)(c:Cls X.K C)(hm:Meth X.K C m fa)(F:yaB X.prog X.w X.K X.mg X.base CX k fa fd ps sp)(hr:yao k X.A)(hb:Binds X.K fd ps [])
  (ht:eval (.Call (.Attribute o m apos) [] [] pos) X.env=(do
   let ov <-eval o X.env
   standAt apos.atName
   let (f,first) <-holding [ov] (getMethod ov m pl)
   callWith pos f first (backTo pos (starEach [] X.env)) (backToKw pos (keywordEach [] X.env))):=by rfl):
  PE X (.Call (.Attribute o m apos) [] [] pos) (ybN CX X C m sp ta ycY):=by
 intro pins s σ H Q I h;refine FA (pl:=pl) (thn (he pins s σ H _ I h) λu s1 kq=>?_) ht;let⟨x,H1,I1,rx,y,dx,fs,ex,ea,l,E,q2,hx⟩:=kq;subst ex;obtain rfl:u=Ah y:=rx;refine zdq I1 ea c hm l ?_;exact FV (first:=[.ref y]) I1.kIn hm.kp (zc2 (us:=[.ref y]) (vs:=[.ref y]) F hr hb .nil I1 (.cons rfl .nil) q2 λe s' z=>hx pins s1 e s' I1 z)
theorem zeF{Q:VK}{t:TA}(hq:∀{H1:Hp} {φ1:Ph} {st1:SO} {P:List V->Hp->Prop} {kk:List PV->SO->R PV},yr X.K S.cl B φ1 H1 st1->yG X.K S.cl B φ1 H1 ρ σ->Run S X σ B φ1 H1 (RV S X B) ((evs S.call ρ st1 ces).bind kk) Q ->
   (∀xs H2 vs st2 φ2,Step φ1 H1 φ2 H2->yr X.K S.cl B φ2 H2 st2->yG X.K S.cl B φ2 H2 ρ σ->ye X.K S.cl B φ2 H2 vs xs->Run S X σ B φ2 H2 (RV S X B) (kk vs st2) Q->P xs H2)->t σ H1 P)
  (rs:yr X.K S.cl B φ H st) (re:yG X.K S.cl B φ H ρ σ) (h:Run S X σ B φ H (RV S X B) ((ev S.call ρ st ca).bind λx st1=>onO (ybR c m st1 x) λ_=>(evs S.call ρ st1 ces).bind λvs st2=>S.call i (x::vs) st2) Q):
  ybN (CX1 X.prog X.w) X (S.cl c) m (spI X.K S.cl S.call i) (tE S X ca) t σ H Q:=by
 refine tE.bind rs re h λx H1 v st1 φ1 s1 rs1 re1 rv h1=>?_
 cases q:ybR c m st1 v with
 |none=>rw[q]at h1;exact h1.elim
 |some b=>
  rw[q]at h1;erw[onO]at h1;let⟨n,fs,rfl,hn,hl⟩:=zi6 q;let⟨y,ks,dx,rfl,_,hy,lr⟩:=rs1.ins rv hn;refine⟨y,dx,ks,rfl,hy,lr.lookup.2 hl,hq rs1 re1 h1 λxs H2 vs st2 φ2 s2 rs2 re2 rl h2=>?_⟩;exact zaR rs2 (by erw[ye];exact⟨.ref y,xs,rfl,rv.step s2,rl⟩) h2
theorem zl8{pl:Gj Bool}(hc:Cls X.K (S.cl c))(hm:Meth X.K (S.cl c) m fa)(F:yaB X.prog X.w X.K X.mg X.base (CX1 X.prog X.w) k fa fd ps (spI X.K S.cl S.call i))(hr:yao k X.A)(hb:Binds X.K fd ps [])
  (ho:PE X o (tE S X ca)) (ha:PA X (e::es) (tAs S X ces))
  (hst:starEach (e::es) X.env=(AC,eval e X.env)::starEach es X.env:=by rfl) (hpl:(backTo pos (starEach es X.env)).any (·.1)=false:=by rfl)
  (ht:eval (.Call (.Attribute o m apos) (e::es) [] pos) X.env=(do
   let ov <-eval o X.env
   standAt apos.atName
   let (f,first) <-holding [ov] (getMethod ov m pl)
   callWith pos f first (backTo pos (starEach (e::es) X.env)) (backToKw pos (keywordEach [] X.env))):=by rfl):
  PE X (.Call (.Attribute o m apos) (e::es) [] pos) (tE S X (.mcl c i m ca ces)):=
 (ziu ho hc hm F hr hb ha hst hpl ht).imp λσ H Q ⟨B,φ,st,ρ,rs,re,h⟩=>by
  erw[ev]at h;exact zeF (λrs1 re1 h1 n=>tAs.bind rs1 re1 h1 n) rs re h
theorem zlu{pl:Gj Bool}(hc:Cls X.K (S.cl c))(hm:Meth X.K (S.cl c) m fa)(F:yaB X.prog X.w X.K X.mg X.base (CX1 X.prog X.w) k fa fd ps (spI X.K S.cl S.call i))(hr:yao k X.A)(hb:Binds X.K fd ps [])
  (ho:PE X o (tE S X ca))
  (ht:eval (.Call (.Attribute o m apos) [] [] pos) X.env=(do
   let ov <-eval o X.env
   standAt apos.atName
   let (f,first) <-holding [ov] (getMethod ov m pl)
   callWith pos f first (backTo pos (starEach [] X.env)) (backToKw pos (keywordEach [] X.env))):=by rfl):
  PE X (.Call (.Attribute o m apos) [] [] pos) (tE S X (.mcl c i m ca .nil)):=
 (zhm ho hc hm F hr hb ht).imp λσ H Q ⟨B,φ,st,ρ,rs,re,h⟩=>by
  erw[ev]at h;refine zeF (t:=ycY) (λ{H1 φ1 st1 P kk} rs1 re1 h1 n=>?_) rs re h;erw[evs,R.bind]at h1;exact n [] H1 [] st1 φ1 .rfl rs1 re1 (by erw[ye]) h1
end
inductive yb0(w:Ai)(fa:Nat->AI):List (AR×Nat)->List CF->Prop
 |nil:yb0 w fa [] []
 |cons {k:AR} {i:Nat} {t:HV} {D:List (AR×Nat)} {es:List CF} (h:yb0 w fa D es):yb0 w fa ((k,i)::D) (⟨EC w.params k,.str k t,.ref (fa i)⟩ :: es)
def GDF(K:AE)(w:Ai)(mg:AR->Option AF)(fa:Nat->AI)(x:AR)(D:List (AR×Nat)):Prop:=
 ∃(y:AI) (es:Array CF) (ep:Nat),mg x=AA (.ref y)/\K.lookup y=AA ⟨.type "dict",AD,.dict es ep,#[]⟩/\yb0 w fa D es.toList/\(D.map (·.1)).Nodup
theorem yb0.pairs{P:A5}{w:Ai}{fa:Nat->AI}{D:List (AR×Nat)}{es:List CF}(h:yb0 w fa D es):
  ∃vs:List (AR×AF),Pairs (strKind P w) es vs/\(∀e∈es,∃k,(strKind P w).is k e.key=AB/\e.hash=(strKind P w).hash k)/\vs.map (·.1)=D.map (·.1) /\
   ∀s i,D.lookup s=AA i->valueAt vs s=AA (.ref (fa i)):=by
 induction h with
 |nil=>exact⟨[],.nil,λe he=>(by cases he),rfl,λs v e=>by cases e⟩
 |@cons k i t D es h ih=>
  let⟨vs,h1,h2,h3,h5⟩:=ih;have hat:∀s,valueAt ((k,Ah (fa i))::vs) s=if k=s then AA (.ref (fa i))else valueAt vs s:=λs=>by
   unfold valueAt;rw[Bz]
   by_cases e:k=s
   .simp[e]
   .simp[e]
  refine⟨(k,.ref (fa i))::vs,.cons (DU P w k t) rfl h1,λe he=>?_,by rw[AL,AL,h3],λs j e=>?_⟩
  .rcases A3.1 he with rfl|he
   .exact⟨k,DU P w k t,rfl⟩
   .exact h2 e he
  .rw[hat];erw[Bu]at e
   by_cases q:k=s
   .subst q;rw[beq_self_eq_true]at e
    cases e
    rw[if_pos rfl]
   .rw[beq_eq_false_iff_ne.2 (BK q)]at e;rw[if_neg q];exact h5 s j e
section
variable {S:Se}{X:Cx}{σ:St}{B:AI->Prop}{φ:Ph}{H:Hp}{st:SO}{ρ:IC.Env}{pos p p1 p2 p3 p4 p5 p6 p7:CP}{a b i e n:AU}{es:List AU}{ca cn:Ce}{ces:Ces}{x y:AR}{D:List (AR×Nat)}{ty:TE}{t:TA}{fa:Nat->AI}{fdd:Nat->BA}{ps:Nat->List AR}{k ix:Nat}
noncomputable def yc9(D:List (AR×Nat))(fa:Nat->AI)(ty:TE):TE:=λσ H Q=>ty σ H λz H2=>∃s j,z=.str s/\D.lookup s=AA j/\Q (.ref (fa j)) H2
theorem ziO(hg:Gl X x)(h:GDF X.K X.w X.mg fa x D)(hi:PE X i ty)(hs:ycL i)(hd:(x==("__debug__":AR))=false:=by decide):PE X (.Subscript (.Name x p) i pos) (yc9 D fa ty):=by
 let⟨y,es,ep,hm,hk,hr,hn⟩:=h;let⟨vs,h1,h2,h3,h5⟩:=hr.pairs (P:=X.prog);intro pins s σ H Q I q0;refine zhv EI.lookup hs (thn (zcO (v:=.ref y) hg hm rfl hd pins s σ H (λz H1=>z=.ref y/\ty σ H1 λz H2=>∃s j,z=.str s/\D.lookup s=AA j/\Q (.ref (fa j)) H2) I ⟨rfl,q0⟩) λu s1 kq=>?_);let⟨z,H1,I1,rz,ez,q1⟩:=kq;refine thn (hi pins s1 σ H1 _ I1 q1) λiv s2 kq=>?_;let⟨z2,H2,I2,rz2,sx,j,ez2,e,q2⟩:=kq;subst ez;subst ez2;obtain rfl:u=Ah y:=rz;let⟨t,rfl⟩:=rz2;have dd:s2.heap.DictOf (strKind X.prog X.w) y vs:=⟨_,es,ep,I2.kIn y _ hk,⟨rfl,rfl,rfl⟩,rfl,λe he=>h2 e (by simpa using he),h1,by rw[h3];exact hn⟩;exact⟨dd.typeIs,GQ (DU X.prog X.w sx t) dd.mapOf (h5 sx j e) ⟨.ref (fa j),H2,I2.tok _,rfl,q2⟩⟩
structure Makers(S:Se)(X:Cx)(k:Nat)(D:List (AR×Nat))(fa:Nat->AI)(fdd:Nat->BA)(ps:Nat->List AR):Prop where
 F:∀s j,D.lookup s=AA j->yaB X.prog X.w X.K X.mg X.base (CX1 X.prog X.w) k (fa j) (fdd j) (ps j) (spI X.K S.cl S.call j)
 kp:∀s j,D.lookup s=AA j->Ap X.K (.ref (fa j))=AB
 b:∀s j,D.lookup s=AA j->Binds X.K (fdd j) (ps j) []
def ycV(S:Se)(X:Cx)(D:List (AR×Nat))(fa:Nat->AI)(ix:Nat)(t:TA):TE:=λσ H Q=>∃s j,D.lookup s=AA j/\σ[ix]?=AA (AA (.ref (fa j)))/\t σ H λvs H1=>∃E:XK,spI X.K S.cl S.call j vs H1 Q E/\∀pins s e s',Inv X pins σ H1 s->CX1 X.prog X.w X.stack H1 s E e s'->X.xe e s'
theorem zit(M:Makers S X k D fa fdd ps)(hr:yao k X.A)(hN:X.N[ix]?=AA x)(hv:Vis X.env.scope x)(ha:PA X (e::es) t)
  (hd:(x==("__debug__":AR))=false:=by decide) (hcd:(x==("__classdict__":AR))=false:=by decide) (he:starEach (e::es) X.env=(AC,eval e X.env)::starEach es X.env:=by rfl) (hpl:(backTo pos (starEach es X.env)).any (·.1)=false:=by rfl):
  PE X (.Call (.Name x p) (e::es) [] pos) (ycV S X D fa ix t):=by
 intro pins s σ H Q I ⟨sx,j,hl,hs,h⟩;refine BZ (thn (zj2 hN hv hd hcd pins s σ H (λz H1=>z=.ref (fa j)/\t σ H1 λvs H1=>∃E:XK,spI X.K S.cl S.call j vs H1 Q E/\∀pins s e s',Inv X pins σ H1 s->CX1 X.prog X.w X.stack H1 s E e s'->X.xe e s') I ⟨_,hs,rfl,h⟩) λu s1 kq=>?_);let⟨z,H1,I1,rz,ez,q1⟩:=kq;subst ez;obtain rfl:u=Ah (fa j):=rz;refine DB (h₀:=X.base) I.ok.mod.kin (M.kp sx j hl) (thn (ha pos pins s1 σ H1 _ I1 q1) λus s2 kq=>?_) he hpl;let⟨vs,H2,I2,r,E,q,hx⟩:=kq;refine ⟨I2.kIn,?_⟩;exact zc2 (M.F sx j hl) hr (M.b sx j hl) .nil I2 r (by rw[Ax];exact q) λe s' c=>hx pins s2 e s' I2 c
theorem yG.hole{K:AE}{cl:Nat->AI}{v:V}(re:yG K cl B φ H ρ σ):yG K cl B φ H (ρ.set ix AD) (σ.set ix (AA v)):=by
 refine⟨by simp[re.len],λj w e=>?_⟩
 by_cases q:ix=j
 .subst q
  by_cases hj:ix<ρ.length
  .rw[A6 hj]at e;cases e
  .rw[BV (by simp;lia)]at e;cases e
 .rw[AO q]at e ⊢;exact re.get j w e
theorem zio{v:PV}{j:Nat}{b:Bool}(h:mkV D b v=AA j):∃s,v=.str s/\D.lookup s=AA j/\b=true:=by
 cases v with
 |str s=>
  cases b with
  |true=>exact⟨s,rfl,h,rfl⟩
  |false=>cases h
 |_=>cases h
theorem zmt(M:Makers S X k D fa fdd ps)(hr:yao k X.A)(hN:X.N.Nodup)(hi:X.N[ix]?=AA x)(hx:Loc X.env.scope x)(hv:Vis X.env.scope x)(hg:Gl X y)(hd:GDF X.K X.w X.mg fa y D)(hn:PE X n (tE S X cn))(ha:PA X (e::es) (tAs S X ces))
  (hs:ycL n:=by exact λ_ _=>rfl) (hsw:swapsWith (.Subscript (.Name y p2) n p3) (AA (.Name x p1)) p4.line X.env=pure false:=by rfl) (hf:X.fn x=AB \/ X.env.scope.names.lookup x=AA .local:=by first|exact .inl rfl|exact .inr rfl|assumption)
  (hyd:(y==("__debug__":AR))=false:=by decide) (hxd:(x==("__debug__":AR))=false:=by decide) (hcd:(x==("__classdict__":AR))=false:=by decide) (he:starEach (e::es) X.env=(AC,eval e X.env)::starEach es X.env:=by rfl) (hpl:(backTo p6 (starEach es X.env)).any (·.1)=false:=by rfl):
  PSs X [.Assign [.Name x p1] (.Subscript (.Name y p2) n p3) p4,.Return (AA (.Call (.Name x p5) (e::es) [] p6)) p7] (tSs S X (.cons (.mkr ix D cn ces) .nil)):=
 (zfp (zj4 hN hi hx (ziO hg hd hn hs hyd) hsw hf) (zlm (zkc (zit M hr hi hv ha hxd hcd he hpl)))).imp λD' σ H ⟨B,φ,st,ρ,rs,re,h⟩=>by
  have h:yaw S X B φ H (ex S.call ρ st (.mkr ix D cn ces)) D':=by
   erw[exs]at h
   cases q:ex S.call ρ st (.mkr ix D cn ces)with
   |nx ρ' s'=>
    exfalso;erw[ex]at q
    cases q1:ev S.call ρ st cn with
    |ok v1 s1=>
     rw[q1]at q;erw[R.fl]at q;split at q
     .rename_i j _
      cases q2:(evs S.call (ρ.set ix AD) s1 ces).bind λvs st2=>S.call j vs st2 with
      |ok v2 s2=>rw[q2]at q;cases q
      |exc c s2=>rw[q2]at q;cases q
      |bad=>rw[q2]at q;cases q
     .cases q
    |exc c s1=>rw[q1]at q;cases q
    |bad=>rw[q1]at q;cases q
   |rt v s'=>rw[q]at h;exact h
   |bk ρ' s'=>rw[q]at h;exact h
   |ct ρ' s'=>rw[q]at h;exact h
   |exc c ρ' s'=>rw[q]at h;exact h
   |bad=>rw[q]at h;exact h
  erw[ex]at h;refine tE.fl rs re h λx' H1 v st1 φ1 s1 rs1 re1 rv h1=>?_
  cases q:mkV D (decide (ix<ρ.length)) v with
  |none=>rw[q]at h1;exact h1.elim
  |some j=>
   rw[q]at h1;let⟨sx,rfl,hl,hb⟩:=zio q;erw[yd]at rv;subst rv;have hlen:ix<σ.length:=by
    rw[<-re1.len];exact of_decide_eq_true hb
   refine⟨sx,j,rfl,hl,sx,j,hl,by rw[A6 hlen],B,φ1,st1,ρ.set ix AD,rs1,re1.hole,?_⟩;dsimp only at h1
   cases q2:evs S.call (ρ.set ix AD) st1 ces with
   |bad=>rw[q2]at h1;exact h1
   |exc c s2=>rw[q2]at h1;exact λe s' z=>h1 _ φ1 H1 e s' .rfl re1.hole z
   |ok vs st2=>
    rw[q2]at h1;intro xs H2 φ2 s2 rs2 rl;have h2:yaw S X B φ1 H1 ((S.call j vs st2).fl (ρ.set ix AD) λv st3=>.rt v st3) D':=h1;refine zaR rs2 rl ?_
    cases q3:S.call j vs st2 with
    |bad=>rw[q3]at h2;exact h2
    |ok v st3=>rw[q3]at h2;exact λx H' φ' s' rs' rv=>h2 x H' φ' (s2.trans s') rs' rv
    |exc c st3=>rw[q3]at h2;exact λe s' z=>h2 _ φ2 H2 e s' s2 (re1.hole.step s2) z
end
section
variable {P:A5}{w:Ai}{K:AE}{mg:AR->Option AF}{base:Az}{cl:Nat->AI}{T:Nat->Option IC.Fn}{fi:Nat}{fn:IC.Fn}{x qual:AR}{stm:Bt}{f:AI}{fd:BA}{N ps:List AR}{k m:Nat}
theorem zjc:yaB P w K mg base (CX1 P w) m f fd ps (spI K cl (yc T 0) fi):=
 ⟨λvs H Q E ⟨_,_,_,_,_,_,h⟩=>by rw[yc]at h;exact h.elim,λA outer s H args us vs Q E _ _ _ _ ⟨_,_,_,_,_,_,h⟩=>by rw[yc]at h;exact h.elim⟩
end
theorem yc8.units{k:Nat}{A:Ao}(r:yc8 k A):A.units+64<cLine:=by have:=r.un;lia
section
variable {P:A5}{w:Ai}{K:AE}{mg:AR->Option AF}{base:Az}{cl:Nat->AI}{T:Nat->Option IC.Fn}{fi:Nat}{fn:IC.Fn}{x qual:AR}{stm:Bt}{f:AI}{fd:BA}{N ps:List AR}{k m:Nat}
end
section
variable {S:Se}{X:Cx}{σ:St}{B:AI->Prop}{φ:Ph}{H:Hp}{st:SO}{ρ:IC.Env}{p pos:CP}{e:AU}{es:List AU}{ces:Ces}{fi k:Nat}{x:AR}{f:AI}{fd:BA}{ps:List AR}
end
end L2
namespace L2
open PySem IC
section
variable {S:Se}{X:Cx}{σ:St}{B:AI->Prop}{φ φ1:Ph}{H H1:Hp}{st:SO}{ρ:IC.Env}{p pos p2 px py pt pt2:CP}{a b c d o a' b' c' d':AU}{ca cb cc cd ce cf:Ce}{pins:List (AI×CA)}{s:AJ}{kt k2:Nat}{es:List AU}{ces:Ces}{x:AR}
end
end L2
namespace L2
open PySem PySem.Spec PyProof.Rows
section
variable {X:Cx}
end
end L2
namespace L2
open PySem PySem.Spec PyProof.Rows IC
section
variable {S:Se}{X:Cx}{σ:St}{B:AI->Prop}{φ φ1:Ph}{H H1:Hp}{st:SO}{ρ:IC.Env}{p pos p2 apos:CP}{a b c d:AU}{ca cb cc:Ce}{es:List AU}{ces:Ces}{K:AE}{cl:Nat->AI}
end
section
variable {S:Se}{X:Cx}{a b:AU}{c i:Nat}{j:Int}{f:AR}{pos tpos:CP}
theorem zns(hc:Cls X.K (S.cl c))(hn:yam X.K (S.cl c) f)(ha:PE X a (tE S X (.var i)))(hv:PE X b (tE S X (.cst (.int j)))):
  PS X (.AugAssign (.Attribute a f tpos) .Add b pos) (tS S X (.sfl c (.var i) f (.bin .add (.fld c (.var i) f) (.cst (.int j))))):=
 (zhK ha hv zn4).imp λD σ H ⟨B,φ,st,ρ,rs,re,h⟩=>by
  erw[ex,ev]at h
  cases q:ρ[i]? with
  |none=>rw[q]at h;exact h.elim
  |some o=>
   cases o with
   |none=>rw[q]at h;exact h.elim
   |some x=>
    rw[q]at h;dsimp only[R.bind]at h;refine⟨B,φ,st,ρ,rs,re,?_⟩;erw[ev,q];intro x' H1 φ1 s1 rs1 rx;have re1:=re.step s1;have h:=yaw.on s1 h
    cases e:yaV c st x f with
    |none=>rw[e]at h;exact h.elim
    |some v=>
     rw[e]at h;let⟨n,fs,rfl,hn',l⟩:=zfo e;let⟨y,ks,dx,rfl,hp,hy,lr⟩:=rs1.ins rx hn';let⟨x,hx,rxv⟩:=lr.lookup.1 v l;refine⟨y,S.cl c,dx,ks,x,rfl,hy,hc,hn,hx,⟨B,φ1,st,ρ,rs1,re1,?_⟩⟩;erw[ev];intro y' H2 φ2 s2 rs2 ry;erw[yd]at ry;subst ry
     cases v with
     |int k=>
      erw[yd]at rxv;subst rxv;refine⟨k,j,rfl,rfl,?_⟩;have h:yaw S X B φ1 H1 (match yaT c st (.loc n) f (.int (k+j))with|some st3=>Fl.nx ρ st3|none=>Fl.bad) D:=h;have h:=yaw.on s2 h;have rx2:=rx.step s2;let⟨y2,ks2,dx2,e2,hp2,hy2,lr2⟩:=rs2.ins rx2 hn'
      cases e2
      cases e3:yaT c st (.loc n) f (.int (k+j))with
      |none=>rw[e3]at h;exact h.elim
      |some st4=>
       rw[e3]at h;let⟨n',fs',z,hn2,hl,rfl⟩:=zfI e3
       cases z
       rw[hn']at hn2
       cases hn2
       refine⟨dx2,ks2,hy2,by rw[<-lr2.len];exact hl,?_⟩;have s4:Step φ2 H2 φ2 (L2.upd H2 y (.ins (S.cl c) dx2 (yaY f (.int (k+j)) ks2))):=.put (A2 hp2);exact h σ _ φ2 s4 (rs2.put (o:=.ins c (ybD f (.int (k+j)) fs)) hp2 ⟨_,⟨dx2,zq⟩,(FS.put (by erw[yd]) lr2).step s4⟩) ((re1.step s2).step s4)
     |_=>exact h.elim
end
end L2
namespace HT
open PySem PySem.Spec PyProof.Rows
section
variable {prog:A5}{w:Ai}{A:Ao}{E:AF->AJ->Prop}{s:AJ}
end
end HT
namespace L2
open PySem PySem.Spec PyProof.Rows IC
section
variable {S:Se}{X:Cx}{pos p2:CP}{e e3:AU}{te t3:TE}{a:AU}{ca c3:Ce}
theorem ye.reverse{K:AE}{cl:Nat->AI}{B:AI->Prop}{φ:Ph}{H:Hp}:∀{vs:List PV} {xs:List V},ye K cl B φ H vs xs->ye K cl B φ H vs.reverse xs.reverse
 |[],xs,h=>by
  erw[ye]at h;subst h;erw[List.reverse_nil,ye]
 |v::vs,xs,h=>by
  erw[ye]at h;let⟨y,ys,rfl,r,l⟩:=h;rw[DG,DG];exact(ye.reverse l).append (by erw[ye];exact⟨y,[],rfl,r,rfl⟩)
end
section
variable {X:Cx}{prog:A5}{w:Ai}{A:Ao}{E:AF->AJ->Prop}{s:AJ}
theorem zaF:typeLookup (Ed "tuple") (dunderI "add")=pure none:=rfl
theorem zi9{t b:AI}{vs ws:List AF}{Q:AF->AJ->Prop}(ht:G5 s.heap t vs.toArray)(hb:G5 s.heap b ws.toArray)
  (h0:vs=[]->Q (.ref b) s) (h1:vs≠[]->ws=[]->Q (.ref t) s)
  (h2:vs≠[]->ws≠[]->Q (.ref s.heap.objs.size) {s with heap:=s.heap.push {cls:=.type "tuple",data:=.seq (vs++ws).toArray} })
  (hsz:vs.length+ws.length<=sizeLine):A1 (model prog w) A (inplaceOp .Add (.ref t) (.ref b)) Q E s:=by
 let⟨⟨cls,dd,data,sl⟩,ho,hc,n,hd⟩:=id ht;let⟨⟨cls2,dd2,data2,sl2⟩,ho2,hc2,n2,hd2⟩:=id hb;simp only at hc hd hc2 hd2;subst hc hd hc2 hd2;have e:vs.toArray++ws.toArray=(vs++ws).toArray:=by simp
 by_cases hv:vs=[]
 .exact DL ⟨_,ho,rfl⟩ ⟨_,ho2,rfl⟩ zaF C4 Cw (F8 Bo ⟨_,ho,rfl⟩ Bf (Ba _ _)
   (tuple_addW0 t b vs.toArray ws.toArray n n2 dd dd2 sl sl2 (by simp[hv])) ⟨ho,ho2,h0 hv⟩)
 .by_cases hw:ws=[]
  .exact DL ⟨_,ho,rfl⟩ ⟨_,ho2,rfl⟩ zaF C4 Cw (F8 Bo ⟨_,ho,rfl⟩ Bf (Ba _ _)
    (tuple_addW1 t b vs.toArray ws.toArray n n2 dd dd2 sl sl2 (by simpa using hv) (by simp[hw])) ⟨ho,ho2,h1 hv hw⟩)
  .refine DL ⟨_,ho,rfl⟩ ⟨_,ho2,rfl⟩ zaF C4 Cw (F8 Bo ⟨_,ho,rfl⟩ Bf (Ba _ _)
    (tuple_addW2 t b vs.toArray ws.toArray n n2 dd dd2 sl sl2 (by simpa using hv) (by simpa using hw) (by rw[AX,AX];exact hsz)) ⟨ho,ho2,?_⟩)
   rw[e];exact h2 hv hw
end
section
variable {S:Se}{X:Cx}{pos px:CP}{a:AU}{ca:Ce}
def yeV(x y:PV):Option PV:=match x with
 |.tp k xs=>yq .add (.tp k xs) y
 |_=>AD
theorem zkz:PIp X .Add (rT2 S X yeV):=by
 rintro pins s σ H x y v u Q I rx ry ⟨B,φ,st,a,b,z,rs,ra,rb,e,q⟩
 unfold yeV at e;split at e
 .rename_i k1 vs
  cases b with
  |tp k2 ws=>
   unfold yq at e;erw[yd]at ra rb;let⟨p,xs,rfl,r1,l1⟩:=ra;let⟨p',ys,rfl,r2,l2⟩:=rb;dsimp only at e;split at e
   .rename_i c
    cases e
    have n1:=l1.length;have n2:=l2.length
    cases rx
    cases ry
    let⟨its,t1,p1,_⟩:=I.tuple r1.sq;let⟨its2,t2,p2,_⟩:=I.tuple r2.sq;have hz:xs.length+ys.length<=sizeLine:=by rw[<-zA];lia
    have ht:=I.hok.fresh (AT s.heap.objs.size);have vn:its=[] ↔ vs=[]:=by rw[t1.nil_iff];constructor<;>(intro h;apply D3;rw[h,Am]at n1;lia)
    have wn:its2=[] ↔ ws=[]:=by rw[t2.nil_iff];constructor<;>(intro h;apply D3;rw[h,Am]at n2;lia)
    unfold ydS at q;refine zi9 p1 p2 (λz=>?_) (λz1 z2=>?_) (λz1 z2=>?_) (by rw[<-t1.length,<-t2.length];exact hz)
    .rw[vn.mp z]at q;erw[Ea,if_true]at q;exact⟨.ref p',H,I,rfl,q _ H φ .rfl rs (by erw[yd];exact⟨p',ys,rfl,r2,l2⟩)⟩
    .rw[if_neg (by rw[DV];exact λh=>z1 (vn.mpr h)),if_pos (by rw[DV];exact wn.mp z2)]at q;exact⟨.ref p,H,I,rfl,q _ H φ .rfl rs (by erw[yd];exact⟨p,xs,rfl,r1,l1⟩)⟩
    .rw[if_neg (by rw[DV];exact λh=>z1 (vn.mpr h)),if_neg (by rw[DV];exact λh=>z2 (wn.mpr h))]at q;refine⟨.ref s.heap.objs.size,_,I.laid (t':=s.toks) (o:=.tup (xs++ys)) (λb ob q=>AQ _ q) (AT _) ?_,rfl,q _ _ φ (.upd ht) (rs.upd ht) (.tup_new ht rs (l1.append l2))⟩;exact⟨by rw[A9];exact hz,_,t1.append t2,FM _ _⟩
   .cases e
  |_=>cases e
 .cases e
theorem zkB{α β:Type}(r:R α)(f:α->SO->R β)(ρ:IC.Env)(g:β->SO->Fl):(r.bind f).fl ρ g=r.fl ρ λv s=>(f v s).fl ρ g:=by cases r<;>rfl
theorem zko{i:Nat}{x:AR}(hN:X.N.Nodup)(hi:X.N[i]?=AA x)(hx:Loc X.env.scope x)(he:PE X a (tE S X ca))
  (hf:X.fn x=AB \/ X.env.scope.names.lookup x=AA .local:=by first|exact .inl rfl|exact .inr rfl|assumption) (hd:(x==("__debug__":AR))=false:=by decide) (hcd:(x==("__classdict__":AR))=false:=by decide):PS X (.AugAssign (.Name x px) .Add a pos) (tS S X (.asg (.n i) (.ite (.isi (.var i) [.tuple]) (.bin .add (.var i) ca) .nope))):=
 (zjK hN hi hx he zkz hf).imp λD σ H ⟨B,φ,st,ρ,rs,re,h⟩=>by
  erw[ex,ev]at h
  cases q:ρ[i]? with
  |none=>rw[q]at h;exact h.elim
  |some w=>
   cases w with
   |none=>rw[q]at h;exact h.elim
   |some w=>
    rw[q]at h;let⟨y,hy,rw⟩:=re.get i w q
    cases w with
    |tp k xs=>
     replace h:yaw S X B φ H ((ev S.call ρ st ca).fl ρ λv st1=>(toR (yq .add (.tp k xs) v) st1).fl ρ λv st1=>match yC (.n i) v ρ with
      |some ρ1=>Fl.nx ρ1 st1
      |none=>Fl.bad) D:=by rw[<-zkB];exact h
     refine⟨y,hy,tE.fl rs re h λz H1 v st1 φ1 s rs1 re1 rv h1=>?_⟩
     cases e:yq .add (.tp k xs) v with
     |none=>rw[e]at h1;exact h1.elim
     |some u=>
      rw[e]at h1;exact⟨B,φ1,st1,.tp k xs,v,u,rs1,rw.step s,rv,e,λz' H' φ' s' rs' rz=>h1 _ H' φ' s' rs' ((re1.step s').set i rz)⟩
    |_=>exact h.elim
end
end L2
namespace L2
open PySem PySem.Spec PyProof.Rows IC WK
inductive GK where
 |fn (i:Nat)|fnD (i:Nat)|cst (v:PV)|dct (D:List (AR×PV))|exc (c:Nat)|cls (c i:Nat)
structure Gs where
 g:AR->Option GK
 b:AR->Bool
 t:Ty->Bool
 fl:Nat->AR->Bool
 me:Nat->AR->Option Nat
 kb:Nat->Nat->List AR->Option (List (Option Int))
 mr:AR->Option (List (AR×Nat))
structure Kx where
 N:List AR
 sc:Bl
 own:Bool
def Fo(m:Nat)(S:Se)(X:Cx)(i:Nat)(f:AI)(fd:BA)(ps:List AR):Prop:=yaB X.prog X.w X.K X.mg X.base (CX1 X.prog X.w) m f fd ps (spI X.K S.cl S.call i)
structure Glo(γ:Gs)(m:Nat)(S:Se)(X:Cx):Prop where
 F:∀x i,γ.g x=AA (.fn i)->∃f fd ps,Fo m S X i f fd ps/\X.mg x=AA (.ref f)/\Ap X.K (.ref f)=AB/\Binds X.K fd ps []
 Q:∀x i np ks sh,γ.g x=AA (.fnD i)->γ.kb i np ks=AA sh->∃f fd ps,Fo m S X i f fd ps/\X.mg x=AA (.ref f)/\Ap X.K (.ref f)=AB/\∃g,ybC X.K fd ps ks g (gK np sh)
 C:∀x v,γ.g x=AA (.cst v)->GC X.K X.mg S.cl x v \/ ∃i,v=.int i/\GCI X.mg x i
 D:∀x d,γ.g x=AA (.dct d)->GD X.K X.w X.mg S.cl x d
 E:∀x c,γ.g x=AA (.exc c)->ycT X.K X.mg (S.cl c) x
 N:∀x c i,γ.g x=AA (.cls c i)->X.mg x=AA (.ref (S.cl c))/\∃f fd ps,Mk X.K (S.cl c) f/\Fo m S X i f fd ps/\Binds X.K fd ps []
 B:∀x,γ.b x=AB->X.mg x=AD
 T:∀t,γ.t t=AB->yea X.K t
 A:∀c f,γ.fl c f=AB->Cls X.K (S.cl c)/\yam X.K (S.cl c) f
 M:∀c n i,γ.me c n=AA i->Cls X.K (S.cl c)/\∃f fd ps,Meth X.K (S.cl c) n f/\Fo m S X i f fd ps/\Binds X.K fd ps []
 K:∀y D,γ.mr y=AA D->∃fa fdd ps,Makers S X m D fa fdd ps/\GDF X.K X.w X.mg fa y D
structure Good(γ:Gs)(κ:Kx)(m:Nat)(S:Se)(X:Cx):Prop where
 n:X.N=κ.N
 sc:X.env.scope=κ.sc
 calm:X.calm=AB
 room:yao (m+1) X.A
 own:κ.own=AB->EX (model X.prog X.w) X.A X.env X.xe/\(∀x,X.fn x=AB)/\S.may=AB
 glo:Glo γ m S X
noncomputable abbrev Pr(P:Prop):Type:=Option (PLift P)
abbrev YE(γ:Gs)(κ:Kx)(e:AU)(c:Ce):Prop:=∀m S X,Good γ κ m S X->PE X e (tE S X c)
abbrev YT(γ:Gs)(κ:Kx)(e:AU)(c:Ce):Prop:=∀m S X,Good γ κ m S X->PT X e (tTs S X c)
abbrev YW(γ:Gs)(κ:Kx)(e:AU)(c:Ce):Prop:=∀m S X,Good γ κ m S X->PW X e (tTs S X c)
abbrev YA(γ:Gs)(κ:Kx)(e:List AU)(c:Ces):Prop:=∀m S X,Good γ κ m S X->PA X e (tAs S X c)
abbrev YO(γ:Gs)(κ:Kx)(e:Option AU)(c:Ce):Prop:=∀m S X,Good γ κ m S X->PO X e (tO S X c)
abbrev YS(γ:Gs)(κ:Kx)(s:Bt)(c:Cs):Prop:=∀m S X,Good γ κ m S X->PS X s (tS S X c)
abbrev YSs(γ:Gs)(κ:Kx)(s:List Bt)(c:Css):Prop:=∀m S X,Good γ κ m S X->PSs X s (tSs S X c)
noncomputable def an{P Q:Prop}(a:Pr P)(k:P->Pr Q):Pr Q:=match a with
 |some h=>k h.down
 |none=>AD
noncomputable def ok{P:Prop}(h:P):Pr P:=AA ⟨h⟩
noncomputable def ask(p:Prop)[Decidable p]:Pr p:=if h:p then AA ⟨h⟩else AD
noncomputable def nst:AU->Bool
 |.Starred _ _=>AC
 |_=>AB
theorem yab{a:AU}{es:List AU}{env:BY}(h:nst a=AB):starEach (a::es) env=(AC,eval a env)::starEach es env:=by
 cases a<;>first|rfl|cases h
def ybM(es:List AU):Bool:=es.all nst
theorem stars{pos:CP}{env:BY}:∀{es:List AU},ybM es=AB->(backTo pos (starEach es env)).any (·.1)=AC
 |[],_=>rfl
 |a::es,h=>by
  erw[ybM,Bb,AK]at h;rw[yab h.1];have:=stars (pos:=pos) (env:=env) (es:=es) h.2;simpa [backTo] using this
noncomputable def nco:AU->Bool
 |.ListComp ..=>AC
 |.SetComp ..=>AC
 |.DictComp ..=>AC
 |_=>AB
theorem swp{a:AU}{t:Option AU}{l:Nat}{env:BY}(h:nco a=AB):swapsWith a t l env=pure false:=by
 cases a<;>first|rfl|cases h
noncomputable def nse:AU->Bool
 |.Set ..=>AC
 |_=>AB
theorem fse{a:AU}{env:BY}(h:nse a=AB):∀x,foldedSetIterable a env x=pure x:=by
 cases a<;>first|exact λ_=>rfl|cases h
theorem nmk{op:FX}{a:AU}(h:nse a=AB):behindInMarks op a=false:=by
 cases a<;>first|rfl|cases h
noncomputable def nsl:AU->Bool
 |.Slice ..=>AC
 |_=>AB
theorem pix{a:AU}(h:nsl a=AB):ybt a:=by
 cases a<;>first|exact λ_ _=>rfl|cases h
theorem nos{a:AU}(h:nsl a=AB):ycL a:=pix h
noncomputable def ntu:AU->Bool
 |.Tuple ..=>AC
 |_=>AB
noncomputable def nte:AU->Bool
 |.UnaryOp ..=>AC
 |.BoolOp ..=>AC
 |.IfExp ..=>AC
 |.Compare ..=>AC
 |_=>AB
theorem itr{a:AU}{env:BY}(h:nte a=AB):∀whole,isTrue a env whole=(do let v <-whole;standAt a.pos;holding [v] (truthy v)):=by
 cases a<;>first|exact λ_=>rfl|cases h
noncomputable def nca:AU->Bool
 |.Call ..=>AC
 |_=>AB
theorem ydI{a:AU}{f:AR}{env:BY}{w:Gj AF}(h:nca a=AB):attributeBase a f env w=w:=by
 cases a<;>first|rfl|cases h
def mOp(op:D1)(o:BOp):Pr (∀S X,OpR X (binaryOp op) (rT2 S X (yq o))):=
 match op,o with
 |.Add,.add=>ok (λ_ _=>zma)
 |.Sub,.sub=>ok (λ_ _=>zmx)
 |.Mult,.mul=>ok (λ_ _=>znK)
 |.FloorDiv,.fdiv=>ok (λ_ _=>zlN)
 |.Mod,.mod=>ok (λ_ _=>zn8)
 |.Pow,.pow=>ok (λ_ _=>zmO)
 |.LShift,.shl=>ok (λ_ _=>zmG)
 |.RShift,.shr=>ok (λ_ _=>zmk)
 |.BitAnd,.band=>ok (λ_ _=>zlS)
 |.BitOr,.bor=>ok (λ_ _=>zmy)
 |.BitXor,.bxor=>ok (λ_ _=>zle)
 |_,_=>AD
def mCm(op:FX)(o:COp):Pr (∀m S X,yao m X.A->OpR X (compareOp op) (rT2 S X (yw o))):=
 match op,o with
 |.Eq,.eq=>ok (λ_ _ _ r=>zol r.units)
 |.NotEq,.ne=>ok (λ_ _ _ r=>zoM r.units)
 |.Lt,.lt=>ok (λ_ _ _ _=>zoC)
 |.LtE,.le=>ok (λ_ _ _ _=>zoL)
 |.Gt,.gt=>ok (λ_ _ _ _=>zoJ)
 |.GtE,.ge=>ok (λ_ _ _ _=>zog)
 |.In,.isin=>ok (λ_ _ _ _=>zoU)
 |_,_=>AD
noncomputable def ydy(sc:Bl)(x:AR):Bool:=match sc.names.lookup x with
 |some .local=>AB
 |some .cell=>AB
 |some .free=>AB
 |_=>AC
theorem zh0{sc:Bl}{x:AR}(h:ydy sc x=AB):Vis sc x:=by
 unfold ydy at h;split at h
 .exact .inl ‹_›
 .exact .inr (.inl ‹_›)
 .exact .inr (.inr ‹_›)
 .cases h
noncomputable def ydG(sc:Bl)(x:AR):Bool:=match sc.names.lookup x with
 |some .local=>AB
 |some .cell=>AB
 |_=>AC
theorem zhh{sc:Bl}{x:AR}(h:ydG sc x=AB):Loc sc x:=by
 unfold ydG at h;split at h
 .exact .inl ‹_›
 .exact .inr ‹_›
 .cases h
noncomputable def pln(x:AR):Bool:=!(x==("__debug__":AR))&&!(x==("__classdict__":AR))&&!(x==("__name__":AR))
theorem ybh{x:AR}(h:pln x=AB):(x==("__debug__":AR))=false:=by
 erw[pln,AK,Ci]at h;exact h.1.1
theorem ydw{x:AR}(h:pln x=AB):(x==("__classdict__":AR))=false:=by
 erw[pln,AK,Ci]at h;exact h.1.2
theorem yd8{x:AR}(h:pln x=AB):x ≠ "__name__":=by
 erw[pln,AK,Ci]at h;intro e;rw[e]at h;exact absurd h.2 (by decide)
def glB(κ:Kx)(x:AR):Bool:=decide (κ.sc.names.lookup x=AA .globalImplicit)&&pln x
theorem zae{γ:Gs}{κ:Kx}{m:Nat}{S:Se}{X:Cx}(G:Good γ κ m S X){x:AR}(h:glB κ x=AB):Gl X x:=by
 erw[glB,AK,decide_eq_true_eq]at h;show X.env.scope.names.lookup x=_;rw[G.sc];exact h.1
theorem zbm{κ:Kx}{x:AR}(h:glB κ x=AB):pln x=true:=by
 erw[glB,AK]at h;exact h.2
def setB(κ:Kx)(i:Nat)(x:AR):Bool:=decide (κ.N[i]?=AA x)&&decide κ.N.Nodup&&ydG κ.sc x&&(κ.own || decide (κ.sc.names.lookup x=AA .local))&&pln x
structure yeo(X:Cx)(i:Nat)(x:AR):Prop where
 d:X.N.Nodup
 i:X.N[i]?=AA x
 l:Loc X.env.scope x
 f:X.fn x=AB \/ X.env.scope.names.lookup x=AA .local
 p:pln x=AB
theorem zaK{γ:Gs}{κ:Kx}{m:Nat}{S:Se}{X:Cx}(G:Good γ κ m S X){i:Nat}{x:AR}(h:setB κ i x=AB):yeo X i x:=by
 erw[setB,AK,DA,decide_eq_true_eq]at h;let⟨⟨⟨⟨h1,h2⟩,h3⟩,h4⟩,h5⟩:=h;refine⟨by rw[G.n];exact h2,by rw[G.n];exact h1,by rw[G.sc];exact zhh h3,?_,h5⟩;rcases h4 with h4|h4
 .exact .inl ((G.own h4).2.1 x)
 .exact .inr (by rw[G.sc];exact h4)
noncomputable def gFn(γ:Gs)(x:AR)(i:Nat):Pr (γ.g x=AA (.fn i)):=match h:γ.g x with
 |some (.fn j)=>if e:j=i then AA ⟨by subst e;rfl⟩else AD
 |_=>AD
section
variable {γ:Gs}{κ:Kx}{ca cb cc:Ce}{ces:Ces}
def yeG(v:PV)(e:AU):Pr (YE γ κ e (.cst v)):=
 match e with
 |.Constant (.int i) _ _=>match v with
  |.int j=>an (ask (i=j)) λh=>ok (λ_ _ _ _=>by cases h;exact zjP)
  |_=>AD
 |.Constant (.bool i) _ _=>match v with
  |.bl j=>an (ask (i=j)) λh=>ok (λ_ _ _ _=>by cases h;exact zoh)
  |_=>AD
 |.Constant .none _ _=>match v with
  |.non=>ok (λ_ _ _ _=>zmM)
  |_=>AD
 |.Constant (.str i) _ _=>match v with
  |.str j=>an (ask (i=j)) λh=>ok (λ_ _ _ _=>by cases h;exact zm6)
  |_=>AD
 |_=>AD
def yeM(i:Nat)(e:AU):Pr (YE γ κ e (.var i)):=
 match e with
 |.Name x _=>an (ask (κ.N[i]?=AA x/\ydy κ.sc x=AB/\pln x=AB)) λh=>ok (λ_ _ _ G=>znR (by rw[G.n];exact h.1) (by rw[G.sc];exact zh0 h.2.1) (ybh h.2.2) (ydw h.2.2))
 |_=>AD
def ygQ(o:BOp)(e:AU)(fa:∀x,Pr (YE γ κ x ca))(fb:∀x,Pr (YE γ κ x cb)):Pr (YE γ κ e (.bin o ca cb)):=
 match e with
 |.BinOp a op b _=>
  an (mOp op o) λho=>an (fa a) λha=>an (fb b) λhb=>ok (λm S X G=>zl5 (ho S X) (ha m S X G) (hb m S X G))
 |_=>AD
def ygK(e:AU)(fa:∀x,Pr (YE γ κ x ca)):Pr (YE γ κ e (.neg ca)):=
 match e with
 |.UnaryOp .USub a _=>
  an (fa a) λha=>ok (λm S X G=>zjN (ha m S X G))
 |_=>AD
def ygl(e:AU)(fa:∀x,Pr (YE γ κ x ca)):Pr (YE γ κ e (.not ca)):=
 match e with
 |.UnaryOp .Not a _=>
  an (fa a) λha=>ok (λm S X G=>zm3 (ha m S X G))
 |_=>AD
def ygs(o:COp)(e:AU)(fa:∀x,Pr (YE γ κ x ca))(fb:∀x,Pr (YE γ κ x cb)):Pr (YE γ κ e (.cmp o ca cb)):=
 match e with
 |.Compare a [op] [b] _=>
  an (mCm op o) λho=>an (ask (nse b=AB)) λhs=>an (fa a) λha=>an (fb b) λhb=>ok (λm S X G=>zm2 (ho _ S X G.room) (ha m S X G) (hb m S X G) (nmk hs))
 |_=>AD
def yeB(o:COp)(e:AU)(fa:∀x,Pr (YE γ κ x ca))(fb:∀x,Pr (YE γ κ x cb)):Pr (YT γ κ e (.cmp o ca cb)):=
 match e with
 |.Compare a [op] [b] _=>
  an (mCm op o) λho=>an (ask (nse b=AB)) λhs=>an (fa a) λha=>an (fb b) λhb=>ok (λm S X G=>zmc (ho _ S X G.room) (ha m S X G) (hb m S X G) (nmk hs))
 |_=>AD
theorem lmk{op op':FX}{b c:AU}(h:nse c=AB):lastMarks [op,op'] [b,c]=false:=nmk h
def ygw(o p:COp)(e:AU)(fa:∀x,Pr (YE γ κ x ca))(fb:∀x,Pr (YE γ κ x cb))(fc:∀x,Pr (YE γ κ x cc)):Pr (YE γ κ e (.chain o p ca cb cc)):=
 match e with
 |.Compare a [op,op'] [b,c] _=>
  an (mCm op o) λho=>an (mCm op' p) λhp=>an (ask (nse c=AB)) λhs=>an (fa a) λha=>an (fb b) λhb=>an (fc c) λhc=>ok (λm S X G=>zi3 (ho _ S X G.room) (hp _ S X G.room) (ha m S X G) (hb m S X G) (hc m S X G) (lmk hs))
 |_=>AD
def yeu(o p:COp)(e:AU)(fa:∀x,Pr (YE γ κ x ca))(fb:∀x,Pr (YE γ κ x cb))(fc:∀x,Pr (YE γ κ x cc)):Pr (YT γ κ e (.chain o p ca cb cc)):=
 match e with
 |.Compare a [op,op'] [b,c] _=>
  an (mCm op o) λho=>an (mCm op' p) λhp=>an (ask (nse c=AB)) λhs=>an (fa a) λha=>an (fb b) λhb=>an (fc c) λhc=>ok (λm S X G=>ziv (ho _ S X G.room) (hp _ S X G.room) (ha m S X G) (hb m S X G) (hc m S X G) (lmk hs))
 |_=>AD
def ygx(e:AU)(fc:∀x,Pr (YT γ κ x cc))(fa:∀x,Pr (YE γ κ x ca))(fb:∀x,Pr (YE γ κ x cb)):Pr (YE γ κ e (.ite cc ca cb)):=
 match e with
 |.IfExp c a b _=>
  an (fc c) λhc=>an (fa a) λha=>an (fb b) λhb=>ok (λm S X G=>zmY (hc m S X G) (ha m S X G) (hb m S X G))
 |_=>AD
def ygd(e:AU)(fa:∀x,Pr (YA γ κ x ces)):Pr (YE γ κ e (.tup ces)):=
 match e with
 |.Tuple es _ _=>
  an (fa es) λha=>ok (λm S X G=>zni (ha m S X G))
 |_=>AD
def yfk(e:AU)(fa:∀x,Pr (YA γ κ x ces)):Pr (YE γ κ e (.lst ces)):=
 match e with
 |.List es _=>
  an (fa es) λha=>ok (λm S X G=>zmn (ha m S X G))
 |_=>AD
def ydQ(e:AU)(fa:∀x,Pr (YA γ κ x ces)):Pr (YE γ κ e (.newl ces)):=
 match e with
 |.List es _=>
  an (fa es) λha=>ok (λm S X G=>zkP (ha m S X G))
 |_=>AD
def yd3(t:Bool)(e:AU):Pr (YE γ κ e (.dict0 t)):=
 match t,e with
 |true,.Dict [] [] _=>ok (λ_ _ _ _=>zhe)
 |_,_=>AD
def mIdx(e:AU)(fa:∀x,Pr (YE γ κ x ca))(fb:∀x,Pr (YE γ κ x cb)):Pr (YE γ κ e (.idx ca cb)):=
 match e with
 |.Subscript a b _=>
  an (ask (nsl b=AB)) λhs=>an (fa a) λha=>an (fb b) λhb=>ok (λm S X G=>znN (ha m S X G) (hb m S X G) (pix hs))
 |_=>AD
def ygk(e:AU)(fa:∀x,Pr (YE γ κ x ca))(fb:∀x,Pr (YO γ κ x cb))(fc:∀x,Pr (YO γ κ x cc)):Pr (YE γ κ e (.slc ca cb cc)):=
 match e with
 |.Subscript a (.Slice l h AD _) _=>
  an (fa a) λha=>an (fb l) λhb=>an (fc h) λhc=>ok (λm S X G=>zmS (ha m S X G) (hb m S X G) (hc m S X G))
 |_=>AD
def ye9(c:Ce)(e:Option AU)(fa:∀x,Pr (YE γ κ x c)):Pr (YO γ κ e c):=
 match e with
 |none=>match c with
  |.cst .non=>ok (λ_ _ _ _=>zkN)
  |_=>AD
 |some a=>
  an (fa a) λha=>ok (λm S X G=>zkK (ha m S X G))
inductive Fs(γ:Gs)(κ:Kx):Ces->Type where
 |nil:Fs γ κ .nil
 |cons {c:Ce} {cs:Ces} (f:∀x,Pr (YE γ κ x c)) (r:Fs γ κ cs):Fs γ κ (.cons c cs)
def yaS:{ces:Ces}->Fs γ κ ces->(es:List AU)->Pr (YA γ κ es ces)
 |_,.nil,[]=>ok λ_ _ _ _=>zgN
 |_,.cons f r,a::es=>an (ask (nst a=AB)) λhs=>an (f a) λha=>an (yaS r es) λhr=>ok λm S X G=>zdX (ha m S X G) (hr m S X G) (yab hs)
 |_,_,_=>AD
structure Sp2(γ:Gs)(κ:Kx)(ces:Ces)(np:Nat) where
 c1:Ces
 c2:Ces
 f1:Fs γ κ c1
 f2:Fs γ κ c2
 h:yaC c1 c2=ces
 l:ycR c1=np
def ycj:(np:Nat)->{ces:Ces}->Fs γ κ ces->Option (Sp2 γ κ ces np)
 |0,ces,F=>AA ⟨.nil,ces,.nil,F,rfl,rfl⟩
 |n+1,_,.cons f r=>match ycj n r with
  |some s=>AA ⟨.cons _ s.c1,s.c2,.cons f s.f1,s.f2,by rw[yaC,s.h],by rw[ycR,s.l]⟩
  |none=>AD
 |_,_,_=>AD
structure It2(γ:Gs)(κ:Kx)(ces:Ces)(sh:List (Option Int))(kws:List C2) where
 it:List (Sum Ce Int)
 h:yH it=ces
 s:it.map shC=sh
 k:∀m S X,Good γ κ m S X->PK X kws (tK S X it)
def ybU:(sh:List (Option Int))->{ces:Ces}->Fs γ κ ces->(kws:List C2)->Option (It2 γ κ ces sh kws)
 |[],_,.nil,[]=>AA ⟨[],rfl,rfl,λ_ _ _ _=>zmu⟩
 |none::sh,.cons c _,.cons f r,⟨_,e,_⟩ :: kws=>match f e,ybU sh r kws with
  |some h,AA q=>AA ⟨.inl c::q.it,by rw[yH,q.h],by rw[AL,q.s];rfl,λm S X G=>zoi (h.down m S X G) (q.k m S X G)⟩
  |_,_=>AD
 |some i::sh,.cons (.cst (.int j)) _,.cons _ r,kws=>if e:i=j then match ybU sh r kws with
  |some q=>AA ⟨.inr i::q.it,by rw[yH,q.h,e],by rw[AL,q.s];rfl,λm S X G=>zoz (q.k m S X G)⟩
  |none=>AD
  else AD
 |_,_,_,_=>AD
noncomputable def kwN:List C2->List AR
 |[]=>[]
 |⟨AA x,_,_⟩ :: r=>x::kwN r
 |_::r=>kwN r
noncomputable def kwB:List C2->Bool
 |[]=>AB
 |⟨AA _,_,_⟩ :: r=>kwB r
 |_=>AC
theorem znP{pos:CP}{env:BY}:∀{kws:List C2},kwB kws=AB->(backToKw pos (keywordEach kws env)).all (·.1.isSome)=AB/\(backToKw pos (keywordEach kws env)).filterMap (·.1)=kwN kws/\(backToKw pos (keywordEach kws env)).any (·.1.isNone)=AC
 |[],_=>⟨rfl,rfl,rfl⟩
 |⟨AA x,e,_⟩ :: r,h=>by
  let⟨h1,h2,h3⟩:=znP (pos:=pos) (env:=env) (kws:=r) h;erw[backToKw]at h1 h2 h3 ⊢;erw[keywordEach,AL,Bb,C1,BN,h1,h2,h3,kwN];simp
def ygE(i:Nat)(F:Fs γ κ ces)(e:AU):Pr (YE γ κ e (.call i ces)):=
 match e with
 |.Call (.Name x _) [] [] _=>match F with
  |.nil=>an (ask (glB κ x=AB)) λhg=>an (gFn γ x i) λhf=>ok λm S X G=>by
   let⟨f,fd,ps,h1,h2,h3,h4⟩:=G.glo.F x i hf;exact zju h1 (G.room.mono (Ck m)) (zae G hg) h2 h3 h4 (ybh (zbm hg))
  |_=>AD
 |.Call (.Name x _) (a::es) kws _=>an (ask (glB κ x=AB/\nst a=AB/\ybM es=AB)) λhg=>
  match hx:γ.g x with
  |some (.fn j)=>match kws with
   |[]=>an (ask (j=i)) λhj=>an (yaS F (a::es)) λha=>ok λm S X G=>by
    subst hj;let⟨f,fd,ps,h1,h2,h3,h4⟩:=G.glo.F x j hx;exact zk2 h1 (G.room.mono (Ck m)) (zae G hg.1) h2 h3 h4 (ha m S X G) (ybh (zbm hg.1)) (yab hg.2.1) (stars hg.2.2)
   |_=>AD
  |some (.fnD j)=>match hk:γ.kb j (es.length+1) (kwN kws)with
   |none=>AD
   |some sh=>match ycj (es.length+1) F with
    |none=>AD
    |some s=>match ybU sh s.f2 kws with
     |none=>AD
     |some q=>an (ask (kwB kws=AB/\j=i)) λhw=>an (yaS s.f1 (a::es)) λha=>ok λm S X G=>by
      let⟨hw,rfl⟩:=hw;let⟨f,fd,ps,h1,h2,h3,h4⟩:=G.glo.Q x j _ _ sh hx hk;rw[<-s.h,<-q.h];rw[<-q.s]at h4;have w:=λ{pos}=>znP (pos:=pos) (env:=X.env) hw;exact zjm h1 (G.room.mono (Ck m)) (zae G hg.1) h2 h3 h4 s.l (ha m S X G) (q.k m S X G) w.1 w.2.1 (ybh (zbm hg.1)) (yab hg.2.1) (by
       rw[w.2.2,Gm];exact stars (es:=a::es) (by erw[ybM,Bb,hg.2.1,CY];exact hg.2.2))
  |_=>AD
 |_=>AD
abbrev ydL(b:Blt)(x:AR):Prop:=∀S X,X.calm=AB->(∃id,yac X (.builtin id) (rB S X b)/\bootBuiltins x=AA (.builtin id)) \/ ∃T,yac X (.type T) (rB S X b)/\bootBuiltins x=AA (.type T)
def ygo(b:Blt)(x:AR):Pr (ydL b x):=
 match b with
 |.len=>an (ask (x="len")) λh=>ok λ_ _ _=>.inl ⟨_,znj,h ▸ zmW⟩
 |.int=>an (ask (x="int")) λh=>ok λ_ _ _=>.inr ⟨_,znU,h ▸ zj1⟩
 |.min=>an (ask (x="min")) λh=>ok λ_ _ c=>.inl ⟨_,znI c,h ▸ znu⟩
 |.max=>an (ask (x="max")) λh=>ok λ_ _ c=>.inl ⟨_,zng c,h ▸ zn3⟩
 |.tuple=>an (ask (x="tuple")) λh=>ok λ_ _ _=>.inr ⟨_,ziJ,h ▸ zfx⟩
 |.all=>an (ask (x="all")) λh=>ok λ_ _ c=>.inl ⟨_,znY c,h ▸ znE⟩
 |.any=>an (ask (x="any")) λh=>ok λ_ _ c=>.inl ⟨_,zmd c,h ▸ znT⟩
 |_=>AD
def yfL(b:Blt)(F:Fs γ κ ces)(e:AU):Pr (YE γ κ e (.blt b ces)):=
 match e with
 |.Call (.Name x _) (a::es) [] _=>an (ask (glB κ x=AB/\nst a=AB/\ybM es=AB/\γ.b x=AB)) λhg=>an (ygo b x) λhb=>an (yaS F (a::es)) λha=>ok λm S X G=>by
  rcases hb S X G.calm with⟨id,h1,h2⟩|⟨T,h1,h2⟩
  .exact znM h1 (zae G hg.1) (G.glo.B x hg.2.2.2) h2 (ha m S X G) (yd8 (zbm hg.1)) (ybh (zbm hg.1)) (yab hg.2.1) (stars hg.2.2.1)
  .exact zkO h1 (zae G hg.1) (G.glo.B x hg.2.2.2) h2 (ha m S X G) (yd8 (zbm hg.1)) (ybh (zbm hg.1)) (yab hg.2.1) (stars hg.2.2.1)
 |_=>AD
def yfR(b:Blt)(F:Fs γ κ ces)(e:AU):Pr (YE γ κ e (.blt b ces)):=
 match b with
 |b=>yfL b F e
def tyB(t:Ty)(x:AR):Pr (ydh t=AB/\bootBuiltins x=AA (.type (tyN t))):=
 match t with
 |.int=>an (ask (x="int")) λh=>ok ⟨rfl,h ▸ zj1⟩
 |.bool=>an (ask (x="bool")) λh=>ok ⟨rfl,h ▸ zlE⟩
 |.str=>an (ask (x="str")) λh=>ok ⟨rfl,h ▸ zl6⟩
 |.tuple=>an (ask (x="tuple")) λh=>ok ⟨rfl,h ▸ zfx⟩
 |_=>AD
def yfU(ts:List Ty)(e:AU)(fa:∀x,Pr (YE γ κ x ca)):Pr (YE γ κ e (.isi ca ts)):=
 match ts,e with
 |[t],.Call (.Name n _) [a,.Name x _] [] _=>an (ask (n="isinstance"/\glB κ n=AB/\γ.b n=AB/\glB κ x=AB/\γ.b x=AB/\γ.t t=AB/\nst a=AB)) λh=>an (tyB t x) λht=>an (fa a) λha=>ok λm S X G=>by
  let⟨rfl,h1,h2,h3,h4,h5,h6⟩:=h;exact znr (G.glo.T t h5) ht.1 (zae G h1) (G.glo.B _ h2) (zae G h3) (G.glo.B _ h4) ht.2 (ha m S X G) (yd8 (zbm h3)) (ybh (zbm h3)) (yab h6) rfl
 |_,_=>AD
mutual
noncomputable def ydW:(a b:PV)->Pr (a=b)
 |.non,.non=>ok rfl
 |.bl a,.bl b=>an (ask (a=b)) λh=>ok (by rw[h])
 |.int a,.int b=>an (ask (a=b)) λh=>ok (by rw[h])
 |.str a,.str b=>an (ask (a=b)) λh=>ok (by rw[h])
 |.tp k a,.tp j b=>an (ask (k=j)) λh=>an (ycx a b) λg=>ok (by rw[h,g])
 |.lst a,.lst b=>an (ycx a b) λg=>ok (by rw[g])
 |_,_=>AD
noncomputable def ycx:(a b:List PV)->Pr (a=b)
 |[],[]=>ok rfl
 |a::x,b::y=>an (ydW a b) λh=>an (ycx x y) λg=>ok (by rw[h,g])
 |_,_=>AD
end
def eqD:(a b:List (AR×PV))->Pr (a=b)
 |[],[]=>ok rfl
 |(k,a)::x,(j,b)::y=>an (ask (k=j)) λe=>an (ydW a b) λh=>an (eqD x y) λg=>ok (by rw[e,h,g])
 |_,_=>AD
def yfb(v:PV)(e:AU):Pr (YE γ κ e (.cst v)):=
 match e with
 |.Name x _=>match h:γ.g x with
  |some (.cst u)=>an (ask (glB κ x=AB)) λhg=>an (ydW u v) λhv=>ok λm S X G=>by
   subst hv;rcases G.glo.C x u h with q|⟨i,rfl,q⟩
   .exact zoS (zae G hg) q (ybh (zbm hg))
   .exact zm4 (zae G hg) q (ybh (zbm hg))
  |_=>AD
 |e=>yeG v e
def ygD(D:List (AR×PV))(e:AU)(fb:∀x,Pr (YE γ κ x cb)):Pr (YE γ κ e (.dix D cb)):=
 match e with
 |.Subscript (.Name x _) b _=>match h:γ.g x with
  |some (.dct E)=>an (ask (glB κ x=AB/\nsl b=AB)) λhg=>an (eqD E D) λhv=>an (fb b) λhb=>ok λm S X G=>by
   subst hv;exact zme (zae G hg.1) (G.glo.D x E h) (hb m S X G) (nos hg.2) (ybh (zbm hg.1))
  |_=>AD
 |_=>AD
def yft(D:List (AR×PV))(e:AU)(fa:∀x,Pr (YE γ κ x ca)):Pr (YE γ κ e (.din ca D)):=
 match e with
 |.Compare a [.In] [.Name x _] _=>match h:γ.g x with
  |some (.dct E)=>an (ask (glB κ x=AB)) λhg=>an (eqD E D) λhv=>an (fa a) λha=>ok λm S X G=>by
   subst hv;exact zno (zae G hg) (G.glo.D x E h) (ha m S X G) rfl (ybh (zbm hg))
  |_=>AD
 |_=>AD
theorem ydu{pos:CP}{env:BY}:∀{es:List AU},ybM es=AB->((backTo pos (starEach es env)).all λx=>!x.1)=AB
 |[],_=>rfl
 |a::es,h=>by
  erw[ybM,Bb,AK]at h;have:=ydu (pos:=pos) (env:=env) (es:=es) h.2;erw[backTo]at this ⊢;rw[yab h.1,AL,Bb,this];rfl
theorem zjQ{o:AU}{n:AR}{ap pos:CP}{es:List AU}{env:BY}(hb:nca o=AB)(hs:ybM es=AB)(hn:es.length<30)(hl:(ap.endLine==pos.line)=AB):
  eval (.Call (.Attribute o n ap) es [] pos) env=(do
   let ov <-eval o env
   standAt ap.atName
   let (f,first) <-holding [ov] (getMethod ov n (do return (<-importBound o env).getD AB))
   callWith pos f first (backTo pos (starEach es env)) (backToKw pos (keywordEach [] env))):=by
 have hf:methodCallForm (es.length+([]:List C2).length) (backTo pos (starEach es env)) (backToKw pos (keywordEach [] env))=true:=by
  erw[methodCallForm,ydu hs,CY];simp[backToKw,keywordEach,hn]
 rw[arm_eval_Call,ydI hb];erw[methodCall,calleeOf,methodCallPos,hf,hl,if_true,Bool.not_true,HA,pure_bind]
def yfj(c:Nat)(f:AR)(e:AU)(fa:∀x,Pr (YE γ κ x ca)):Pr (YE γ κ e (.fld c ca f)):=
 match e with
 |.Attribute a g _=>an (ask (g=f/\γ.fl c f=AB/\nca a=AB)) λh=>an (fa a) λha=>ok λm S X G=>by
  let⟨rfl,h1,h2⟩:=h;exact zmQ (G.glo.A c g h1).1 (G.glo.A c g h1).2 (ha m S X G) (ydI h2)
 |_=>AD
def ygg(c i:Nat)(F:Fs γ κ ces)(e:AU):Pr (YE γ κ e (.new c i ces)):=
 match e with
 |.Call (.Name x _) (a::es) [] _=>match h:γ.g x with
  |some (.cls c' i')=>an (ask (c'=c/\i'=i/\glB κ x=AB/\nst a=AB/\ybM es=AB)) λhg=>an (yaS F (a::es)) λha=>ok λm S X G=>by
   let⟨rfl,rfl,h1,h2,h3⟩:=hg;let⟨q,f,fd,ps,q1,q2,q3⟩:=G.glo.N x c' i' h;exact zmU q1 q2 G.room (zae G h1) q q3 (ha m S X G) (ybh (zbm h1)) (yab h2) (stars h3)
  |_=>AD
 |_=>AD
def ygG(c i:Nat)(n:AR)(F:Fs γ κ ces)(e:AU)(fa:∀x,Pr (YE γ κ x ca)):Pr (YE γ κ e (.mcl c i n ca ces)):=
 match e with
 |.Call (.Attribute (.Name x p) n' ap) [] [] pos=>match F with
  |.nil=>an (ask (n'=n/\γ.me c n=AA i/\(ap.endLine==pos.line)=AB)) λh=>an (fa (.Name x p)) λho=>ok λm S X G=>by
   let⟨rfl,h1,h4⟩:=h;let⟨q,f,fd,ps,q1,q2,q3⟩:=G.glo.M c n' i h1;exact zlu q q1 q2 (G.room.mono (Ck m)) q3 (ho m S X G) (zjQ rfl rfl (Nat.zero_lt_succ _) h4)
  |_=>AD
 |.Call (.Attribute (.Name x p) n' ap) (a::es) [] pos=>an (ask (n'=n/\γ.me c n=AA i/\nst a=AB/\ybM es=AB/\(ap.endLine==pos.line)=AB/\(a::es).length<30)) λh=>an (fa (.Name x p)) λho=>an (yaS F (a::es)) λha=>ok λm S X G=>by
  let⟨rfl,h1,h2,h3,h4,h5⟩:=h;let⟨q,f,fd,ps,q1,q2,q3⟩:=G.glo.M c n' i h1;exact zl8 q q1 q2 (G.room.mono (Ck m)) q3 (ho m S X G) (ha m S X G) (yab h2) (stars h3) (zjQ rfl (by erw[ybM,Bb,h2,CY];exact h3) h5 h4)
 |_=>AD
theorem ygM{pos:CP}{env:BY}{b:AU}(h:nst b=AB):((backTo pos (starEach [b] env)).all (λx=>!x.1)&&(backToKw pos (keywordEach [] env)).all (λx=>x.1.isSome)&&decide (([b]:List AU).length+([]:List C2).length+(if ([]:List C2).isEmpty then 0 else 1)<30))=true:=by
 rw[yab h];rfl
def yfQ(k:Mth)(F:Fs γ κ ces)(e:AU)(fa:∀x,Pr (YE γ κ x ca)):Pr (YE γ κ e (.mth k ca ces)):=
 match k,e,F with
 |.append,.Call (.Attribute a n ap) [b] [] pos,.cons fb .nil=>an (ask (n="append"/\nca a=AB/\nst b=AB/\(ap.endLine==pos.line)=AB)) λh=>an (fa a) λha=>an (fb b) λhb=>ok λm S X G=>by
  let⟨rfl,h1,h2,h3⟩:=h;exact zhy (ha m S X G) (hb m S X G) (yab h2) (ydI h1) h3 (ygM h2)
 |.get,.Call (.Attribute a n ap) [b,c] [] pos,.cons fb (.cons fc .nil)=>an (ask (n="get"/\nca a=AB/\nst b=AB/\nst c=AB/\(ap.endLine==pos.line)=AB)) λh=>an (fa a) λha=>an (fb b) λhb=>an (fc c) λhc=>ok λm S X G=>by
  let⟨rfl,h1,h2,h4,h3⟩:=h;exact zn0 (zlv G.room) (ha m S X G) (hb m S X G) (hc m S X G) ⟨ydI h1,by rw[yab h2,yab h4];rfl,h3,by rw[yab h2,yab h4];rfl⟩
 |_,_,_=>AD
end
structure Ev(γ:Gs)(c:Ce) where
 e:∀κ x,Pr (YE γ κ x c)
 t:∀κ x,Pr (YT γ κ x c)
 w:∀κ op l pos,Pr (YW γ κ (.BoolOp op l pos) c)
section
variable {γ:Gs}{ca cb cc:Ce}
def w1{c:Ce}(t:∀κ x,Pr (YT γ κ x c))(κ:Kx)(op:Gy)(l:List AU)(pos:CP):Pr (YW γ κ (.BoolOp op l pos) c):=
 match op,l with
 |.And,[a]=>an (t κ a) λh=>ok λm S X G=>zk1 (h m S X G)
 |.Or,[a]=>an (t κ a) λh=>ok λm S X G=>znz (h m S X G)
 |_,_=>AD
def plT{c:Ce}(e:∀κ x,Pr (YE γ κ x c))(κ:Kx)(x:AU):Pr (YT γ κ x c):=an (ask (nte x=AB)) λh=>an (e κ x) λhe=>ok λm S X G=>zmA (he m S X G) (itr h)
def plain{c:Ce}(e:∀κ x,Pr (YE γ κ x c)):Ev γ c:=⟨e,plT e,w1 (plT e)⟩
def ycC{c:Ce}(e:∀κ x,Pr (YE γ κ x c))(t:∀κ x,Pr (YT γ κ x c)):Ev γ c:=⟨e,t,w1 t⟩
def yf2(A:Ev γ ca)(κ:Kx)(e:AU):Pr (YT γ κ e (.not ca)):=
 match e with
 |.UnaryOp .Not a _=>an (A.t κ a) λh=>ok λm S X G=>zmV (h m S X G)
 |_=>AD
def yf5(A:Ev γ ca)(B:Ev γ cb)(κ:Kx)(e:AU):Pr (YE γ κ e (.and ca cb)):=
 match e with
 |.BoolOp .And (a::b::[]) _=>an (A.e κ a) λha=>an (B.e κ b) λhb=>ok λm S X G=>zjX (ha m S X G) (zj8 (hb m S X G))
 |.BoolOp .And (a::b::c::r) p=>an (A.e κ a) λha=>an (B.e κ (.BoolOp .And (b::c::r) p)) λhb=>ok λm S X G=>zjX (ha m S X G) (hb m S X G)
 |_=>AD
def orE(A:Ev γ ca)(B:Ev γ cb)(κ:Kx)(e:AU):Pr (YE γ κ e (.or ca cb)):=
 match e with
 |.BoolOp .Or (a::b::[]) _=>an (A.e κ a) λha=>an (B.e κ b) λhb=>ok λm S X G=>zmZ (ha m S X G) (zj8 (hb m S X G))
 |.BoolOp .Or (a::b::c::r) p=>an (A.e κ a) λha=>an (B.e κ (.BoolOp .Or (b::c::r) p)) λhb=>ok λm S X G=>zmZ (ha m S X G) (hb m S X G)
 |_=>AD
def yd9(A:Ev γ ca)(B:Ev γ cb)(κ:Kx)(op:Gy)(l:List AU)(pos:CP):Pr (YW γ κ (.BoolOp op l pos) (.and ca cb)):=
 match op,l with
 |.And,a::b::r=>an (A.t κ a) λha=>an (B.w κ .And (b::r) pos) λhb=>ok λm S X G=>znG (ha m S X G) (hb m S X G)
 |_,_=>AD
def orW(A:Ev γ ca)(B:Ev γ cb)(κ:Kx)(op:Gy)(l:List AU)(pos:CP):Pr (YW γ κ (.BoolOp op l pos) (.or ca cb)):=
 match op,l with
 |.Or,a::b::r=>an (A.t κ a) λha=>an (B.w κ .Or (b::r) pos) λhb=>ok λm S X G=>zoK (ha m S X G) (hb m S X G)
 |_,_=>AD
def ptW{c:Ce}(w:∀κ op l pos,Pr (YW γ κ (.BoolOp op l pos) c))(κ:Kx)(e:AU):Pr (YT γ κ e c):=
 match e with
 |.BoolOp op l p=>an (w κ op l p) λh=>ok λm S X G=>PW.pt (h m S X G)
 |_=>AD
def ye3{c:Ce}(t:∀κ x,Pr (YT γ κ x c))(w:∀κ op l pos,Pr (YW γ κ (.BoolOp op l pos) c))(κ:Kx)(op:Gy)(l:List AU)(pos:CP):Pr (YW γ κ (.BoolOp op l pos) c):=
 match l with
 |[a]=>w1 t κ op [a] pos
 |l=>w κ op l pos
def yd4(A:Ev γ ca)(B:Ev γ cb):Ev γ (.and ca cb):=⟨yf5 A B,ptW (yd9 A B),ye3 (ptW (yd9 A B)) (yd9 A B)⟩
def ygH(A:Ev γ ca)(B:Ev γ cb):Ev γ (.or ca cb):=⟨orE A B,ptW (orW A B),ye3 (ptW (orW A B)) (orW A B)⟩
end
abbrev YI(γ:Gs)(κ:Kx)(tg l:AU)(c:Cit):Prop:=∀m S X,Good γ κ m S X->PI X tg l (tI S X c)
abbrev YG(γ:Gs)(κ:Kx)(tg:AU)(c:Tg):Prop:=∀m S X,Good γ κ m S X->PG X tg (tG S X c)
section
variable {γ:Gs}{κ:Kx}{ca cb cc ce:Ce}{ci:Cit}
def yfJ(e:∀x,Pr (YE γ κ x ca))(tg l:AU):Pr (YI γ κ tg l (.seq ca)):=an (e l) λh=>ok λm S X G=>zn5 (h m S X G)
def iR1(fa:∀x,Pr (YE γ κ x ca))(tg l:AU):Pr (YI γ κ tg l (.range1 ca)):=
 match l with
 |.Call (.Name x _) [a] [] _=>an (ask (x="range"/\glB κ x=AB/\γ.b x=AB/\nst a=AB)) λh=>an (fa a) λha=>ok λm S X G=>by
  let⟨rfl,h1,h2,h3⟩:=h;exact zgX (zae G h1) (G.glo.B _ h2) (ha m S X G) (yab h3)
 |_=>AD
def yev(fa:∀x,Pr (YE γ κ x ca))(tg l:AU):Pr (YI γ κ tg l (.enum ca)):=
 match tg,l with
 |.Tuple _ _ _,.Call (.Name x _) [a] [] _=>an (ask (x="enumerate"/\glB κ x=AB/\γ.b x=AB/\nst a=AB)) λh=>an (fa a) λha=>ok λm S X G=>by
  let⟨rfl,h1,h2,h3⟩:=h;exact zkl (zae G h1) (G.glo.B _ h2) (ha m S X G) (yab h3)
 |_,_=>AD
def ygN(fa:∀x,Pr (YE γ κ x ca))(fb:∀x,Pr (YE γ κ x cb))(tg l:AU):Pr (YI γ κ tg l (.zip ca cb)):=
 match tg,l with
 |.Tuple _ _ _,.Call (.Name x _) [a,b] [] _=>an (ask (x="zip"/\glB κ x=AB/\γ.b x=AB/\nst a=AB/\nst b=AB)) λh=>an (fa a) λha=>an (fb b) λhb=>ok λm S X G=>by
  let⟨rfl,h1,h2,h3,h4⟩:=h;exact zmJ (zae G h1) (G.glo.B _ h2) (ha m S X G) (hb m S X G) (by rw[yab h3,yab h4];rfl) (yab h4)
 |_,_=>AD
def gNm(κ:Kx):(l:List Nat)->(es:List AU)->Pr (∀m S X,Good γ κ m S X->PGs X es (gNs l)/\(assignEach es X.env).length=l.length/\(assignEach es X.env).findIdx? (·.1)=AD)
 |[],[]=>ok λ_ _ _ _=>⟨zk9,rfl,rfl⟩
 |i::l,.Name x _::es=>an (ask (setB κ i x=AB)) λh=>an (gNm κ l es) λhr=>ok λm S X G=>by
  have s:=zaK G h;let⟨h1,h2,h3⟩:=hr m S X G;refine⟨zjq s.d s.i s.l h1 s.f,?_,?_⟩
  .simp only[assignEach,AS,h2]
  .simp only[assignEach,List.findIdx?_cons,h3];rfl
 |_,_=>AD
def mTg(ct:Tg)(tg:AU):Pr (YG γ κ tg ct):=
 match ct,tg with
 |.n i,.Name x _=>an (ask (setB κ i x=AB)) λh=>ok λm S X G=>let s:=zaK G h;zkm s.d s.i s.l s.f
 |.t l,.Tuple es _ _=>an (gNm κ l es) λh=>ok λm S X G=>zn9 G.calm (h m S X G).1 (h m S X G).2.1 (h m S X G).2.2
 |_,_=>AD
noncomputable def tgN:AU->List AR
 |.Name x _=>[x]
 |.Tuple es _ _=>es.filterMap fun
  |.Name x _=>AA x
  |_=>AD
 |_=>[]
def ycW(N:List AR)(sl:List (Option Nat))(tg:AU):List Str:=tgN tg++(sl.drop (tgN tg).length).filterMap λo=>o.bind λj=>N[j]?
noncomputable def yb2(sc so:Bl):Scope:={sc with names:=sc.names.map λ(n,k)=>if (k==Cf&&so.kind==.function&&so.names.lookup n==AA .cell)then(n,FY)else(n,k)}
noncomputable def yae(N:List AR)(so sc:Bl)(NC:List AR)(sl:List (Option Nat)):Bool:=
 decide (sc.kind=.function)&&(sc.names.all λy=>y.2 != .local || decide (sc.names.lookup y.1=AA .local))&&(sc.names.all λy=>y.2 != .cell)&&(sc.names.all λy=>y.2 != .free || decide (so.names.lookup y.1=AA .cell)) &&
  ((NC.zip sl).all λp=>p.2.all λj=>decide (N[j]?=AA p.1/\sc.names.lookup p.1=AA .free))&&decide (sl.length=NC.length)
theorem zjg{X:Cx}{sc:Bl}{NC:List AR}{sl:List (Option Nat)}(h:yae X.N X.env.scope sc NC sl=AB):yai X sc NC sl:=by
 erw[yae,AK,decide_eq_true_eq,BQ,DA,bne_iff_ne,ne_eq]at h;let⟨⟨⟨⟨⟨h1,h2⟩,h3⟩,h4⟩,h5⟩,h6⟩:=h;exact yc7 _ _ rfl rfl h1 (λy hy e=>(h2 y hy).resolve_left λz=>z e) h3 (λy hy e=>(h4 y hy).resolve_left λz=>z e) (λp hp=>by simpa using h5 p hp) h6
theorem Good.comp{m:Nat}{S:Se}{X:Cx}(G:Good γ κ m S X)(sc:Bl)(NC:List AR)(j:CI):Good γ ⟨NC,yb2 sc κ.sc,AC⟩ m S (cxC X sc NC j):=by
 refine⟨rfl,?_,G.calm,G.room,(λh=>nomatch h),⟨G.glo.F,G.glo.Q,G.glo.C,G.glo.D,G.glo.E,G.glo.N,G.glo.B,G.glo.T,G.glo.A,G.glo.M,λy D h=>let ⟨fa,fdd,ps,M,d⟩:=G.glo.K y D h;⟨fa,fdd,ps,⟨M.F,M.kp,M.b⟩,d⟩⟩⟩;show relabel sc X.env=_;rw[<-G.sc];rfl
def ygv(c:Ce)(f:∀x,Pr (YT γ κ x c))(ifs:List AU):Pr (∀m S X,Good γ κ m S X->PTs X ifs (tT0 S X.K c)):=
 match ifs with
 |[]=>match c with
  |.cst (.bl AB)=>ok λ_ _ _ _=>zil
  |_=>AD
 |[a]=>an (f a) λh=>ok λm S X G=>zkr rfl (h m S X G)
 |_=>AD
structure ycw(γ:Gs)(κ:Kx)(sl:List (Option Nat))(ct:Tg)(ci:Cit)(cc ce:Ce)(elt tg it:AU)(ifs:List AU)(sc:Bl):Prop where
 q:∀m S X,Good γ κ m S X->∃NC,yai X sc NC sl/\PI X tg it (tI S X ci)/\(∀j,PG (cxC X sc NC j) tg (tG0 S X.K ct))/\(∀j,PTs (cxC X sc NC j) ifs (tT0 S X.K cc))/\∀j,PE (cxC X sc NC j) elt (tE0 S X.K ce)
 f:yau ct sl=AB
 s:nse it=AB
def mCo(sl:List (Option Nat))(ct:Tg)(fi:∀tg l,Pr (YI γ κ tg l ci))(C:Ev γ cc)(E:Ev γ ce)(elt tg it:AU)(ifs:List AU)(sc:Bl):Pr (ycw γ κ sl ct ci cc ce elt tg it ifs sc):=
 an (ask (yae κ.N κ.sc sc (ycW κ.N sl tg) sl=AB/\yau ct sl=AB/\nse it=AB)) λh=>an (fi tg it) λhi=>an (mTg (γ:=γ) (κ:=⟨ycW κ.N sl tg,yb2 sc κ.sc,AC⟩) ct tg) λhg=>
  an (ygv (γ:=γ) (κ:=⟨ycW κ.N sl tg,yb2 sc κ.sc,AC⟩) cc (C.t _) ifs) λht=>an (E.e ⟨ycW κ.N sl tg,yb2 sc κ.sc,AC⟩ elt) λhe=>ok ⟨λm S X G=>⟨ycW κ.N sl tg,by
   rw[<-G.n,<-G.sc]at h;rw[<-G.n];exact zjg h.1,hi m S X G,λj=>zlI rfl (hg m S _ (G.comp sc _ j)),λj=>ht m S _ (G.comp sc _ j),λj=>zkS rfl (he m S _ (G.comp sc _ j))⟩,h.2.1,h.2.2⟩
def ydU(sl:List (Option Nat))(ct:Tg)(fi:∀tg l,Pr (YI γ κ tg l ci))(C:Ev γ cc)(E:Ev γ ce)(e:AU):Pr (YE γ κ e (.comp sl ct ci cc ce)):=
 match e with
 |.ListComp elt [⟨tg,it,ifs,0⟩] sc _=>an (mCo sl ct fi C E elt tg it ifs sc) λh=>ok λm S X G=>by
  let⟨NC,h1,h2,h3,h4,h5⟩:=h.q m S X G;exact zkv G.calm h1 h.f h2 h3 h4 h5 (fse h.s)
 |_=>AD
end
section
variable {γ:Gs}{κ:Kx}
end
mutual
noncomputable def ch(γ:Gs):(c:Ce)->Ev γ c
 |.cst v=>plain λκ x=>yfb v x
 |.var i=>plain λκ x=>yeM i x
 |.bin o a b=>plain λκ x=>ygQ o x ((ch γ a).e κ) ((ch γ b).e κ)
 |.neg a=>plain λκ x=>ygK x ((ch γ a).e κ)
 |.not a=>ycC (λκ x=>ygl x ((ch γ a).e κ)) (yf2 (ch γ a))
 |.and a b=>yd4 (ch γ a) (ch γ b)
 |.or a b=>ygH (ch γ a) (ch γ b)
 |.cmp o a b=>ycC (λκ x=>ygs o x ((ch γ a).e κ) ((ch γ b).e κ)) (λκ x=>yeB o x ((ch γ a).e κ) ((ch γ b).e κ))
 |.chain o p a b c=>ycC (λκ x=>ygw o p x ((ch γ a).e κ) ((ch γ b).e κ) ((ch γ c).e κ)) (λκ x=>yeu o p x ((ch γ a).e κ) ((ch γ b).e κ) ((ch γ c).e κ))
 |.ite c a b=>plain λκ x=>ygx x ((ch γ c).t κ) ((ch γ a).e κ) ((ch γ b).e κ)
 |.tup es=>plain λκ x=>ygd x (yaS (chs γ es κ))
 |.lst es=>plain λκ x=>yfk x (yaS (chs γ es κ))
 |.newl es=>plain λκ x=>ydQ x (yaS (chs γ es κ))
 |.dict0 t=>plain λκ x=>yd3 t x
 |.idx a i=>plain λκ x=>mIdx x ((ch γ a).e κ) ((ch γ i).e κ)
 |.slc a l h=>plain λκ x=>ygk x ((ch γ a).e κ) (λo=>ye9 l o ((ch γ l).e κ)) (λo=>ye9 h o ((ch γ h).e κ))
 |.call f es=>plain λκ x=>ygE f (chs γ es κ) x
 |.blt b es=>plain λκ x=>yfR b (chs γ es κ) x
 |.mth k o es=>plain λκ x=>yfQ k (chs γ es κ) x ((ch γ o).e κ)
 |.isi a ts=>plain λκ x=>yfU ts x ((ch γ a).e κ)
 |.comp sl tg it c e=>plain λκ x=>ydU sl tg (chi γ it κ) (ch γ c) (ch γ e) x
 |.frz a=>plain λκ x=>an ((ch γ a).e κ x) λh=>ok λm S X G=>zmP (h m S X G)
 |.nope=>plain λκ x=>ok λ_ _ _ _=>zkZ
 |.dix D a=>plain λκ x=>ygD D x ((ch γ a).e κ)
 |.din a D=>plain λκ x=>yft D x ((ch γ a).e κ)
 |.fld c a f=>plain λκ x=>yfj c f x ((ch γ a).e κ)
 |.new c i es=>plain λκ x=>ygg c i (chs γ es κ) x
 |.mcl c i n o es=>plain λκ x=>ygG c i n (chs γ es κ) x ((ch γ o).e κ)
noncomputable def chs(γ:Gs):(cs:Ces)->(κ:Kx)->Fs γ κ cs
 |.nil,_=>.nil
 |.cons c cs,κ=>.cons (λx=>(ch γ c).e κ x) (chs γ cs κ)
noncomputable def chi(γ:Gs):(c:Cit)->(κ:Kx)->∀tg l,Pr (YI γ κ tg l c)
 |.seq a,κ=>yfJ ((ch γ a).e κ)
 |.range1 a,κ=>iR1 ((ch γ a).e κ)
 |.enum a,κ=>yev ((ch γ a).e κ)
 |.zip a b,κ=>ygN ((ch γ a).e κ) ((ch γ b).e κ)
 |_,_=>λ_ _=>AD
end
section
variable {γ:Gs}{κ:Kx}{ca cb cc ce:Ce}{ci:Cit}{ct:Tg}{cs cs':Css}{ces:Ces}
def yeF(f:∀x,Pr (YE γ κ x ca))(s:Bt):Pr (YS γ κ s (.expr ca)):=
 match s with
 |.Expr a _=>an (ask (nco a=AB)) λhs=>an (f a) λh=>ok λm S X G=>zkF (h m S X G) (swp hs)
 |_=>AD
def yeQ(i:Nat)(f:∀x,Pr (YE γ κ x ca))(s:Bt):Pr (YS γ κ s (.asg (.n i) ca)):=
 match s with
 |.Assign [.Name x _] a _=>an (ask (nco a=AB/\setB κ i x=AB)) λhs=>an (f a) λh=>ok λm S X G=>let q:=zaK G hs.2;zm8 q.d q.i q.l (h m S X G) (swp hs.1) q.f
 |_=>AD
theorem ye0{a:AU}(h:nst a=AB):(match (generalizing:=false) a with | .Starred _ _=>AB|_=>AC)=false:=by
 revert h;cases a<;>intro h<;>first|rfl|cases h
def swD(so:Bl)(x y:AR)(px py:CP)(a b:AU):Bool:=(if so.kind.isAnnotationScope then Fb else so.kind)==.function&&so.names.lookup x==AA .local&&so.names.lookup y==AA .local&&py.line==px.line&&nst a&&nst b&&!(x==y)&&!(foldedForSure 8 a&&foldedForSure 8 b)&&!(constantsAlone 8 a&&constantsAlone 8 b)
theorem yfK{x y:AR}{px py pt pt2:CP}{kt k2:Nat}{a b:AU}{env:BY}(h:swD env.scope x y px py a b=AB):
  swappedStores [.Tuple [.Name x px,.Name y py] kt pt] (.Tuple [a,b] k2 pt2) env=pure (AA [x,y]):=by
 erw[swD,AK,Ci]at h;let⟨⟨⟨⟨⟨⟨⟨⟨h1,h2⟩,h3⟩,h4⟩,h5⟩,h6⟩,h7⟩,h8⟩,h9⟩:=h;have k1:(env.blockKind != .function)=false:=by
  show (!((if env.scope.kind.isAnnotationScope then Fb else env.scope.kind)==.function))=AC;rw[h1];rfl
 have k2:env.kindOf x=AA .local:=eq_of_beq h2;have k3:env.kindOf y=AA .local:=eq_of_beq h3;have k4:py.line=px.line:=eq_of_beq h4;have k7:¬y=x:=λz=>by subst z;simp at h7
 have m1:=ye0 h5;have m2:=ye0 h6;have c8:¬(foldedForSure 8 a=AB/\foldedForSure 8 b=AB):=λz=>by rw[z.1,z.2]at h8;cases h8
 have c9:¬(constantsAlone 8 a=AB/\constantsAlone 8 b=AB):=λz=>by rw[z.1,z.2]at h9;cases h9
 have x1:(Expr.Name x px).pos=px:=rfl;have x2:(Expr.Name y py).pos=py:=rfl;unfold swappedStores;simp[k1,m1,m2,k2,k3,k4,List.eraseDups_cons,k7,x1,x2,c8,c9,C1];intro z;exfalso;rcases z with z|z
 .exact Aw (m1.symm.trans z)
 .exact Aw (m2.symm.trans z)
def ygz(i j:Nat)(fa:∀x,Pr (YE γ κ x ca))(fb:∀x,Pr (YE γ κ x cb))(s:Bt):Pr (YS γ κ s (.asg (.t [i,j]) (.tup (.cons ca (.cons cb .nil))))):=
 match s with
 |.Assign [.Tuple [.Name x px,.Name y py] _ _] (.Tuple [a,b] _ _) _=>an (ask (setB κ i x=AB/\setB κ j y=AB/\i≠j/\swD κ.sc x y px py a b=AB)) λh=>an (fa a) λha=>an (fb b) λhb=>ok λm S X G=>by
  let⟨h1,h2,h3,h4⟩:=h;have q:=zaK G h1;have r:=zaK G h2;have h5:=h4;erw[swD,AK]at h5;have e1:X.env.scope.names.lookup x=AA .local:=by rw[G.sc];exact eq_of_beq h5.1.1.1.1.1.1.1.2
  have e2:X.env.scope.names.lookup y=AA .local:=by rw[G.sc];exact eq_of_beq h5.1.1.1.1.1.1.2
  exact znD G.calm q.d q.i r.i h3 (znB G.calm q.d q.i r.i h3 e1 e2 (zdX (ha m S X G) (zdX (hb m S X G) zgN (yab h5.1.1.1.2)) (yab h5.1.1.1.1.2)) (yfK (by rw[G.sc];exact h4)))
 |_=>AD
theorem sw0{es:List AU}{k:Nat}{p:CP}{a:AU}{env:BY}(h:ntu a=AB):swappedStores [.Tuple es k p] a env=pure none:=by
 cases a<;>first|rfl|cases h
theorem sw1{b c:AU}{p:CP}{a:AU}{env:BY}:swappedStores [.Subscript b c p] a env=pure none:=by
 cases a<;>rfl
theorem yeX{t a:AU}{l:Nat}{env:BY}(h:nco a=AB):swapsWithSole [t] a l env=pure false:=by
 show swapsWith a (AA t) l env=_;exact swp h
theorem asS{b c:AU}{pos:CP}{env:BY}(h:nsl c=AB):∀v,assign (.Subscript b c pos) env v=(do
   let ov <-holding [v] (eval b env)
   let iv <-holding [v,ov] (eval c env)
   standAt pos
   holding [v,ov,iv] (setItem ov iv v)
   release [v,ov,iv] []):=by
 cases c<;>first|exact λ_=>rfl|cases h
def ygO(l:List Nat)(f:∀x,Pr (YE γ κ x ca))(s:Bt):Pr (YS γ κ s (.asg (.t l) ca)):=
 match s with
 |.Assign [.Tuple es k p] a _=>an (ask (nco a=AB/\ntu a=AB)) λhs=>an (mTg (γ:=γ) (κ:=κ) (.t l) (.Tuple es k p)) λhg=>an (f a) λh=>ok λm S X G=>zk3 (h m S X G) (hg m S X G) (yeX hs.1) (sw0 hs.2)
 |_=>AD
def yfa(f:∀x,Pr (YE γ κ x cc))(fo:∀x,Pr (YE γ κ x ca))(fi:∀x,Pr (YE γ κ x cb))(s:Bt):Pr (YS γ κ s (.six ca cb cc)):=
 match s with
 |.Assign [.Subscript b c _] a _=>an (ask (nco a=AB/\nsl c=AB)) λhs=>an (f a) λh=>an (fo b) λho=>an (fi c) λhi=>ok λm S X G=>znH (h m S X G) (ho m S X G) (hi m S X G) (yeX hs.1) sw1 (zjR (ho m S X G) (hi m S X G) zfr (asS hs.2))
 |_=>AD
def yeq(f:∀x,Pr (YE γ κ x cc))(fo:∀x,Pr (YE γ κ x ca))(fi:∀x,Pr (YE γ κ x cb))(s:Bt):Pr (YS γ κ s (.dput ca cb cc)):=
 match s with
 |.Assign [.Subscript b c _] a _=>an (ask (nco a=AB)) λhs=>an (f a) λh=>an (fo b) λho=>an (fi c) λhi=>ok λm S X G=>zlX (zlv G.room) (ho m S X G) (hi m S X G) (h m S X G) (swp hs)
 |_=>AD
def yfY(op:D1)(o:BOp):Pr (∀S X,PIp X op (rT2 S X (ybJ o))):=
 match op,o with
 |.Add,.add=>ok λ_ _=>zlA
 |_,_=>AD
def ygj(i:Nat)(o:BOp)(f:∀x,Pr (YE γ κ x ca))(s:Bt):Pr (YS γ κ s (.aug i o ca)):=
 match s with
 |.AugAssign (.Name x _) op a _=>an (ask (setB κ i x=AB)) λh=>an (yfY op o) λhp=>an (f a) λha=>ok λm S X G=>let q:=zaK G h;zn6 q.d q.i q.l (ha m S X G) (hp S X) q.f (ybh q.p) (ydw q.p)
 |_=>AD
def yge(c:Ce)(f:∀x,Pr (YE γ κ x c))(s:Bt):Pr (YS γ κ s (.ret c)):=
 match s with
 |.Return (AA a) _=>an (f a) λh=>ok λm S X G=>znA (h m S X G)
 |.Return AD _=>match c with
  |.cst .non=>ok λ_ _ _ _=>zk0
  |_=>AD
 |_=>AD
def sIf(fc:∀x,Pr (YT γ κ x cc))(fa:∀x,Pr (YSs γ κ x cs))(fb:∀x,Pr (YSs γ κ x cs'))(s:Bt):Pr (YS γ κ s (.ite cc cs cs')):=
 match s with
 |.If c a b _=>an (fc c) λhc=>an (fa a) λha=>an (fb b) λhb=>ok λm S X G=>zoq (hc m S X G) (ha m S X G) (hb m S X G)
 |_=>AD
def ygB(ct:Tg)(fi:∀tg l,Pr (YI γ κ tg l ci))(fb:∀x,Pr (YSs γ κ x cs))(s:Bt):Pr (YS γ κ s (.for ct ci cs)):=
 match s with
 |.For tg l b [] _=>an (ask (κ.own=AB/\nse l=AB)) λho=>an (fi tg l) λhi=>an (mTg (γ:=γ) (κ:=κ) ct tg) λhg=>an (fb b) λhb=>ok λm S X G=>zmz (G.own ho.1).1 G.calm (hi m S X G) (hg m S X G) (hb m S X G) (fse ho.2)
 |_=>AD
def sWh(fc:∀x,Pr (YT γ κ x cc))(fb:∀x,Pr (YSs γ κ x cs))(s:Bt):Pr (YS γ κ s (.while cc cs)):=
 match s with
 |.While c b [] _=>an (ask (κ.own=AB)) λho=>an (fc c) λhc=>an (fb b) λhb=>ok λm S X G=>zjf (G.own ho).1 (hc m S X G) (hb m S X G)
 |_=>AD
def yfw(c:Nat)(f:AR)(fo:∀x,Pr (YE γ κ x ca))(fv:∀x,Pr (YE γ κ x cb))(s:Bt):Pr (YS γ κ s (.sfl c ca f cb)):=
 match s with
 |.Assign [.Attribute a g _] b _=>an (ask (g=f/\γ.fl c f=AB/\nco b=AB)) λh=>an (fo a) λha=>an (fv b) λhb=>ok λm S X G=>by
  let⟨rfl,h1,h2⟩:=h;exact zml (G.glo.A c g h1).1 (G.glo.A c g h1).2 (ha m S X G) (hb m S X G) (swp h2)
 |_=>AD
def yef(i:Nat)(q:Ce)(o:BOp)(v e d:Ce)(fe:∀x,Pr (YE γ κ x e))(fw:∀x,Pr (YE γ κ x (.ite q (.bin o v e) d)))(s:Bt):Pr (YS γ κ s (.asg (.n i) (.ite q (.bin o v e) d))):=
 match s with
 |.AugAssign (.Name x px) .Add a p=>match q,o,v,d with
  |.isi (.var j) [.tuple],.add,.var k,.nope=>an (ask (j=i/\k=i/\setB κ i x=AB)) λh=>an (fe a) λha=>ok λm S X G=>by
   let⟨rfl,rfl,h⟩:=h;have q:=zaK G h;exact zko q.d q.i q.l (ha m S X G) q.f (ybh q.p) (ydw q.p)
  |_,_,_,_=>AD
 |s=>yeQ i fw s
def ygu(c i:Nat)(f:AR)(j:Int)(fo:∀x,Pr (YE γ κ x (.var i)))(fv:∀x,Pr (YE γ κ x (.cst (.int j))))(s:Bt):Pr (YS γ κ s (.sfl c (.var i) f (.bin .add (.fld c (.var i) f) (.cst (.int j))))):=
 match s with
 |.AugAssign (.Attribute a g _) .Add b _=>an (ask (g=f/\γ.fl c f=AB)) λh=>an (fo a) λha=>an (fv b) λhb=>ok λm S X G=>by
  let⟨rfl,h1⟩:=h;exact zns (G.glo.A c g h1).1 (G.glo.A c g h1).2 (ha m S X G) (hb m S X G)
 |_=>AD
def ygA(c:Nat)(o:Ce)(f:AR)(e:Ce)(O:Ev γ o)(E:Ev γ e)(s:Bt):Pr (YS γ κ s (.sfl c o f e)):=
 match s with
 |.AugAssign t op b p=>match o,e with
  | .var i,.bin .add (.fld c' (.var i') f') (.cst (.int j))=>an (ask (c'=c/\i'=i/\f'=f)) λh=>an (ygu (γ:=γ) (κ:=κ) c i f j (λx=>yeM i x) (λx=>yeG (.int j) x) (.AugAssign t op b p)) λq=>ok (by
    let⟨rfl,rfl,rfl⟩:=h;exact q)
  |_,_=>AD
 |s=>yfw c f (O.e κ) (E.e κ) s
def yff(ix:Nat)(D:List (AR×Nat)){cn:Ce}{ces:Ces}(fn:∀x,Pr (YE γ κ x cn))(F:Fs γ κ ces)(ss:List Bt):Pr (YSs γ κ ss (.cons (.mkr ix D cn ces) .nil)):=
 match ss with
 |[.Assign [.Name x _] (.Subscript (.Name y _) n _) _,.Return (AA (.Call (.Name x' _) (e::es) [] _)) _]=>match hy:γ.mr y with
  |some E=>an (ask (E=D/\x'=x/\setB κ ix x=AB/\ydy κ.sc x=AB/\glB κ y=AB/\nsl n=AB/\nst e=AB/\ybM es=AB)) λh=>an (fn n) λhn=>an (yaS F (e::es)) λha=>ok λm S X G=>by
   let⟨rfl,rfl,h1,h2,h3,h4,h5,h6⟩:=h;have q:=zaK G h1;let⟨fa,fdd,ps,M,d⟩:=G.glo.K y E hy;exact zmt M (G.room.mono (Ck m)) q.d q.i q.l (by rw[G.sc];exact zh0 h2) (zae G h3) d (hn m S X G) (ha m S X G) (nos h4) (swp rfl) q.f (ybh (zbm h3)) (ybh q.p) (ydw q.p) (yab h5) (stars h6)
  |none=>AD
 |_=>AD
end
mutual
noncomputable def chS(γ:Gs):(c:Cs)->(κ:Kx)->∀s,Pr (YS γ κ s c)
 |.expr e,κ=>yeF ((ch γ e).e κ)
 |.asg (.n i) (.ite q (.bin o v e) d),κ=>yef i q o v e d ((ch γ e).e κ) ((ch γ (.ite q (.bin o v e) d)).e κ)
 |.asg (.n i) c,κ=>yeQ i ((ch γ c).e κ)
 |.asg (.t [i,j]) (.tup (.cons a (.cons b .nil))),κ=>ygz i j ((ch γ a).e κ) ((ch γ b).e κ)
 |.asg (.t l) c,κ=>ygO l ((ch γ c).e κ)
 |.six o i e,κ=>yfa ((ch γ e).e κ) ((ch γ o).e κ) ((ch γ i).e κ)
 |.dput o i e,κ=>yeq ((ch γ e).e κ) ((ch γ o).e κ) ((ch γ i).e κ)
 |.aug i o e,κ=>ygj i o ((ch γ e).e κ)
 |.ret e,κ=>yge e ((ch γ e).e κ)
 |.ite c a b,κ=>sIf ((ch γ c).t κ) (ycQ γ a κ) (ycQ γ b κ)
 |.for t it b,κ=>ygB t (chi γ it κ) (ycQ γ b κ)
 |.while c b,κ=>sWh ((ch γ c).t κ) (ycQ γ b κ)
 |.nope,_=>λ_=>ok λ_ _ _ _=>zkH
 |.sfl c o f e,κ=>ygA c o f e (ch γ o) (ch γ e)
 |_,_=>λ_=>AD
noncomputable def ycQ(γ:Gs):(c:Css)->(κ:Kx)->∀s,Pr (YSs γ κ s c)
 |.nil,_,[]=>ok λ_ _ _ _=>zmX
 |.cons (.mkr ix D cn ces) .nil,κ,ss=>yff ix D ((ch γ cn).e κ) (chs γ ces κ) ss
 |.cons c cs,κ,s::ss=>an (chS γ c κ s) λh=>an (ycQ γ cs κ ss) λhr=>ok λm S X G=>zlO (h m S X G) (hr m S X G)
 |_,_,_=>AD
end
inductive Dk where
 |fn|fd (ds:List Int)|me (c:Nat)|ini (c:Nat)
structure Df where
 gn:AR
 nm:AR
 q:AR
 st:Bt
 N:List AR
 ps:List AR
 fn:IC.Fn
 k:Dk
def scB(N P:List AR)(sc:Bl):Bool:=decide (sc.kind=.function)&&!sc.isCoroutine&&!sc.isGenerator&&decide N.Nodup&&decide (N.take P.length=P)&&P.all (ydG sc)&&sc.names.all λy=>y.2 != .free
theorem zmi{N P:List AR}{sc:Bl}(h:scB N P sc=AB):ya2 N P sc:=by
 erw[scB,AK,decide_eq_true_eq,Ci,BQ,bne_iff_ne,ne_eq]at h;let⟨⟨⟨⟨⟨⟨h1,h2⟩,h3⟩,h4⟩,h5⟩,h6⟩,h7⟩:=h;exact⟨h1,h2,h3,h4,h5,λx hx=>zhh (h6 x hx),h7⟩
def okD(γ:Gs)(d:Df):Bool:=scB d.N d.ps (yu d.st)&&decide (d.ps.length=d.fn.np)&&decide (d.N.length=d.fn.ns)&&(ycQ γ d.fn.body ⟨d.N,yu d.st,AB⟩ (yS d.st)).isSome
noncomputable def ybL{α:Type}(P:α->Prop):List α->Prop
 |[]=>True
 |d::r=>P d/\ybL P r
theorem ybL.get{α:Type}{P:α->Prop}:∀{l:List α},ybL P l->∀d∈l,P d
 |_::_,h,d,hd=>by
  rcases A3.1 hd with rfl|hd
  .exact h.1
  .exact h.2.get d hd
noncomputable def ybu:List AR->(List AF->Prop)->Prop
 |[],P=>P []
 |_::r,P=>∀a,ybu r λus=>P (a::us)
theorem ybu.get:∀{ps:List AR} {P:List AF->Prop},ybu ps P->∀us,us.length=ps.length->P us
 |[],P,h,[],_=>h
 |_::r,P,h,a::us,e=>(h a).get us (by simpa using e)
def ya5(d:Df):Prop:=∀(kV doc pm:AF) (an:Option AI) (cdv ct:AF),ybu d.ps λus=>bindArgs (B4 d.nm d.q (yaa d.st) (yS d.st) (yu d.st) .none kV doc pm an cdv ct) ⟨us,[]⟩=pure (d.ps.zip us)
structure yci(K:AE)(d:Df)(dv:AF)(f:AI)(fd:BA):Prop where
 ex:∃(oc:AF) (od:Option AI) (kV doc pm:AF) (an:Option AI) (cdv ct:AF) (osl:Array (Option AF)),
  fd=B4 d.nm d.q (yaa d.st) (yS d.st) (yu d.st) dv kV doc pm an cdv ct/\K.lookup f=AA ⟨oc,od,.func fd,osl⟩/\CJ K cdv d.q=AB
 kp:Ap K (.ref f)=AB
def At(K:AE)(cn:Nat->AR)(d:Df)(f:AI):Prop:=
 match d.k with
 |.fn=>BL K mainGlobals d.gn=AA (AA (.ref f))/\ya5 d
 |.fd _=>BL K mainGlobals d.gn=AA (AA (.ref f))
 |.me c=>ya5 d/\∃q,BL K mainGlobals (cn c)=AA (AA (.ref q))/\Au K (.ref q) d.nm=AA (AA (.ref f))/\Cq K (.ref f)=AB
 |.ini c=>ya5 d/\∃q,BL K mainGlobals (cn c)=AA (AA (.ref q))/\Au K (.ref q) d.nm=AA (AA (.ref f))/\Cq K (.ref f)=AB/\D6 K q=AB/\Ap K (.ref q)=AB
def DvP(K:AE)(d:Df)(dv:AF):Prop:=
 match d.k with
 |.fd ds=>∃dT o its n,dv=.ref dT/\K.lookup dT=AA o/\o.data=.seq its n/\Vals (ds.map V.int) its.toList
 |_=>dv=.none
def ycP(K:AE)(cn:Nat->AR)(d:Df):Prop:=∃dv f fd,yci K d dv f fd/\At K cn d f/\DvP K d dv
section
variable {K:AE}{cn:Nat->AR}{gn nm:AR}{st:Bt}{N ps:List AR}{fn:IC.Fn}{f:AI}{oc:AF}{od:Option AI}{kV doc pm:AF}{an:Option AI}{cdv ct:AF}{osl:Array (Option AF)}
theorem rowFn(a:BL K mainGlobals gn=AA (AA (.ref f)))(l:K.lookup f=AA ⟨oc,od,.func (B4 nm nm (yaa st) (yS st) (yu st) .none kV doc pm an cdv ct),osl⟩)
  (c:CJ K cdv nm=AB) (p:Ap K (.ref f)=AB) (b:ya5 ⟨gn,nm,nm,st,N,ps,fn,.fn⟩):ycP K cn ⟨gn,nm,nm,st,N,ps,fn,.fn⟩:=
 ⟨.none,f,_,⟨⟨oc,od,kV,doc,pm,an,cdv,ct,osl,rfl,l,c⟩,p⟩,⟨a,b⟩,rfl⟩
theorem rowFd{ds:List Int}{dT:AI}{o:CA}{its:Array AF}{n:Nat}(a:BL K mainGlobals gn=AA (AA (.ref f)))(l:K.lookup f=AA ⟨oc,od,.func (B4 nm nm (yaa st) (yS st) (yu st) (.ref dT) kV doc pm an cdv ct),osl⟩)
  (c:CJ K cdv nm=AB) (p:Ap K (.ref f)=AB) (d:K.lookup dT=AA o) (e:o.data=.seq its n) (v:Vals (ds.map V.int) its.toList):ycP K cn ⟨gn,nm,nm,st,N,ps,fn,.fd ds⟩:=
 ⟨.ref dT,f,_,⟨⟨oc,od,kV,doc,pm,an,cdv,ct,osl,rfl,l,c⟩,p⟩,a,dT,o,its,n,rfl,d,e,v⟩
theorem rowMe{qn:AR}{cc:Nat}{q:AI}(z:BL K mainGlobals (cn cc)=AA (AA (.ref q)))(a:Au K (.ref q) nm=AA (AA (.ref f)))(i:Cq K (.ref f)=AB)(l:K.lookup f=AA ⟨oc,od,.func (B4 nm qn (yaa st) (yS st) (yu st) .none kV doc pm an cdv ct),osl⟩)
  (c:CJ K cdv qn=AB) (p:Ap K (.ref f)=AB) (b:ya5 ⟨gn,nm,qn,st,N,ps,fn,.me cc⟩):ycP K cn ⟨gn,nm,qn,st,N,ps,fn,.me cc⟩:=
 ⟨.none,f,_,⟨⟨oc,od,kV,doc,pm,an,cdv,ct,osl,rfl,l,c⟩,p⟩,⟨b,q,z,a,i⟩,rfl⟩
theorem rowIni{qn:AR}{cc:Nat}{q:AI}(z:BL K mainGlobals (cn cc)=AA (AA (.ref q)))(a:Au K (.ref q) nm=AA (AA (.ref f)))(i:Cq K (.ref f)=AB)(l:K.lookup f=AA ⟨oc,od,.func (B4 nm qn (yaa st) (yS st) (yu st) .none kV doc pm an cdv ct),osl⟩)
  (c:CJ K cdv qn=AB) (p:Ap K (.ref f)=AB) (b:ya5 ⟨gn,nm,qn,st,N,ps,fn,.ini cc⟩) (mk:D6 K q=AB) (kq:Ap K (.ref q)=AB):ycP K cn ⟨gn,nm,qn,st,N,ps,fn,.ini cc⟩:=
 ⟨.none,f,_,⟨⟨oc,od,kV,doc,pm,an,cdv,ct,osl,rfl,l,c⟩,p⟩,⟨b,q,z,a,i,mk,kq⟩,rfl⟩
theorem gdf_mk{w:Ai}{h:Az}{mg:AR->Option AF}{x:AR}{D:List (AR×Nat)}{fa:Nat->AI}{y:AI}{es:Array CF}{ep:Nat}(X:K.In h)(G:h.Ns mainGlobals mg)(a:BL K mainGlobals x=AA (AA (.ref y)))(l:K.lookup y=AA ⟨.type "dict",AD,.dict es ep,#[]⟩)
  (r:yb0 w fa D es.toList) (n:(D.map (·.1)).Nodup):GDF K w mg fa x D:=⟨y,es,ep,EU X G a,l,r,n⟩
theorem gd_mk{w:Ai}{h:Az}{mg:AR->Option AF}{x:AR}{D:List (AR×PV)}{cl:Nat->AI}{y:AI}{es:Array CF}{ep:Nat}(X:K.In h)(G:h.Ns mainGlobals mg)(a:BL K mainGlobals x=AA (AA (.ref y)))(l:K.lookup y=AA ⟨.type "dict",AD,.dict es ep,#[]⟩)
  (s:(y==sysModules)=AC) (r:yb4 K cl w D es.toList) (n:(D.map (·.1)).Nodup):GD K w mg cl x D:=⟨y,es,ep,EU X G a,l,s,r,n⟩
end
abbrev KoV(K:AE)(v:PV)(u:AF):Prop:=∃x:V,RelV x u/\∀cl B φ H,yd K cl B φ H v x
abbrev KoL(K:AE)(vs:List PV)(us:List AF):Prop:=∃xs:List V,Vals xs us/\∀cl B φ H,ye K cl B φ H vs xs
mutual
noncomputable def yd5(K:AE):(v:PV)->(u:AF)->Pr (KoV K v u)
 |.int i,.int j t=>an (ask (i=j)) λh=>ok ⟨.int i,⟨t,by rw[h]⟩,λ_ _ _ _=>by erw[yd]⟩
 |.str i,.str j t=>an (ask (i=j)) λh=>ok ⟨.str i,⟨t,by rw[h]⟩,λ_ _ _ _=>by erw[yd]⟩
 |.tp AB vs,.ref a=>match h:K.lookup a with
  |some ⟨c,_,.seq its n,_⟩=>an (ask (c=.type "tuple"/\its.size<=sizeLine)) λq=>an (yds K vs its.toList) λr=>ok (by
    let⟨xs,r1,r2⟩:=r;refine⟨.ref a,rfl,λcl B φ H=>?_⟩;erw[yd];exact⟨a,xs,rfl,.inr ⟨rfl,_,its,n,h,q.1,rfl,q.2,r1⟩,r2 cl B φ H⟩)
  |_=>AD
 |_,_=>AD
noncomputable def yds(K:AE):(vs:List PV)->(us:List AF)->Pr (KoL K vs us)
 |[],[]=>ok ⟨[],.nil,λ_ _ _ _=>by erw[ye]⟩
 |v::vs,u::us=>an (yd5 K v u) λh=>an (yds K vs us) λr=>ok (by
   let⟨x,h1,h2⟩:=h;let⟨xs,r1,r2⟩:=r;refine⟨x::xs,.cons h1 r1,λcl B φ H=>?_⟩;erw[ye];exact⟨x,xs,rfl,h2 cl B φ H,r2 cl B φ H⟩)
 |_,_=>AD
end
theorem con_row{K:AE}{cl:Nat->AI}{w:Ai}{k:AR}{v:PV}{tk:HV}{u:AF}{D:List (AR×PV)}{es:List CF}(c:(yd5 K v u).isSome=AB)(h:yb4 K cl w D es):yb4 K cl w ((k,v)::D) (⟨EC w.params k,.str k tk,u⟩ :: es):=by
 let⟨⟨x,r,q⟩,_⟩:=Ar.1 c;exact .cons r (q cl) h
theorem frow_cons{w:Ai}{fa:Nat->AI}{k:AR}{i:Nat}{tk:HV}{a:AI}{D:List (AR×Nat)}{es:List CF}(e:fa i=a)(h:yb0 w fa D es):yb0 w fa ((k,i)::D) (⟨EC w.params k,.str k tk,.ref a⟩ :: es):=by
 subst e;exact .cons h
structure Tb where
 tbl:List Df
 al:List (AR×GK)
 bs:List AR
 ts:List Ty
 fl:List (Nat×AR)
 me:List ((Nat×AR)×Nat)
 kb:List ((Nat×Nat×List AR)×List (Option Int))
 cn:List (Nat×AR)
 dd:List (AR×List (AR×PV))
 ml:List (AR×List (AR×Nat))
noncomputable abbrev eF(x:AR)(i:Nat):AR×GK:=(x,.fn i)
noncomputable abbrev eD(x:AR)(i:Nat):AR×GK:=(x,.fnD i)
noncomputable abbrev eC(x:AR)(v:PV):AR×GK:=(x,.cst v)
noncomputable abbrev eG(x:AR)(g:GK):AR×GK:=(x,g)
noncomputable abbrev eN(c:Nat)(x:AR):Nat×Str:=(c,x)
noncomputable abbrev eM(c:Nat)(x:AR)(i:Nat):(Nat×AR)×Nat:=((c,x),i)
noncomputable abbrev eK(i n:Nat)(ks:List AR)(sh:List (Option Int)):(Nat×Nat×List AR)×List (Option Int):=((i,n,ks),sh)
noncomputable abbrev eL(x:AR)(d:List (AR×Nat)):AR×List (AR×Nat):=(x,d)
noncomputable abbrev eB(x:AR)(d:List (AR×PV)):AR×List (AR×PV):=(x,d)
noncomputable def tyE:Ty->Ty->Bool
 |.int,.int=>AB
 |.bool,.bool=>AB
 |.str,.str=>AB
 |.tuple,.tuple=>AB
 |.list,.list=>AB
 |_,_=>AC
theorem zmN{a b:Ty}(h:tyE a b=AB):a=b:=by
 cases a<;>cases b<;>first|rfl|cases h
def Tb.gs(t:Tb):Gs:=⟨λx=>t.al.lookup x,λx=>t.bs.contains x,λy=>t.ts.any (tyE y),λc f=>t.fl.contains (c,f),λc n=>t.me.lookup (c,n),λi n ks=>t.kb.lookup (i,n,ks),λx=>t.ml.lookup x⟩
noncomputable def nmA(K:AE)(x:AR):Option Addr:=match BL K mainGlobals x with
 |some (AA (.ref q))=>AA q
 |_=>AD
def clA(K:AE)(t:Tb)(c:Nat):Addr:=((t.cn.lookup c).bind (nmA K)).getD 0
noncomputable def cnm(t:Tb)(c:Nat):Str:=(t.cn.lookup c).getD ""
def faA(K:AE)(t:Tb)(i:Nat):Addr:=match t.tbl[i]? with
 |some d=>match d.k with
  |.fn=>(nmA K d.gn).getD 0
  |.fd _=>(nmA K d.gn).getD 0
  |.me c=>match Au K (.ref (clA K t c)) d.nm with
   |some (AA (.ref f))=>f
   |_=>0
  |.ini c=>match Au K (.ref (clA K t c)) d.nm with
   |some (AA (.ref f))=>f
   |_=>0
 |none=>0
noncomputable def ydo:Dk->Bool
 |.fn=>AB
 |_=>AC
noncomputable def yej:Dk->Bool
 |.fd _=>AB
 |_=>AC
noncomputable def yf6:PV->Bool
 |.int _=>AB
 |.tp _ _=>AB
 |_=>AC
def alB(K:AE)(t:Tb):AR×GK->Bool
 |(x,.fn i)=>match t.tbl[i]? with
  |some d=>ydo d.k&&(decide (x=d.gn) || decide (nmA K x=nmA K d.gn))
  |none=>AC
 |(x,.fnD i)=>match t.tbl[i]? with
  |some d=>yej d.k&&(decide (x=d.gn) || decide (nmA K x=nmA K d.gn))
  |none=>AC
 |(x,.cst v)=>yf6 v&&match BL K mainGlobals x with
  |some (AA u)=>(yd5 K v u).isSome
  |_=>AC
 |(x,.dct d)=>t.dd.any λp=>decide (p.1=x)&&(eqD p.2 d).isSome
 |(x,.exc c)=>decide (t.cn.lookup c=AA x)&&(nmA K x).any λq=>F1 K q [.type "ValueError",.type "Exception",.type "BaseException",.type "object"] "ValueError.__new__"
 |(x,.cls c i)=>decide (t.cn.lookup c=AA x)&&(nmA K x).isSome&&match t.tbl[i]? with
  |some d=>match d.k with
   |.ini c'=>decide (c'=c)&&decide (d.nm="__init__")
   |_=>AC
  |none=>AC
def ye1(K:AE)(t:Ty):Bool:=
 decide (B0 K (.type "NoneType") (.type (tyN t))=AA (ybo .non t))&&decide (B0 K (.type "bool") (.type (tyN t))=AA (ybo (.bl AB) t))&&decide (B0 K (.type "int") (.type (tyN t))=AA (ybo (.int 0) t))&&decide (B0 K (.type "str") (.type (tyN t))=AA (ybo (.str GF) t))&&decide (B0 K (.type "tuple") (.type (tyN t))=AA (ybo (.tp AB []) t))&&decide (B0 K (.type "list") (.type (tyN t))=AA (ybo (.lst []) t))
noncomputable def ydC(K:AE)(q:AI):Bool:=Cp K q GF&&DD K q&&EK K q&&decide (Au K (.ref q) "__setattr__"=AA (AA (.builtin "object.__setattr__")))
theorem zgH{K:AE}{q:AI}(h:ydC K q=AB):Cls K q:=by
 erw[ydC,AK,decide_eq_true_eq]at h;exact⟨h.1.1.1,h.1.1.2,h.1.2,h.2⟩
def yey(K:AE)(t:Tb):Bool:=
 t.al.all (alB K t)&&t.bs.all (λx=>decide (BL K mainGlobals x=AA AD))&&t.ts.all (ye1 K) &&
  t.fl.all (λp=>(t.cn.lookup p.1).isSome&&(nmA K (cnm t p.1)).any λq=>ydC K q&&decide (Au K (.ref q) p.2=AA AD)) &&
  t.me.all (λp=>(t.cn.lookup p.1.1).isSome&&(nmA K (cnm t p.1.1)).any λq=>ydC K q&&match t.tbl[p.2]? with
   |some d=>(match d.k with
    |.me c=>decide (c=p.1.1)
    |_=>AC)&&decide (d.nm=p.1.2)
   |none=>AC) &&
  t.ml.all λp=>p.2.all λq=>match t.tbl[q.2]? with
   |some d=>ydo d.k
   |none=>AC
noncomputable def fd0:FuncData:=B4 "" "" (yaa (.Pass ⟨0,0,0,0⟩)) [] (yu (.Pass ⟨0,0,0,0⟩)) .none .none .none .none AD .none .none
def fdA(K:AE)(t:Tb)(i:Nat):FuncData:=match K.lookup (faA K t i)with
 |some ⟨_,_,.func fd,_⟩=>fd
 |_=>fd0
noncomputable def psA(t:Tb)(i:Nat):List Str:=match t.tbl[i]? with
 |some d=>d.ps
 |none=>[]
theorem lkm{α β:Type}[BEq α][LawfulBEq α]{x:α}{k:β}:∀{l:List (α×β)},l.lookup x=AA k->(x,k)∈l
 |[],h=>nomatch h
 |y::l,h=>by
  rw[Bi]at h
  cases hx:x==y.1 with
  |true=>rw[hx]at h;cases h;rw[eq_of_beq hx];exact BE
  |false=>rw[hx]at h;exact AY _ (lkm h)
def KbP(t:Tb)(p:(Nat×Nat×List AR)×List (Option Int)):Prop:=∀d ds,t.tbl[p.1.1]?=AA d->d.k=.fd ds->∀(K:AE) (mg:AR->Option AF) (f:AI) (fd:BA),FnD K mg d.nm d.st d.ps ds f fd->∃g,ybC K fd d.ps p.1.2.2 g (gK p.1.2.1 p.2)
structure Fact(t:Tb)(w:Ai)(K:AE)(mg:AR->Option AF):Prop where
 X:∀x u,BL K mainGlobals x=AA u->mg x=u
 R:ybL (ycP K (cnm t)) t.tbl
 B:yey K t=AB
 D:ybL (λp=>∀cl,GD K w mg cl p.1 p.2) t.dd
 Kb:ybL (KbP t) t.kb
 Ml:ybL (λp=>GDF K w mg (faA K t) p.1 p.2) t.ml
theorem znd{K:AE}{x:AR}{q:AI}(h:nmA K x=AA q):BL K mainGlobals x=AA (AA (.ref q)):=by
 unfold nmA at h;split at h
 .cases h;assumption
 .cases h
theorem zb6{K:AE}{x:AR}{q:AI}(h:BL K mainGlobals x=AA (AA (.ref q))):nmA K x=AA q:=by
 erw[nmA,h]
theorem zfT{K:AE}{t:Tb}{c:Nat}{q:AI}(h:nmA K (cnm t c)=AA q)(hc:(t.cn.lookup c).isSome=AB):clA K t c=q:=by
 let⟨x,e⟩:=Ar.1 hc;erw[clA,e,Bk];erw[cnm,e,Bj]at h;rw[h];rfl
noncomputable def okT(t:Tb)(d:Df):Bool:=okD t.gs d&&match d.k with
 |.fn=>AB
 |.fd _=>decide (d.q=d.nm)
 |.me c=>(t.cn.lookup c).isSome
 |.ini c=>(t.cn.lookup c).isSome&&decide (d.nm="__init__")
section
variable {t:Tb}{w:Ai}{K:AE}{mg:AR->Option AF}{T:Nat->Option IC.Fn}{P:A5}{base:Az}{k:Nat}
theorem zc5(F:Fact t w K mg)(O:∀d∈t.tbl,okT t d=AB){i:Nat}{d:Df}(h:t.tbl[i]?=AA d):∃dv fd,yci K d dv (faA K t i) fd/\At K (cnm t) d (faA K t i)/\DvP K d dv:=by
 have hm:=A2 h;let⟨dv,f,fd,h1,h2,h3⟩:=F.R.get d hm;have e:f=faA K t i:=by
  have o:=O d hm;erw[okT,AK]at o;have o:=o.2;erw[faA,h];unfold At at h2
  cases q:d.k with
  |fn=>
   rw[q]at h2;erw[zb6 h2.1,Bj]
  |fd ds=>
   rw[q]at h2;have h2:BL K mainGlobals d.gn=AA (AA (.ref f)):=h2;erw[zb6 h2,Bj]
  |me c=>
   rw[q]at h2 o;let⟨_,q',e1,e2,_⟩:=h2;erw[zfT (zb6 e1) o,e2]
  |ini c=>
   rw[q]at h2 o;let⟨_,q',e1,e2,_⟩:=h2;erw[AK]at o;erw[zfT (zb6 e1) o.1,e2]
 subst e;exact⟨dv,fd,h1,h2,h3⟩
theorem yci.binds{d:Df}{f:AI}{fd:BA}(R:yci K d .none f fd)(b:ya5 d):Binds K fd d.ps []:=
 Fun.binds ⟨R.ex,R.kp⟩ λkV doc pm an cdv ct us hl=>(b kV doc pm an cdv ct).get us hl
theorem yci.ok{d:Df}{dv:AF}{f:AI}{fd:BA}{fi m:Nat}{cl:Nat->AI}(R:yci K d dv f fd)(hT:T fi=AA d.fn)(Sc:ya2 d.N d.ps (yu d.st))(hnp:d.ps.length=d.fn.np)(hns:d.N.length=d.fn.ns)
  (body:∀(cdv:AF) (A:Ao) (outer:List BY) (s:AJ) (H:Hp) (E:XK),yao m (A.deeper (envOfC d.q (yu d.st) s.heap.objs.size f cdv)) ->
   PSs (yaQ (CX1 P w) P w K mg base d.N d.q (yu d.st) f cdv A outer s H E) (yS d.st) (tSs ⟨cl,yc T k,AB⟩ (yaQ (CX1 P w) P w K mg base d.N d.q (yu d.st) f cdv A outer s H E) d.fn.body)):
  yaB P w K mg base (CX1 P w) (m+1) f fd d.ps (spI K cl (yc T (k+1)) fi):=by
 let⟨oc,od,kV,doc,pm,an,cdv,ct,osl,rfl,lk,hcd⟩:=R.ex;exact zoo lk hcd Sc (λvs H Q E h=>zmL hT hnp h) λA outer s H vs Q E hr h=>⟨_,body cdv A outer s H E hr,zlb hT hns h⟩
def Fn2(t:Tb)(P:A5)(w:Ai)(K:AE)(mg:AR->Option AF)(base:Az)(T:Nat->Option IC.Fn)(k:Nat):Prop:=
 ∀i d dv fd,t.tbl[i]?=AA d->yci K d dv (faA K t i) fd->yaB P w K mg base (CX1 P w) (2*k) (faA K t i) fd d.ps (spI K (clA K t) (yc T k) i)
theorem ziD(F:Fact t w K mg)(O:∀d∈t.tbl,okT t d=AB)(C:Fn2 t P w K mg base T k){N:List AR}{q:AR}{sc:Bl}{f:AI}{cdv:AF}{A:Ao}{outer:List BY}{s:AJ}{H:Hp}{E:XK}:
  Glo t.gs (2*k) ⟨clA K t,yc T k,AB⟩ (yaQ (CX1 P w) P w K mg base N q sc f cdv A outer s H E):=by
 have B:=F.B;erw[yey,AK,BQ]at B;let⟨⟨⟨⟨⟨b1,b2⟩,b3⟩,b4⟩,b5⟩,b6⟩:=B;have mgr:∀{x:AR} {a:AI},nmA K x=AA a->mg x=AA (.ref a):=λh=>F.X _ _ (znd h);have same:∀{x y:AR} {a:AI},(decide (x=y) || decide (nmA K x=nmA K y))=AB->nmA K y=AA a->nmA K x=AA a:=λ{x y a} h e=>by
  erw[DA,decide_eq_true_eq]at h;rcases h with rfl|h
  .exact e
  .rw[h];exact e
 refine⟨λx i h=>?_,λx i np ks sh h hk=>?_,λx v h=>?_,λx d h=>?_,λx c h=>?_,λx c i h=>?_,λx h=>?_,λy h=>?_,λc n h=>?_,λc n i h=>?_,λy D h=>?_⟩
 .have q:=b1 _ (lkm h);erw[alB]at q;split at q
  .rename_i d hd;erw[AK]at q;let⟨dv,fd,r1,r2,r3⟩:=zc5 F O hd;have hk:d.k=.fn:=by cases e:d.k<;>rw[e]at q<;>first|rfl|cases q.1
   erw[At,hk]at r2;erw[DvP,hk]at r3;subst r3;exact⟨_,fd,d.ps,C i d _ fd hd r1,mgr (same q.2 (zb6 r2.1)),r1.kp,r1.binds r2.2⟩
  .cases q
 .have q:=b1 _ (lkm h);erw[alB]at q;split at q
  .rename_i d hd;erw[AK]at q;let⟨dv,fd,r1,r2,r3⟩:=zc5 F O hd;obtain⟨ds,hk'⟩:∃ds,d.k=.fd ds:=by cases e:d.k<;>rw[e]at q<;>first|exact⟨_,rfl⟩|cases q.1
   erw[At,hk']at r2;erw[DvP,hk']at r3;let⟨dT,o,its,n,rfl,e1,e2,e3⟩:=r3;have oo:=O d (A2 hd);erw[okT,hk',AK,decide_eq_true_eq]at oo;have D:FnD K (λ_=>AA (.ref (faA K t i))) d.nm d.st d.ps ds (faA K t i) fd:=by
    let⟨oc,od,kV,doc,pm,an,cdv,ct,osl,z1,z2,z3⟩:=r1.ex;rw[oo.2]at z1 z3;exact⟨⟨oc,od,dT,kV,doc,pm,an,cdv,ct,osl,o,its,n,z1,z2,z3,e1,e2,e3⟩,r1.kp,rfl⟩
   exact⟨_,fd,d.ps,C i d _ fd hd r1,mgr (same q.2 (zb6 r2)),r1.kp,F.Kb.get _ (lkm hk) d ds hd hk' K _ _ _ D⟩
  .cases q
 .have q:=b1 _ (lkm h);erw[alB,AK]at q;let⟨q0,q⟩:=q;split at q
  .rename_i u hu;let⟨⟨y,r,z⟩,_⟩:=Ar.1 q;have hm:=F.X _ _ hu
   cases v with
   |int i=>
    have z:=z (λ_=>0) (λ_=>False) [] (λ_=>AD);erw[yd]at z;subst z;let⟨tk,rfl⟩:=r;exact .inr ⟨i,rfl,tk,hm⟩
   |tp b vs=>
    have z0:=z (λ_=>0) (λ_=>False) [] (λ_=>AD);erw[yd]at z0;let⟨a,xs,rfl,_⟩:=z0;have r:u=.ref a:=r;subst r;exact .inl ⟨a,hm,λB φ H=>z _ B φ H⟩
   |_=>cases q0
  .cases q
 .have q:=b1 _ (lkm h);erw[alB,Eb,AK,decide_eq_true_eq]at q;let⟨p,hp,rfl,q⟩:=q;let⟨⟨e⟩,_⟩:=Ar.1 q;rw[<-e];exact F.D.get p hp _
 .have q:=b1 _ (lkm h);erw[alB,AK,decide_eq_true_eq,Co]at q;let⟨q1,q2,q3⟩:=q;let⟨a,ha⟩:=Ar.1 q2;have e:clA K t c=a:=by erw[clA,q1,Bk,ha,Bj]
  erw[ha,Ex]at q3;exact⟨by show mg x=AA (.ref (clA K t c));rw[e];exact mgr ha,by show F1 K (clA K t c) _ _=AB;rw[e];exact q3⟩
 .have q:=b1 _ (lkm h);erw[alB,AK,decide_eq_true_eq]at q;let⟨⟨q1,q2⟩,q3⟩:=q;let⟨a,ha⟩:=Ar.1 q2;have e:clA K t c=a:=by erw[clA,q1,Bk,ha,Bj]
  split at q3
  .rename_i d hd
   cases hk:d.k with
   |ini c'=>
    rw[hk]at q3;erw[AK,decide_eq_true_eq]at q3;let⟨rfl,hn⟩:=q3;let⟨dv,fd,r1,r2,r3⟩:=zc5 F O hd;erw[At,hk]at r2;erw[DvP,hk]at r3;subst r3;let⟨r0,q',r4,r5,r6,r7,r8⟩:=r2;have e2:q'=a:=by
     have:nmA K (cnm t c')=AA q':=zb6 r4;erw[cnm,q1,Bj,ha]at this;exact(AZ this).symm
    subst e2;rw[hn]at r5;refine⟨by show mg x=AA (.ref (clA K t c'));rw[e];exact mgr ha,_,fd,d.ps,?_,C i d _ fd hd r1,r1.binds r0⟩;show Mk K (clA K t c') _;rw[e];exact⟨r7,r5,r6,r8⟩
   |_=>rw[hk]at q3;cases q3
  .cases q3
 .have q:x∈t.bs:=by simpa [Tb.gs] using h
  have:=b2 x q;erw[decide_eq_true_eq]at this;exact F.X _ _ this
 .simp only[Tb.gs,Eb]at h;let⟨y',hy,e⟩:=h;have:=zmN e;subst this;have q:=b3 y hy;erw[ye1,AK,decide_eq_true_eq]at q;exact⟨q.1.1.1.1.1,q.1.1.1.1.2,q.1.1.1.2,q.1.1.2,q.1.2,q.2⟩
 .have q:(c,n)∈t.fl:=by simpa [Tb.gs] using h
  have q:=b4 _ q;erw[AK,Co,decide_eq_true_eq]at q;let⟨q1,q2,q3⟩:=q;let⟨a,ha⟩:=Ar.1 q2;erw[ha,Ex]at q3;have e:clA K t c=a:=zfT ha q1;show Cls K (clA K t c)/\yam K (clA K t c) n;rw[e];exact⟨zgH q3.1,q3.2⟩
 .have q:=b5 _ (lkm h);erw[AK,Co,decide_eq_true_eq]at q;let⟨q1,q2,q3,q4⟩:=q;let⟨a,ha⟩:=Ar.1 q2;erw[ha,Ex]at q3;have e:clA K t c=a:=zfT ha q1;split at q4
  .rename_i d hd;erw[AK,decide_eq_true_eq]at q4;let⟨q4,hn⟩:=q4
   cases hk:d.k with
   |me c'=>
    rw[hk]at q4;have q4:c'=c:=by simpa using q4
    subst q4;let⟨dv,fd,r1,r2,r3⟩:=zc5 F O hd;erw[At,hk]at r2;erw[DvP,hk]at r3;subst r3;let⟨r0,q',r4,r5,r6⟩:=r2;have e2:q'=a:=AZ ((zb6 r4).symm.trans ha);subst e2;refine⟨by show Cls K (clA K t c');rw[e];exact zgH q3,_,fd,d.ps,?_,C i d _ fd hd r1,r1.binds r0⟩;show Meth K (clA K t c') n _;rw[e,<-hn];exact⟨r5,r6,r1.kp⟩
   |_=>rw[hk]at q4;cases q4
  .cases q4
 .have q:=b6 _ (lkm h);have g:∀s j,D.lookup s=AA j->∃d dv fd,t.tbl[j]?=AA d/\yci K d dv (faA K t j) fd/\dv=.none/\ya5 d/\fd=fdA K t j/\d.ps=psA t j:=λs j hj=>by
   have q:=q _ (lkm hj);split at q
   .rename_i d hd;let⟨dv,fd,r1,r2,r3⟩:=zc5 F O hd;have hk:d.k=.fn:=by cases e:d.k<;>rw[e]at q<;>first|rfl|cases q
    erw[At,hk]at r2;erw[DvP,hk]at r3;let⟨oc,od,kV,doc,pm,an,cdv,ct,osl,_,lk,_⟩:=r1.ex;exact⟨d,dv,fd,hd,r1,r3,r2.2,by erw[fdA,lk],by erw[psA,hd]⟩
   .cases q
  refine⟨faA K t,fdA K t,psA t,⟨λs j hj=>?_,λs j hj=>?_,λs j hj=>?_⟩,F.Ml.get _ (lkm h)⟩
  .let⟨d,dv,fd,h1,h2,h3,h4,h5,h6⟩:=g s j hj;rw[<-h5,<-h6];exact C j d dv fd h1 h2
  .let⟨d,dv,fd,h1,h2,h3,h4,h5,h6⟩:=g s j hj;exact h2.kp
  .let⟨d,dv,fd,h1,h2,h3,h4,h5,h6⟩:=g s j hj;subst h3;rw[<-h5,<-h6];exact h2.binds h4
theorem zhE(F:Fact t w K mg)(O:∀d∈t.tbl,okT t d=AB)(hT:∀i d,t.tbl[i]?=AA d->T i=AA d.fn):∀k,Fn2 t P w K mg base T k
 |0=>λi d dv fd _ _=>zjc
 |k+1=>λi d dv fd h R=>by
  have o:=O d (A2 h);erw[okT,okD,AK,decide_eq_true_eq]at o;let⟨⟨⟨⟨o1,o2⟩,o3⟩,o4⟩,_⟩:=o;let⟨⟨y⟩,_⟩:=Ar.1 o4;exact R.ok (m:=2*k+1) (hT i d h) (zmi o1) o2 o3 λ_ _ _ _ _ _ hr=>y (2*k) _ _ ⟨rfl,rfl,rfl,hr,λ_=>⟨own1,λ_=>rfl,rfl⟩,ziD F O (zhE F O hT k)⟩
noncomputable def ycM:Nat->(List AF->Prop)->Prop
 |0,P=>P []
 |n+1,P=>∀a,ycM n λus=>P (a::us)
theorem ycM.get:∀{n:Nat} {P:List AF->Prop},ycM n P->∀us,us.length=n->P us
 |0,P,h,[],_=>h
 |n+1,P,h,a::us,e=>(h a).get us (by simpa using e)
theorem kbP{i np:Nat}{ks:List AR}{sh:List (Option Int)}{d:Df}{ds:List Int}(hd:t.tbl[i]?=AA d)(hk:d.k=.fd ds)(h1:ks.length=nKw sh)(h2:sh.length=(ds.drop (ds.length-sh.length)).length)
  (h3:((sh.zip (ds.drop (ds.length-sh.length))).all λp=>p.1.all λi=>decide (i=p.2))=AB) (hp:0<d.ps.length)
  (h:∀(dT:AI) (kV doc pm:AF) (an:Option AI) (cdv ct:AF),ycM np λus=>ycM ks.length λws=>ycM ds.length λits=>
   ∃k,bindArgs (B4 d.nm d.nm (yaa d.st) (yS d.st) (yu d.st) (.ref dT) kV doc pm an cdv ct) ⟨us,ks.zip ws⟩=seqItems? (.ref dT) >>= k/\k (AA its.toArray)=pure (d.ps.zip (us++ya0 sh ws (its.drop (ds.length-sh.length))))):KbP t ((i,np,ks),sh):=by
 intro d' ds' e1 e2 K mg f fd D;have e1:t.tbl[i]?=AA d':=e1;rw[hd]at e1
 cases e1
 rw[hk]at e2
 cases e2
 exact kbD D h1 h2 h3 (λdT kV doc pm an cdv ct us ws its z1 z2 z3=>(((h dT kV doc pm an cdv ct).get us z1).get ws z2).get its z3) hp
theorem all_mk2{h:Az}{fx:AI}(X:K.In h)(G:h.Ns mainGlobals mg)(hfa:mg "law"=AA (.ref fx))(R:ybL (ycP K (cnm t)) t.tbl)(B:yey K t=AB)(D:ybL (λp=>∀cl,GD K w mg cl p.1 p.2) t.dd)(Kb:ybL (KbP t) t.kb)(Ml:ybL (λp=>GDF K w mg (faA K t) p.1 p.2) t.ml)
  (O:t.tbl.all (okT t)=AB) (hT:∀i d,t.tbl[i]?=AA d->T i=AA d.fn) {L:Nat} {st:Bt} {N:List AR} {fn:IC.Fn} (hL:t.tbl[L]?=AA ⟨"law","law","law",st,N,["_law_script"],fn,.fn⟩) (lvl:Nat):
  ∃fd:BA,(∀(s:AJ) (v:AF),FN s fd ⟨[v],[]⟩ [("_law_script",v)])/\∀base:Az,K.In base->base.Ns mainGlobals mg->yaB P w K mg base (CX1 P w) (2*lvl) fx fd ["_law_script"] (spX K (yc T lvl) L):=by
 have F:Fact t w K mg:=⟨λx u e=>by
  cases u with
  |none=>exact PySem.W.mg_none_of X G e
  |some v=>exact EU X G e,R,B,D,Kb,Ml⟩
 have O':=BQ.1 O;let⟨dv,fd,r1,r2,r3⟩:=zc5 F O' hL;have r3:dv=.none:=r3;subst r3;have r2:BL K mainGlobals "law"=AA (AA (.ref (faA K t L)))/\ya5 _:=r2;have e:=Value.ref.inj (AZ (hfa.symm.trans (EU X G r2.1)));subst e;refine⟨fd,λs v=>?_,λbase _ _=>(zhE F O' hT lvl L _ _ fd hL r1).imp λ_ _ _ _ h=>h _⟩;let⟨oc,od,kV,doc,pm,an,cdv,ct,osl,rfl,_⟩:=r1.ex;exact .of_eq (r2.2 kV doc pm an cdv ct v)
end
end L2
namespace IC
open PySem
noncomputable def zJ:List (AR×Nat):=[(AG "move",63),(AG "bare",64),(AG "sum",65),(AG "less",66),(AG "both",67),(AG "any",68),(AG "odd",69),(AG "twice",70),(AG "half",71)]
noncomputable def zbe:PV:=(.int 10000000000000000000000000000000000000000)
noncomputable def za5:PV:=(.tp AB [(.str "f"),(.tp AB [(.int 0),(.int 0),(.int 0),(.int 0)])])
noncomputable def za4:PV:=(.tp AB [(.str "h"),(.tp AB [(.int 0),(.int 0),(.int 0),(.int 0)])])
noncomputable def zai:PV:=(.tp AB [(.tp AB [(.str "m"),(.tp AB [(.int 0),(.int 0),(.int 0),(.int 0)])]),(.tp AB [(.str "m"),(.tp AB [(.int 1),(.int 0),(.int 0),(.int 0)])]),(.tp AB [(.str "m"),(.tp AB [(.int 2),(.int 0),(.int 0),(.int 0)])]),(.tp AB [(.str "m"),(.tp AB [(.int 3),(.int 0),(.int 0),(.int 0)])])])
noncomputable def zb5:PV:=(.int 4)
noncomputable def zeM:PV:=(.int 2)
noncomputable def zbM:PV:=(.int 4000)
noncomputable def zcX:PV:=(.int 4000)
noncomputable def zeK:PV:=(.int 20)
noncomputable def zdO:PV:=(.int 2)
noncomputable def zcY:PV:=(.int 200)
noncomputable def zek:PV:=(.tp AB [(.str "z"),(.tp AB [(.int 0),(.int 0),(.int 0),(.int 0)])])
noncomputable def zat:PV:=(.tp AB [(.str "quotient"),(.str "signed quotient")])
noncomputable def zco:PV:=(.tp AB [(.str "g"),(.tp AB [(.int 0),(.int 0),(.int 0),(.int 0)])])
noncomputable def zeQ:PV:=(.tp AB [(.str "s"),(.tp AB [(.int 0),(.int 0),(.int 0),(.int 0)])])
noncomputable def zcJ:PV:=(.tp AB [(.str "t"),(.tp AB [(.int 0),(.int 0),(.int 0),(.int 0)])])
def zhS:PV:=(.tp AB [(.str "plain"),(.str "signed")])
def zac:List (AR×PV):=[(AG "set",(.tp AB [(.str "cell"),(.str "figure")])),(AG "move",(.tp AB [(.str "cell"),(.str "cell")])),(AG "bare",(.tp AB [(.str "cell"),(.str "cell")])),(AG "sum",(.tp AB [(.str "cell"),(.str "cell"),(.str "cell")])),(AG "less",(.tp AB [(.str "cell"),(.str "cell"),(.str "cell")])),(AG "both",(.tp AB [(.str "cell"),(.str "cell"),(.str "cell")])),(AG "any",(.tp AB [(.str "cell"),(.str "cell"),(.str "cell")])),(AG "odd",(.tp AB [(.str "cell"),(.str "cell"),(.str "cell")])),(AG "twice",(.tp AB [(.str "cell"),(.str "cell")])),(AG "half",(.tp AB [(.str "cell"),(.str "cell")])),(AG "times",(.tp AB [(.str "cell"),(.str "cell"),(.str "cell"),(.str "cell")])),(AG "mark",(.tp AB [(.str "figure")])),(AG "ask",(.tp AB [(.str "cell")]))]
noncomputable def zkb:Fn:=⟨5,5,AB,(.k (.ret (.tup (.k (.v 0) (.k (.tup (.k (.v 1) (.k (.v 2) (.k (.v 3) (.k (.v 4) .e))))) .e)))) .e)⟩
def zcT:Fn:=⟨1,1,AB,(.k (.ret (.call 0 (yaC (.k (.v 0) (.k (.neg (.i 1)) .e)) (yH [.inr 0,.inr 0,.inl (.i 1)])))) .e)⟩
noncomputable def zka:Fn:=⟨1,1,AB,(.k (.ret (.blt .tuple (.k (.comp [AD] (.n 0) (.seq (.v 0)) (.cst (.bl AB)) (.tup (.k (.s "row") (.k (.v 0) .e)))) .e))) .e)⟩
noncomputable def zfl:Fn:=⟨3,3,AB,(.k (.ret (.tup (.k (.tup (.k (.s "rounds") (.k (.v 0) (.k (.v 1) (.k (.v 2) .e))))) .e))) .e)⟩
noncomputable def zfX:Fn:=⟨5,5,AB,(.k (.ret (.tup (.k (.s "slice") (.k (.v 0) (.k (.tup (.k (.i 0) (.k (.i 0) (.k (.i 0) (.k (.i 0) .e))))) (.k (.tup (.k (.v 1) (.k (.v 2) (.k (.v 3) (.k (.v 4) .e))))) .e)))))) .e)⟩
noncomputable def zjU:Fn:=⟨6,6,AB,(.k (.ret (.tup (.k (.v 0) (.k (.tup (.k (.i 0) (.k (.v 2) (.k (.i 0) (.k (.v 3) (.k (.v 4) (.k (.v 5) .e))))))) (.k (.v 1) .e))))) .e)⟩
def zbP:Fn:=⟨3,4,AB,(.k (.asg (.n 3) (.tup (.k (.call 5 (yaC (.k (.i 1) (.k (.tup (.k (.call 4 (yaC (.k (.v 1) .e) (yH [.inr 0,.inl (.i 1),.inr 0,.inr 0]))) .e)) .e)) (yH [.inr 0,.inr 0,.inr 0,.inr 0]))) (.k (.call 5 (yaC (.k (.neg (.i 1)) (.k (.tup (.k (.call 4 (yaC (.k (.v 0) .e) (yH [.inr 0,.inl (.i 1),.inr 0,.inr 0]))) .e)) .e)) (yH [.inr 0,.inr 0,.inr 0,.inr 0]))) .e)))) (.k (.ret (.call 3 (.k (.tup (.k (.v 2) (.k (.i 1) (.k (.i 0) .e)))) (.k (.v 3) (.k (.call 2 (.k (.lst (.k (.tup (.k (.s "move") (.k (.call 0 (yaC (.k (.v 0) .e) (yH [.inr 0,.inl (.i 1),.inr 0,.inr 0]))) (.k (.call 0 (yaC (.k (.v 1) .e) (yH [.inr 0,.inl (.i 1),.inr 0,.inr 0]))) .e)))) .e)) .e)) .e))))) .e))⟩
def zcA:Fn:=⟨1,1,AB,(.k (.ret (.tup (.k (.s "sum") (.k (.v 0) (.k (.cst zek) (.k (.cst zek) .e)))))) .e)⟩
def zaT:Fn:=⟨1,1,AB,(.k (.ret (.lst (.k (.tup (.k (.s "set") (.k (.v 0) (.k (.i 1) .e)))) (.k (.tup (.k (.s "less") (.k (.v 0) (.k (.v 0) (.k (.cst zek) .e))))) .e)))) .e)⟩
def zbQ:Fn:=⟨2,2,AB,(.k (.ret (.lst (.k (.tup (.k (.s "twice") (.k (.cst zcJ) (.k (.v 1) .e)))) (.k (.tup (.k (.s "less") (.k (.v 0) (.k (.cst zek) (.k (.cst zek) .e))))) .e)))) .e)⟩
def zay:Fn:=⟨4,4,AB,(.k (.ret (.call 3 (.k (.v 3) (.k (.tup .e) (.k (.call 2 (.k (.lst (.k (.tup (.k (.s "odd") (.k (.cst zcJ) (.k (.v 1) (.k (.v 2) .e))))) (.k (.tup (.k (.s "any") (.k (.v 0) (.k (.v 0) (.k (.cst zcJ) .e))))) .e))) .e)) .e))))) .e)⟩
def zbU:Fn:=⟨3,4,AB,(.k (.asg (.n 3) (.tup (.k (.s "any") (.k (.cst zeQ) (.k (.cst zeQ) (.k (.call 0 (yaC (.k (.v 0) .e) (yH [.inr 0,.inl (.i 1),.inr 0,.inl (.v 1)]))) .e)))))) (.k (.ret (.bin .add (.bin .add (.call 2 (.k (.lst (.k (.tup (.k (.s "set") (.k (.cst zeQ) (.k (.i 0) .e)))) .e)) .e)) (.call 3 (.k (.v 2) (.k (.tup .e) (.k (.call 2 (.k (.lst (.k (.v 3) .e)) .e)) .e))))) (.call 2 (.k (.lst (.k (.tup (.k (.s "ask") (.k (.cst zeQ) .e))) .e)) .e)))) .e))⟩
def zbf:Fn:=⟨2,3,AB,(.k (.asg (.n 2) (.lst (.k (.tup (.k (.s "twice") (.k (.cst zcJ) (.k (.call 0 (yaC (.k (.s "c") (.k (.bin .sub (.v 0) (.i 1)) .e)) (yH [.inr 0,.inr 0,.inl (.v 1)]))) .e)))) (.k (.call 7 (.k (.idx (.cst zai) (.i 3)) .e)) .e)))) (.k (.ret (.bin .add (.call 11 (.k (.s "c") (.k (.i 0) (.k (.tup (.k (.v 0) (.k (.v 1) (.k (.i 0) .e)))) .e)))) (.call 2 (.k (.bin .add (.call 8 (.k (.idx (.cst zai) (.i 2)) .e)) (.v 2)) .e)))) .e))⟩
def zbB:Fn:=⟨3,4,AB,(.k (.asg (.n 3) (.bin .add (.call 6 (yaC (.k (.s "c") (.k (.s "a") (.k (.blt .min (.k (.v 2) (.k (.i 0) .e))) .e))) (yH []))) (.call 14 (.k (.cst za5) (.k (.v 0) (.k (.call 1 (.k (.s "a") .e)) .e)))))) (.k (.ite (.cmp .gt (.v 2) (.i 0)) (.k (.asg (.n 3) (.ite (.isi (.v 3) [.tuple]) (.bin .add (.v 3) (.call 15 (.k (.v 2) .e))) .nope)) .e) .e) (.k (.asg (.n 3) (.ite (.isi (.v 3) [.tuple]) (.bin .add (.v 3) (.bin .add (.call 14 (.k (.cst zco) (.k (.v 1) (.k (.call 0 (yaC (.k (.s "c") (.k (.bin .sub (.v 2) (.i 1)) .e)) (yH [.inr 0,.inr 0,.inl (.i 1)]))) .e)))) (.call 2 (.k (.lst (.k (.tup (.k (.s "odd") (.k (.cst za4) (.k (.cst za5) (.k (.cst zco) .e))))) .e)) .e)))) .nope)) (.k (.ite (.cmp .lt (.v 2) (.i 0)) (.k (.asg (.n 3) (.ite (.isi (.v 3) [.tuple]) (.bin .add (.v 3) (.call 16 (.k (.v 2) .e))) .nope)) .e) .e) (.k (.ret (.bin .add (.bin .add (.v 3) (.call 2 (.k (.lst (.k (.tup (.k (.s "ask") (.k (.cst za4) .e))) (.k (.call 7 (.k (.idx (.cst zai) (.i 1)) .e)) .e))) .e))) (.call 12 (.k (.v 2) (.k (.i 1) .e))))) .e)))))⟩
def zfu:Fn:=⟨3,3,AB,(.k (.ret (.call 2 (.k (.ite (.cmp .eq (.v 1) (.s "signed")) (.call 9 (.k (.v 0) (.k (.v 2) .e))) (.lst (.k (.tup (.k (.s "mark") (.k (.i 0) .e))) (.k (.tup (.k (.s "less") (.k (.v 0) (.k (.cst zek) (.k (.cst zek) .e))))) .e)))) .e))) .e)⟩
def zer:Fn:=⟨1,2,AB,(.k (.asg (.n 1) (.tup (.k (.call 5 (yaC (.k (.i 1) (.k (.tup (.k (.call 4 (yaC (.k (.s "c") .e) (yH [.inr 0,.inl (.i 1),.inr 0,.inl (.i 1)]))) .e)) .e)) (yH [.inr 0,.inr 0,.inr 0,.inr 0]))) (.k (.call 5 (yaC (.k (.neg (.i 1)) (.k (.tup (.k (.call 4 (yaC (.k (.s "a") .e) (yH [.inr 0,.inr 0,.inr 0,.inl (.i 1)]))) .e)) .e)) (yH [.inr 0,.inr 0,.inr 0,.inr 0]))) (.k (.call 5 (yaC (.k (.neg (.i 1)) (.k (.tup (.k (.tup (.k (.s "mark") .e)) .e)) .e)) (yH [.inr 0,.inl (.i 1),.inr 0,.inl (.i 1)]))) (.k (.call 5 (yaC (.k (.i 1) (.k (.tup (.k (.tup (.k (.s "mark") .e)) .e)) .e)) (yH [.inr 0,.inr 0,.inr 0,.inl (.i 1)]))) .e)))))) (.k (.ret (.call 3 (.k (.tup (.k (.v 0) (.k (.i 0) (.k (.i 0) .e)))) (.k (.v 1) (.k (.call 2 (.k (.lst (.k (.tup (.k (.s "move") (.k (.call 0 (yaC (.k (.s "c") .e) (yH [.inr 0,.inl (.i 1),.inr 0,.inl (.i 1)]))) (.k (.cst za5) .e)))) .e)) .e)) .e))))) .e))⟩
def zea:Fn:=⟨1,1,AB,(.k (.ret (.call 10 (.k (.cst za4) (.k (.call 0 (yaC (.k (.s "a") (.k (.v 0) .e)) (yH [.inl (.i 1),.inr 0,.inl (.i 1)]))) (.k (.cst zco) (.k (.tup (.k (.neg (.v 0)) (.k (.i 0) (.k (.i 0) .e)))) .e)))))) .e)⟩
noncomputable def zal:Fn:=⟨3,3,AB,(.k (.ret (.and (.isi (.v 0) [.int]) (.and (.not (.isi (.v 0) [.bool])) (.chain .le .le (.v 1) (.v 0) (.v 2))))) .e)⟩
noncomputable def zbi:Fn:=⟨1,1,AB,(.k (.ret (.and (.isi (.v 0) [.str]) (.and (.cmp .eq (.blt .len (.k (.v 0) .e)) (.i 1)) (.chain .le .le (.s "a") (.v 0) (.s "z"))))) .e)⟩
def zdc:Fn:=⟨2,2,AB,(.k (.ite (.or (.not (.isi (.v 0) [.tuple])) (.cmp .ne (.blt .len (.k (.v 0) .e)) (.v 1))) (.k .nope .e) .e) (.k (.ret (.blt .all (.k (.comp [AD] (.n 0) (.seq (.v 0)) (.cst (.bl AB)) (.call 17 (.k (.v 0) (.k (.neg (.cst zcY)) (.k (.cst zcY) .e))))) .e))) .e))⟩
noncomputable def zcf:Fn:=⟨1,1,AB,(.k (.ret (.call 22 (.k (.v 0) (.k (.cst (.bl AC)) .e)))) .e)⟩
noncomputable def zbz:Fn:=⟨1,1,AB,(.k (.ret (.call 22 (.k (.v 0) (.k (.cst (.bl AB)) .e)))) .e)⟩
def yM:Fn:=⟨2,4,AB,(.k (.ite (.or (.not (.call 23 (.k (.v 0) .e))) (.cmp .ne (.blt .len (.k (.v 0) .e)) (.bin .add (.blt .len (.k (.dix zac (.idx (.v 0) (.i 0))) .e)) (.i 1)))) (.k (.ret (.cst (.bl AC))) .e) .e) (.k (.for (.t [2,3]) (.zip (.dix zac (.idx (.v 0) (.i 0))) (.slc (.v 0) (.i 1) (.cst .non))) (.k (.ite (.not (.call 24 (.k (.v 2) (.k (.v 3) (.k (.v 1) .e))))) (.k (.ret (.cst (.bl AC))) .e) .e) .e)) (.k (.ret (.or (.cmp .ne (.idx (.v 0) (.i 0)) (.s "times")) (.cmp .ne (.idx (.v 0) (.i 1)) (.idx (.v 0) (.i 2))))) .e)))⟩
def za9:Fn:=⟨1,1,AB,(.k (.ret (.and (.isi (.v 0) [.tuple]) (.and (.cmp .gt (.blt .len (.k (.v 0) .e)) (.i 0)) (.and (.isi (.idx (.v 0) (.i 0)) [.str]) (.din (.idx (.v 0) (.i 0)) zac))))) .e)⟩
noncomputable def zQ:Fn:=⟨3,3,AB,(.k (.ite (.cmp .eq (.v 0) (.s "figure")) (.k (.ret (.call 17 (.k (.v 1) (.k (.i 0) (.k (.i 1) .e))))) .e) .e) (.k (.ret (.ite (.v 2) (.call 26 (.k (.v 1) .e)) (.call 25 (.k (.v 1) .e)))) .e))⟩
noncomputable def zbA:Fn:=⟨1,1,AB,(.k (.ret (.and (.call 27 (.k (.v 0) .e)) (.call 17 (.k (.idx (.v 0) (.i 1)) (.k (.i 0) (.k (.i 99) .e)))))) .e)⟩
noncomputable def zbd:Fn:=⟨1,1,AB,(.k (.ret (.and (.call 27 (.k (.v 0) .e)) (.call 19 (.k (.idx (.v 0) (.i 1)) (.k (.i 4) .e))))) .e)⟩
noncomputable def zah:Fn:=⟨1,1,AB,(.k (.ret (.and (.isi (.v 0) [.tuple]) (.and (.cmp .eq (.blt .len (.k (.v 0) .e)) (.i 2)) (.call 18 (.k (.idx (.v 0) (.i 0)) .e))))) .e)⟩
def zbx:Fn:=⟨1,1,AB,(.k (.ret (.and (.isi (.v 0) [.tuple]) (.and (.cmp .le (.blt .len (.k (.v 0) .e)) (.cst zeK)) (.blt .all (.k (.comp [AD] (.n 0) (.seq (.v 0)) (.cst (.bl AB)) (.call 30 (.k (.v 0) .e))) .e))))) .e)⟩
noncomputable def za7:Fn:=⟨4,4,AB,(.k (.ret (.bin .add (.bin .add (.bin .add (.idx (.v 0) (.i 0)) (.bin .mul (.idx (.v 0) (.i 1)) (.v 2))) (.bin .mul (.idx (.v 0) (.i 2)) (.v 3))) (.bin .mul (.idx (.v 0) (.i 3)) (.v 1)))) .e)⟩
def zd6:Fn:=⟨1,4,AB,(.k (.ite (.or (.not (.isi (.v 0) [.tuple])) (.cmp .ne (.blt .len (.k (.v 0) .e)) (.i 3))) (.k (.ret (.cst (.bl AC))) .e) .e) (.k (.asg (.t [1,2,3]) (.v 0)) (.k (.ret (.and (.call 17 (.k (.v 1) (.k (.bin .sub (.i 1) (.cst zbe)) (.k (.bin .sub (.cst zbe) (.i 1)) .e)))) (.and (.call 19 (.k (.v 2) (.k (.i 6) .e))) (.call 31 (.k (.v 3) .e))))) .e)))⟩
def zb4:Fn:=⟨1,1,AB,(.k (.ret (.and (.isi (.v 0) [.tuple]) (.and (.cmp .le (.blt .len (.k (.v 0) .e)) (.cst zdO)) (.blt .all (.k (.comp [AD] (.n 0) (.seq (.v 0)) (.cst (.bl AB)) (.call 32 (.k (.v 0) .e))) .e))))) .e)⟩
noncomputable def zdo:Fn:=⟨1,1,AB,(.k (.ite (.or (.not (.isi (.v 0) [.tuple])) (.cmp .eq (.blt .len (.k (.v 0) .e)) (.i 0))) (.k (.ret (.cst (.bl AC))) .e) .e) (.k (.ite (.cmp .eq (.idx (.v 0) (.i 0)) (.s "mark")) (.k (.ret (.cmp .eq (.blt .len (.k (.v 0) .e)) (.i 1))) .e) .e) (.k (.ite (.or (.cmp .ne (.idx (.v 0) (.i 0)) (.s "slice")) (.or (.cmp .ne (.blt .len (.k (.v 0) .e)) (.i 4)) (.not (.call 18 (.k (.idx (.v 0) (.i 1)) .e))))) (.k (.ret (.cst (.bl AC))) .e) .e) (.k (.ret (.and (.call 19 (.k (.idx (.v 0) (.i 2)) (.k (.i 4) .e))) (.call 19 (.k (.idx (.v 0) (.i 3)) (.k (.i 4) .e))))) .e))))⟩
noncomputable def zN:Fn:=⟨3,3,AC,(.k (.sfl 20 (.v 0) (AG "w") (.v 1)) (.k (.sfl 20 (.v 0) (AG "n") (.v 2)) (.k (.sfl 20 (.v 0) (AG "steps") (.newl .e)) (.k (.sfl 20 (.v 0) (AG "rows") (.i 0)) (.k (.sfl 20 (.v 0) (AG "rounds") (.i 0)) .e)))))⟩
noncomputable def yg:Fn:=⟨3,4,AC,(.k (.for (.n 3) (.seq (.v 1)) (.k (.ite (.cmp .eq (.idx (.v 3) (.i 0)) (.s "row")) (.k (.expr (.mcl 20 37 (AG "add_row") (.v 0) (.k (.idx (.v 3) (.i 1)) (.k (.v 2) .e)))) .e) (.k (.expr (.mcl 20 35 (AG "go_rounds") (.v 0) (.k (.v 3) (.k (.v 2) .e)))) .e)) .e)) .e)⟩
noncomputable def yj:Fn:=⟨3,5,AC,(.k (.asg (.n 3) (.blt .max (.k (.i 0) (.k (.mcl 20 36 (AG "count_of") (.v 0) (.k (.idx (.v 1) (.i 1)) .e)) .e)))) (.k (.for (.n 4) (.range1 (.v 3)) (.k (.expr (.mcl 20 39 (AG "add_asked") (.v 0) (.k (.idx (.v 1) (.i 2)) (.k (.bin .add (.v 2) (.tup (.k (.v 4) .e))) .e)))) (.k (.expr (.mcl 20 38 (AG "add_round") (.v 0) .e)) (.k (.expr (.mcl 20 34 (AG "go_parts") (.v 0) (.k (.idx (.v 1) (.i 3)) (.k (.bin .add (.v 2) (.tup (.k (.v 4) .e))) .e)))) .e)))) (.k (.expr (.mcl 20 39 (AG "add_asked") (.v 0) (.k (.idx (.v 1) (.i 2)) (.k (.bin .add (.v 2) (.tup (.k (.v 3) .e))) .e)))) .e)))⟩
noncomputable def zz:Fn:=⟨2,5,AC,(.k (.asg (.t [2,3,4]) (.v 1)) (.k (.ret (.bin .add (.bin .add (.v 2) (.bin .mul (.v 3) (.fld 20 (.v 0) (AG "n")))) (.bin .mul (.bin .mul (.v 4) (.fld 20 (.v 0) (AG "w"))) (.fld 20 (.v 0) (AG "n"))))) .e))⟩
def zC:Fn:=⟨3,6,AC,(.k (.asg (.t [3,4]) (.call 45 (.k (.v 2) .e))) (.k (.asg (.n 5) (.blt .tuple (.k (.comp [AD,AA 3,AA 4,AA 0] (.n 0) (.seq (.v 1)) (.cst (.bl AB)) (.call 46 (.k (.v 0) (.k (.fld 20 (.v 3) (AG "n")) (.k (.v 1) (.k (.v 2) .e)))))) .e))) (.k (.sfl 20 (.v 0) (AG "rows") (.bin .add (.fld 20 (.v 0) (AG "rows")) (.i 1))) (.k (.ite (.or (.not (.call 20 (.k (.v 5) .e))) (.cmp .gt (.fld 20 (.v 0) (AG "rows")) (.cst zcX))) (.k .nope .e) .e) (.k (.expr (.mth .append (.fld 20 (.v 0) (AG "steps")) (.k (.tup (.k (.s "row") (.k (.v 5) .e))) .e))) .e)))))⟩
def zx:Fn:=⟨1,1,AC,(.k (.sfl 20 (.v 0) (AG "rounds") (.bin .add (.fld 20 (.v 0) (AG "rounds")) (.i 1))) (.k (.ite (.cmp .gt (.fld 20 (.v 0) (AG "rounds")) (.cst zbM)) (.k .nope .e) .e) .e))⟩
noncomputable def zw:Fn:=⟨3,5,AC,(.k (.asg (.t [3,4]) (.call 45 (.k (.v 2) .e))) (.k (.expr (.mth .append (.fld 20 (.v 0) (AG "steps")) (.k (.tup (.k (.s "asked") (.k (.v 1) (.k (.v 3) (.k (.v 4) .e))))) .e))) .e))⟩
def zaJ:Fn:=⟨1,1,AB,(.k (.ret (.call 43 (.k (.v 0) (.k (.cst zeM) .e)))) .e)⟩
noncomputable def zba:Fn:=⟨3,3,AB,(.k (.ret (.blt .tuple (.k (.comp [AD] (.n 0) (.seq (.call 42 (.k (.v 0) (.k (.v 1) (.k (.v 2) .e))))) (.cmp .eq (.idx (.v 0) (.i 0)) (.s "row")) (.idx (.v 0) (.i 1))) .e))) .e)⟩
noncomputable def za2:Fn:=⟨3,4,AB,(.k (.ite (.not (.call 40 (.k (.v 0) .e))) (.k .nope .e) .e) (.k (.asg (.n 3) (.new 20 33 (.k (.v 1) (.k (.v 2) .e)))) (.k (.expr (.mcl 20 34 (AG "go_parts") (.v 3) (.k (.v 0) (.k (.tup .e) .e)))) (.k (.ret (.frz (.fld 20 (.v 3) (AG "steps")))) .e))))⟩
noncomputable def zcF:Fn:=⟨2,2,AB,(.k (.ret (.and (.isi (.v 0) [.tuple]) (.blt .all (.k (.comp [AD,AA 1] (.n 0) (.seq (.v 0)) (.cst (.bl AB)) (.call 44 (.k (.v 0) (.k (.v 1) .e)))) .e)))) .e)⟩
noncomputable def zeN:Fn:=⟨2,2,AB,(.k (.ite (.or (.not (.isi (.v 0) [.tuple])) (.cmp .eq (.blt .len (.k (.v 0) .e)) (.i 0))) (.k (.ret (.cst (.bl AC))) .e) .e) (.k (.ite (.cmp .eq (.idx (.v 0) (.i 0)) (.s "row")) (.k (.ret (.and (.cmp .eq (.blt .len (.k (.v 0) .e)) (.i 2)) (.call 21 (.k (.idx (.v 0) (.i 1)) .e)))) .e) .e) (.k (.ite (.or (.cmp .ne (.idx (.v 0) (.i 0)) (.s "rounds")) (.or (.cmp .ne (.blt .len (.k (.v 0) .e)) (.i 4)) (.cmp .eq (.v 1) (.i 0)))) (.k (.ret (.cst (.bl AC))) .e) .e) (.k (.ret (.and (.call 19 (.k (.idx (.v 0) (.i 1)) (.k (.i 3) .e))) (.and (.call 28 (.k (.idx (.v 0) (.i 2)) .e)) (.call 43 (.k (.idx (.v 0) (.i 3)) (.k (.bin .sub (.v 1) (.i 1)) .e)))))) .e))))⟩
noncomputable def zas:Fn:=⟨1,1,AB,(.k (.ret (.slc (.bin .add (.v 0) (.tup (.k (.i 0) (.k (.i 0) .e)))) (.cst .non) (.i 2))) .e)⟩
noncomputable def zaG:Fn:=⟨4,4,AB,(.k (.ite (.not (.isi (.v 0) [.tuple])) (.k (.ret (.v 0)) .e) .e) (.k (.ret (.tup (.k (.idx (.v 0) (.i 0)) (.k (.call 29 (.k (.idx (.v 0) (.i 1)) (.k (.v 1) (.k (.v 2) (.k (.v 3) .e))))) .e)))) .e))⟩
noncomputable def zcw:Fn:=⟨1,1,AB,(.k (.ite (.not (.call 49 (.k (.v 0) .e))) (.k .nope .e) .e) (.k (.ite (.cmp .eq (.idx (.v 0) (.i 0)) (.s "led")) (.k (.ret (.call 13 (.k (.idx (.v 0) (.i 1)) (.k (.idx (.v 0) (.i 2)) (.k (.idx (.v 0) (.i 3)) .e))))) .e) .e) (.k .nope (.k .nope (.k .nope .e)))))⟩
noncomputable def zaq:Fn:=⟨3,3,AB,(.k (.ret (.call 41 (.k (.call 47 (.k (.v 0) .e)) (.k (.v 1) (.k (.v 2) .e))))) .e)⟩
def zeu:Fn:=⟨1,1,AB,(.k (.ite (.or (.not (.isi (.v 0) [.tuple])) (.cmp .eq (.blt .len (.k (.v 0) .e)) (.i 0))) (.k .nope .e) .e) (.k (.ite (.cmp .eq (.idx (.v 0) (.i 0)) (.s "led")) (.k (.ret (.and (.cmp .eq (.blt .len (.k (.v 0) .e)) (.i 4)) (.and (.cmp .isin (.idx (.v 0) (.i 1)) (.cst zhS)) (.and (.cmp .isin (.idx (.v 0) (.i 2)) (.cst zhS)) (.call 17 (.k (.idx (.v 0) (.i 3)) (.k (.neg (.i 3)) (.k (.i 4) .e)))))))) .e) .e) (.k .nope (.k .nope .e))))⟩
noncomputable def zy:Fn:=⟨2,2,AB,(.k (.ite (.cmp .eq (.idx (.v 0) (.i 0)) (.s "compare")) (.k .nope .e) .e) (.k (.ite (.cmp .eq (.idx (.v 0) (.i 0)) (.s "led")) (.k (.ret (.bin .add (.v 1) (.idx (.v 0) (.i 3)))) .e) .e) (.k .nope .e)))⟩
def zT:Fn:=⟨2,2,AB,(.k (.ret (.ite (.cmp .isin (.idx (.v 0) (.i 0)) (.cst zat)) (.v 1) (.i 0))) .e)⟩
noncomputable def za6:Fn:=⟨3,3,AB,(.k (.ite (.or (.cmp .lt (.v 0) (.i 0)) (.cmp .ge (.v 0) (.bin .shl (.i 1) (.bin .mul (.v 1) (.v 2))))) (.k .nope .e) .e) (.k (.ret (.call 54 (.k (.v 0) (.k (.v 1) (.k (.v 2) .e))))) .e))⟩
noncomputable def zbK:Fn:=⟨2,2,AB,(.k (.ret (.bin .shr (.idx (.v 0) (.neg (.i 1))) (.bin .sub (.v 1) (.i 1)))) .e)⟩
noncomputable def z7:Fn:=⟨3,4,AB,(.k (.asg (.n 3) (.bin .sub (.bin .shl (.i 1) (.v 1)) (.i 1))) (.k (.ret (.blt .tuple (.k (.comp [AD,AA 3,AA 0,AA 1] (.n 0) (.range1 (.v 2)) (.cst (.bl AB)) (.bin .band (.bin .shr (.v 2) (.bin .mul (.v 3) (.v 0))) (.v 1))) .e))) .e))⟩
noncomputable def ya6:Fn:=⟨5,10,AB,(.k (.expr (.call 56 (.k (.v 0) (.k (.v 1) (.k (.v 2) (.k (.v 3) (.k (.v 4) .e))))))) (.k (.ite (.cmp .eq (.idx (.v 0) (.i 0)) (.s "compare")) (.k .nope .e) .e) (.k (.asg (.t [5,6,7]) (.call 57 (.k (.v 0) (.k (.v 1) (.k (.v 2) (.k (.v 3) (.k (.v 4) .e))))))) (.k (.asg (.n 8) (.call 54 (.k (.v 5) (.k (.v 1) (.k (.call 50 (.k (.v 0) (.k (.v 2) .e))) .e))))) (.k (.asg (.n 9) (.call 54 (.k (.bin .sub (.v 3) (.bin .mul (.v 4) (.v 5))) (.k (.v 1) (.k (.call 51 (.k (.v 0) (.k (.v 2) .e))) .e))))) (.k (.ret (.tup (.k (.v 8) (.k (.v 9) (.k (.tup (.k (.v 6) (.k (.v 7) (.k (.ite (.blt .any (.k (.v 8) .e)) (.i 0) (.i 1)) (.k (.call 53 (.k (.v 8) (.k (.v 1) .e))) .e))))) .e))))) .e))))))⟩
def zaf:Fn:=⟨5,5,AB,(.k (.ite (.not (.call 49 (.k (.v 0) .e))) (.k .nope .e) .e) (.k (.expr (.call 52 (.k (.v 3) (.k (.v 1) (.k (.v 2) .e))))) (.k (.expr (.call 52 (.k (.v 4) (.k (.v 1) (.k (.v 2) .e))))) (.k (.ite (.and (.cmp .ne (.v 4) (.i 0)) (.not .nope)) (.k .nope .e) .e) (.k (.ite (.and (.cmp .eq (.v 4) (.i 0)) (.cmp .isin (.idx (.v 0) (.i 0)) (.cst zat))) (.k .nope .e) .e) .e)))))⟩
noncomputable def zbb:Fn:=⟨5,6,AB,(.k (.ite (.cmp .eq (.idx (.v 0) (.i 0)) (.s "led")) (.k (.ret (.call 60 (.k (.v 0) (.k (.v 1) (.k (.v 2) (.k (.v 3) .e)))))) .e) .e) (.k .nope (.k .nope .e)))⟩
noncomputable def z5:Fn:=⟨2,2,AB,(.k (.ret (.bin .sub (.v 0) (.bin .shl (.bin .shr (.v 0) (.bin .sub (.v 1) (.i 1))) (.v 1)))) .e)⟩
noncomputable def zcp:Fn:=⟨2,3,AB,(.k (.asg (.n 2) (.bin .shl (.i 1) (.bin .sub (.v 1) (.i 1)))) (.k (.ret (.ite (.chain .le .lt (.neg (.v 2)) (.v 0) (.v 2)) (.i 0) (.i 1))) .e))⟩
noncomputable def zfi:Fn:=⟨4,6,AB,(.k (.asg (.n 4) (.ite (.cmp .eq (.idx (.v 0) (.i 1)) (.s "signed")) (.call 58 (.k (.v 3) (.k (.bin .mul (.v 1) (.v 2)) .e))) (.v 3))) (.k (.asg (.n 5) (.bin .mul (.v 1) (.call 50 (.k (.v 0) (.k (.v 2) .e))))) (.k (.ite (.cmp .eq (.idx (.v 0) (.i 2)) (.s "signed")) (.k (.ret (.tup (.k (.v 4) (.k (.i 0) (.k (.call 59 (.k (.v 4) (.k (.v 5) .e))) .e))))) .e) .e) (.k (.ret (.tup (.k (.v 4) (.k (.i 0) (.k (.ite (.cmp .eq (.bin .shr (.v 4) (.v 5)) (.i 0)) (.i 0) (.i 1)) .e))))) .e))))⟩
def zfL:Fn:=⟨5,6,AB,(.k (.mkr 5 zJ (.v 0) (.k (.v 1) (.k (.v 2) (.k (.v 3) (.k (.v 4) .e))))) .e)⟩
noncomputable def zbI:Fn:=⟨1,1,AB,(.k (.ret (.bin .sub (.bin .shl (.i 1) (.v 0)) (.i 1))) .e)⟩
noncomputable def zdP:Fn:=⟨4,4,AB,(.k (.ret (.tup (.k (.v 1) (.k (.v 3) .e)))) .e)⟩
noncomputable def zdB:Fn:=⟨4,4,AB,(.k (.ret (.tup (.k (.bin .sub (.call 62 (.k (.v 0) .e)) (.v 1)) (.k (.v 3) .e)))) .e)⟩
noncomputable def zca:Fn:=⟨4,5,AB,(.k (.asg (.n 4) (.bin .add (.bin .add (.v 1) (.v 2)) (.v 3))) (.k (.ret (.tup (.k (.bin .band (.v 4) (.call 62 (.k (.v 0) .e))) (.k (.bin .shr (.v 4) (.v 0)) .e)))) .e))⟩
noncomputable def zaa:Fn:=⟨4,5,AB,(.k (.asg (.n 4) (.bin .sub (.bin .sub (.v 1) (.v 2)) (.v 3))) (.k (.ret (.tup (.k (.bin .band (.v 4) (.call 62 (.k (.v 0) .e))) (.k (.ite (.cmp .lt (.v 4) (.i 0)) (.i 1) (.i 0)) .e)))) .e))⟩
noncomputable def zbC:Fn:=⟨4,4,AB,(.k (.ret (.tup (.k (.bin .band (.v 1) (.v 2)) (.k (.v 3) .e)))) .e)⟩
noncomputable def zcl:Fn:=⟨4,4,AB,(.k (.ret (.tup (.k (.bin .bor (.v 1) (.v 2)) (.k (.v 3) .e)))) .e)⟩
noncomputable def zci:Fn:=⟨4,4,AB,(.k (.ret (.tup (.k (.bin .bxor (.v 1) (.v 2)) (.k (.v 3) .e)))) .e)⟩
noncomputable def zbr:Fn:=⟨4,4,AB,(.k (.ret (.call 65 (.k (.v 0) (.k (.v 1) (.k (.v 1) (.k (.v 3) .e)))))) .e)⟩
noncomputable def zcn:Fn:=⟨4,4,AB,(.k (.ret (.tup (.k (.bin .bor (.bin .shr (.v 1) (.i 1)) (.bin .shl (.v 3) (.bin .sub (.v 0) (.i 1)))) (.k (.bin .band (.v 1) (.i 1)) .e)))) .e)⟩
noncomputable def zE:Fn:=⟨2,2,AC,(.k (.sfl 21 (.v 0) (AG "w") (.v 1)) (.k (.sfl 21 (.v 0) (AG "words") (.dict0 AB)) (.k (.sfl 21 (.v 0) (AG "marked") (.i 0)) .e)))⟩
noncomputable def zaj:Fn:=⟨4,5,AC,(.k (.asg (.n 4) (.call 79 (.k (.v 1) (.k (.v 2) .e)))) (.k (.ite (.not (.call 17 (.k (.v 3) (.k (.i 0) (.k (.call 62 (.k (.fld 21 (.v 0) (AG "w")) .e)) .e))))) (.k .nope .e) .e) (.k (.dput (.fld 21 (.v 0) (AG "words")) (.v 4) (.v 3)) .e)))⟩
noncomputable def z4:Fn:=⟨3,3,AC,(.k (.ret (.mcl 21 76 (AG "held_in") (.v 0) (.k (.call 79 (.k (.v 1) (.k (.v 2) .e))) .e))) .e)⟩
noncomputable def yt:Fn:=⟨2,3,AC,(.k (.for (.n 2) (.seq (.v 1)) (.k (.expr (.call 80 (.k (.v 2) .e))) .e)) (.k (.for (.n 2) (.seq (.v 1)) (.k (.expr (.mcl 21 77 (AG "go_row") (.v 0) (.k (.v 2) .e))) .e)) .e))⟩
noncomputable def zI:Fn:=⟨2,2,AC,(.k (.ret (.mth .get (.fld 21 (.v 0) (AG "words")) (.k (.v 1) (.k (.i 0) .e)))) .e)⟩
def zj:Fn:=⟨2,2,AC,(.k (.ite (.cmp .eq (.idx (.v 1) (.i 0)) (.s "mark")) (.k (.sfl 21 (.v 0) (AG "marked") (.idx (.v 1) (.i 1))) .e) (.k (.ite (.cmp .eq (.idx (.v 1) (.i 0)) (.s "ask")) (.k (.sfl 21 (.v 0) (AG "marked") (.ite (.cmp .eq (.mcl 21 76 (AG "held_in") (.v 0) (.k (.idx (.v 1) (.i 1)) .e)) (.i 0)) (.i 0) (.i 1))) .e) (.k (.ite (.cmp .eq (.idx (.v 1) (.i 0)) (.s "set")) (.k (.dput (.fld 21 (.v 0) (AG "words")) (.idx (.v 1) (.i 1)) (.idx (.v 1) (.i 2))) .e) (.k (.ite (.cmp .eq (.idx (.v 1) (.i 0)) (.s "times")) (.k .nope .e) (.k (.expr (.mcl 21 78 (AG "go_made") (.v 0) (.k (.v 1) .e))) .e)) .e)) .e)) .e)) .e)⟩
noncomputable def zK:Fn:=⟨2,6,AC,(.k (.asg (.t [2,3]) (.tup (.k (.mcl 21 76 (AG "held_in") (.v 0) (.k (.idx (.v 1) (.i 2)) .e)) (.k (.mcl 21 76 (AG "held_in") (.v 0) (.k (.idx (.v 1) (.neg (.i 1))) .e)) .e)))) (.k (.asg (.t [4,5]) (.call 61 (.k (.idx (.v 1) (.i 0)) (.k (.fld 21 (.v 0) (AG "w")) (.k (.v 2) (.k (.v 3) (.k (.fld 21 (.v 0) (AG "marked")) .e))))))) (.k (.dput (.fld 21 (.v 0) (AG "words")) (.idx (.v 1) (.i 1)) (.v 4)) (.k (.sfl 21 (.v 0) (AG "marked") (.v 5)) .e))))⟩
noncomputable def zaS:Fn:=⟨2,2,AB,(.k (.ite (.not (.call 25 (.k (.tup (.k (.v 0) (.k (.v 1) .e))) .e))) (.k .nope .e) .e) (.k (.ret (.tup (.k (.v 0) (.k (.v 1) .e)))) .e))⟩
noncomputable def z8:Fn:=⟨1,1,AB,(.k (.ite (.not (.call 20 (.k (.v 0) .e))) (.k .nope .e) .e) .e)⟩
def yb9:Fn:=⟨5,7,AB,(.k (.expr (.call 56 (.k (.v 0) (.k (.v 1) (.k (.v 2) (.k (.v 3) (.k (.v 4) .e))))))) (.k (.asg (.n 5) (.call 82 (.k (.v 1) (.k (.v 2) (.k (.v 3) (.k (.v 4) .e)))))) (.k (.expr (.mcl 21 75 (AG "run") (.v 5) (.k (.call 48 (.k (.v 0) (.k (.v 1) (.k (.v 2) .e)))) .e))) (.k (.asg (.n 6) (.call 83 (.k (.v 5) (.k (.s "c") (.k (.call 50 (.k (.v 0) (.k (.v 2) .e))) .e))))) (.k (.ret (.tup (.k (.v 6) (.k (.call 83 (.k (.v 5) (.k (.s "d") (.k (.call 51 (.k (.v 0) (.k (.v 2) .e))) .e)))) (.k (.call 83 (.k (.v 5) (.k (.s "m") (.k (.cst zb5) .e)))) .e))))) .e)))))⟩
def yp:Fn:=⟨4,9,AC,(.k (.asg (.n 4) (.new 21 72 (.k (.v 0) .e))) (.k (.for (.t [5,6]) (.seq (.tup (.k (.tup (.k (.s "a") (.k (.v 2) .e))) (.k (.tup (.k (.s "b") (.k (.v 3) .e))) .e)))) (.k (.for (.t [7,8]) (.enum (.call 54 (.k (.v 6) (.k (.v 0) (.k (.v 1) .e))))) (.k (.expr (.mcl 21 73 (AG "put") (.v 4) (.k (.v 5) (.k (.v 7) (.k (.v 8) .e))))) .e)) .e)) (.k (.ret (.v 4)) .e)))⟩
noncomputable def yaj:Fn:=⟨3,3,AC,(.k (.ret (.blt .tuple (.k (.comp [AD,AA 1,AA 0] (.n 0) (.range1 (.v 2)) (.cst (.bl AB)) (.mcl 21 74 (AG "word") (.v 2) (.k (.v 1) (.k (.v 0) .e)))) .e))) .e)⟩
noncomputable def zce:Fn:=⟨1,1,AC,(.k (.ret (.newl (.k (.slc (.v 0) (.cst .non) (.i 63)) (.k (.i 0) (.k (.i 0) (.k (.cst (.bl AC)) .e)))))) .e)⟩
noncomputable def yas:Fn:=⟨1,8,AB,(.k (.asg (.n 1) (.tup (.k (.i 2147483647) (.k (.i 2147483629) (.k (.i 2147483587) (.k (.i 2147483579) (.k (.i 2147483563) .e))))))) (.k (.asg (.n 2) (.i 0)) (.k (.for (.t [3,4]) (.enum (.v 1)) (.k (.asg (.n 5) (.bin .add (.v 0) (.idx (.tup (.k (.i 11) (.k (.i 101) (.k (.i 1009) (.k (.i 10007) (.k (.i 100003) .e)))))) (.v 3)))) (.k (.asg (.n 5) (.bin .mod (.bin .mul (.v 5) (.bin .add (.i 48271) (.bin .mul (.i 2) (.v 3)))) (.v 4))) (.k (.asg (.n 6) (.bin .mod (.bin .mul (.v 5) (.v 5)) (.v 4))) (.k (.asg (.n 7) (.bin .mod (.bin .mul (.bin .mod (.bin .mul (.v 6) (.v 6)) (.v 4)) (.v 5)) (.v 4))) (.k (.asg (.n 2) (.bin .add (.bin .mul (.v 2) (.v 4)) (.v 7))) .e)))))) (.k (.ret (.v 2)) .e))))⟩
noncomputable def yad:Fn:=⟨1,4,AC,(.k (.asg (.t [1,2]) (.tup (.k (.idx (.v 0) (.i 0)) (.k (.idx (.v 0) (.i 1)) .e)))) (.k (.asg (.n 3) (.bin .add (.bin .mul (.i 31) (.v 2)) (.i 7))) (.k (.ite (.cmp .gt (.blt .len (.k (.v 1) .e)) (.i 0)) (.k (.asg (.n 3) (.bin .mul (.i 104729) (.bin .fdiv (.v 2) (.blt .len (.k (.v 1) .e))))) (.k (.asg (.n 3) (.bin .add (.v 3) (.idx (.v 1) (.bin .mod (.v 2) (.blt .len (.k (.v 1) .e)))))) .e)) .e) (.k (.six (.v 0) (.i 1) (.bin .add (.v 2) (.i 1))) (.k (.six (.v 0) (.i 3) (.or (.cmp .ge (.v 2) (.blt .len (.k (.v 1) .e))) (.cmp .lt (.v 3) (.bin .pow (.i 10) (.i 18))))) (.k (.ite (.idx (.v 0) (.i 3)) (.k (.six (.v 0) (.i 2) (.call 85 (.k (.v 3) .e))) .e) (.k (.six (.v 0) (.i 2) (.bin .sub (.v 3) (.bin .pow (.i 10) (.i 18)))) .e)) .e))))))⟩
noncomputable def yR:Fn:=⟨2,4,AC,(.k (.asg (.n 2) (.i 0)) (.k (.while (.and (.cmp .lt (.v 2) (.i 64)) (.or (.cmp .eq (.idx (.v 0) (.i 2)) (.i 0)) (.and (.idx (.v 0) (.i 3)) (.cmp .lt (.idx (.v 0) (.i 2)) (.bin .mul (.v 1) (.i 4096)))))) (.k (.expr (.call 86 (.k (.v 0) .e))) (.k (.aug 2 .add (.i 1)) (.k (.ite (.and (.idx (.v 0) (.i 3)) (.cmp .lt (.idx (.v 0) (.i 2)) (.bin .mul (.v 1) (.i 4096)))) (.k (.six (.v 0) (.i 2) (.bin .add (.idx (.v 0) (.i 2)) (.bin .mul (.bin .mul (.v 1) (.i 4096)) (.bin .add (.i 1) (.bin .mod (.idx (.v 0) (.i 2)) (.i 4093)))))) .e) .e) .e)))) (.k (.asg (.n 3) (.bin .mod (.idx (.v 0) (.i 2)) (.v 1))) (.k (.six (.v 0) (.i 2) (.bin .fdiv (.idx (.v 0) (.i 2)) (.v 1))) (.k (.ret (.v 3)) .e)))))⟩
noncomputable def zcb:Fn:=⟨2,2,AC,(.k (.ret (.tup (.k (.bin .add (.i 4) (.call 87 (.k (.v 0) (.k (.i 13) .e)))) (.k (.bin .add (.i 1) (.call 87 (.k (.v 0) (.k (.v 1) .e)))) .e)))) .e)⟩
noncomputable def yN:Fn:=⟨3,13,AC,(.k (.asg (.n 3) (.call 87 (.k (.v 0) (.k (.i 12) .e)))) (.k (.asg (.n 4) (.i 1)) (.k (.for (.n 5) (.range1 (.bin .mul (.v 1) (.v 2))) (.k (.asg (.n 4) (.bin .mul (.i 2) (.v 4))) .e)) (.k (.asg (.n 6) (.tup (.k (.i 0) (.k (.i 1) (.k (.bin .sub (.v 4) (.i 1)) (.k (.bin .fdiv (.v 4) (.i 2)) (.k (.bin .sub (.bin .fdiv (.v 4) (.i 2)) (.i 1)) (.k (.bin .sub (.v 4) (.i 2)) .e)))))))) (.k (.ite (.cmp .lt (.v 3) (.i 6)) (.k (.ret (.idx (.v 6) (.v 3))) .e) .e) (.k (.asg (.n 7) (.call 87 (.k (.v 0) (.k (.v 4) .e)))) (.k (.ite (.cmp .eq (.v 3) (.i 6)) (.k (.asg (.n 8) (.i 1)) (.k (.for (.n 5) (.range1 (.call 87 (.k (.v 0) (.k (.bin .mul (.v 1) (.v 2)) .e)))) (.k (.asg (.n 8) (.bin .mul (.i 2) (.v 8))) .e)) (.k (.ret (.bin .mul (.bin .fdiv (.v 7) (.v 8)) (.v 8))) .e))) .e) (.k (.ite (.cmp .eq (.v 3) (.i 7)) (.k (.asg (.n 8) (.i 1)) (.k (.for (.n 5) (.range1 (.call 87 (.k (.v 0) (.k (.bin .mul (.v 1) (.v 2)) .e)))) (.k (.asg (.n 8) (.bin .mul (.i 2) (.v 8))) .e)) (.k (.ret (.bin .sub (.v 4) (.v 8))) .e))) .e) (.k (.ite (.cmp .gt (.v 3) (.i 9)) (.k (.ret (.v 7)) .e) .e) (.k (.asg (.n 9) (.i 1)) (.k (.for (.n 5) (.range1 (.v 1)) (.k (.asg (.n 9) (.bin .mul (.i 2) (.v 9))) .e)) (.k (.asg (.n 10) (.i 0)) (.k (.for (.n 5) (.range1 (.v 2)) (.k (.asg (.n 11) (.bin .mod (.bin .fdiv (.v 7) (.bin .add (.v 5) (.i 1))) (.v 9))) (.k (.asg (.n 12) (.tup (.k (.i 0) (.k (.i 1) (.k (.bin .sub (.v 9) (.i 1)) (.k (.bin .fdiv (.v 9) (.i 2)) (.k (.v 11) .e))))))) (.k (.asg (.n 10) (.bin .add (.bin .mul (.v 10) (.v 9)) (.idx (.v 12) (.call 87 (.k (.v 0) (.k (.i 5) .e)))))) .e)))) (.k (.ret (.v 10)) .e))))))))))))))⟩
noncomputable def zbE:Fn:=⟨1,3,AB,(.k (.asg (.n 1) (.i 1)) (.k (.for (.n 2) (.range1 (.v 0)) (.k (.asg (.n 1) (.bin .mul (.i 2) (.v 1))) .e)) (.k (.ret (.v 1)) .e)))⟩
noncomputable def zcj:Fn:=⟨3,6,AB,(.k (.asg (.n 3) (.call 90 (.k (.v 1) .e))) (.k (.asg (.n 4) (.newl .e)) (.k (.for (.n 5) (.range1 (.v 2)) (.k (.expr (.mth .append (.v 4) (.k (.bin .mod (.v 0) (.v 3)) .e))) (.k (.asg (.n 0) (.bin .fdiv (.v 0) (.v 3))) .e))) (.k (.ret (.blt .tuple (.k (.v 4) .e))) .e))))⟩
noncomputable def zbT:Fn:=⟨2,3,AB,(.k (.asg (.n 2) (.call 90 (.k (.v 1) .e))) (.k (.ite (.cmp .ge (.bin .mul (.i 2) (.v 0)) (.v 2)) (.k (.ret (.bin .sub (.v 0) (.v 2))) .e) .e) (.k (.ret (.v 0)) .e)))⟩
noncomputable def zch:Fn:=⟨1,1,AB,(.k (.ret (.and (.isi (.v 0) [.int]) (.not (.isi (.v 0) [.bool])))) .e)⟩
noncomputable def zbu:Fn:=⟨3,3,AB,(.k (.ite (.or (.not (.isi (.v 0) [.tuple])) (.cmp .ne (.blt .len (.k (.v 0) .e)) (.v 1))) (.k .nope .e) .e) (.k (.ret (.blt .all (.k (.comp [AD,AA 2] (.n 0) (.seq (.v 0)) (.cst (.bl AB)) (.and (.call 93 (.k (.v 0) .e)) (.chain .le .le (.bin .sub (.i 0) (.v 1)) (.v 0) (.v 1)))) .e))) .e))⟩
noncomputable def zbR:Fn:=⟨3,3,AB,(.k (.ite (.or (.not (.isi (.v 0) [.tuple])) (.or (.cmp .ne (.blt .len (.k (.v 0) .e)) (.v 2)) (.not (.blt .all (.k (.comp [AD] (.n 0) (.seq (.v 0)) (.cst (.bl AB)) (.call 93 (.k (.v 0) .e))) .e))))) (.k .nope .e) .e) (.k (.ret (.blt .all (.k (.comp [AD,AA 1] (.n 0) (.seq (.v 0)) (.cst (.bl AB)) (.chain .le .lt (.i 0) (.v 0) (.call 90 (.k (.v 1) .e)))) .e))) .e))⟩
noncomputable def zds:Fn:=⟨2,3,AB,(.k (.asg (.n 2) (.call 90 (.k (.v 1) .e))) (.k (.ret (.chain .le .lt (.bin .sub (.i 0) (.v 2)) (.bin .mul (.i 2) (.v 0)) (.v 2))) .e))⟩
noncomputable def zdQ:Fn:=⟨2,2,AB,(.k (.ret (.tup (.k (.blt .int (.k (.cmp .eq (.v 0) (.i 0)) .e)) (.k (.blt .int (.k (.cmp .ge (.bin .mul (.i 2) (.v 0)) (.call 90 (.k (.v 1) .e))) .e)) .e)))) .e)⟩
noncomputable def zbD:Fn:=⟨6,8,AC,(.k (.asg (.n 6) (.v 5)) (.k (.ite (.cmp .eq (.v 0) (.s "signed")) (.k (.asg (.n 6) (.call 92 (.k (.v 5) (.k (.bin .mul (.v 3) (.v 4)) .e)))) .e) .e) (.k (.asg (.n 7) (.bin .mul (.v 3) (.bin .add (.v 4) (.v 2)))) (.k (.ite (.cmp .eq (.v 1) (.s "signed")) (.k (.ret (.tup (.k (.v 6) (.k (.blt .int (.k (.not (.call 96 (.k (.v 6) (.k (.v 7) .e)))) .e)) .e)))) .e) .e) (.k (.ret (.tup (.k (.v 6) (.k (.blt .int (.k (.not (.chain .le .lt (.i 0) (.v 6) (.call 90 (.k (.v 7) .e)))) .e)) .e)))) .e)))))⟩
noncomputable def zF:Fn:=⟨1,7,AC,(.k (.asg (.t [1,2]) (.call 88 (.k (.v 0) (.k (.i 4) .e)))) (.k (.asg (.n 3) (.bin .sub (.call 87 (.k (.v 0) (.k (.i 8) .e))) (.i 3))) (.k (.asg (.n 4) (.call 87 (.k (.v 0) (.k (.i 6) .e)))) (.k (.asg (.n 2) (.blt .max (.k (.v 2) (.k (.bin .sub (.i 1) (.v 3)) .e)))) (.k (.asg (.n 5) (.call 89 (.k (.v 0) (.k (.v 1) (.k (.v 2) .e))))) (.k (.ite (.cmp .lt (.v 3) (.i 0)) (.k (.asg (.n 6) (.call 90 (.k (.bin .mul (.v 1) (.bin .add (.v 2) (.v 3))) .e))) (.k (.ite (.cmp .lt (.v 4) (.i 4)) (.k (.asg (.n 5) (.bin .add (.call 89 (.k (.v 0) (.k (.v 1) (.k (.bin .add (.v 2) (.v 3)) .e)))) (.bin .mul (.bin .fdiv (.v 4) (.i 2)) (.bin .sub (.call 90 (.k (.bin .mul (.v 1) (.v 2)) .e)) (.v 6))))) .e) .e) (.k (.ite (.cmp .eq (.v 4) (.i 4)) (.k (.asg (.n 5) (.bin .mul (.bin .fdiv (.v 5) (.v 6)) (.v 6))) .e) .e) .e))) .e) (.k (.ret (.tup (.k (.v 1) (.k (.v 2) (.k (.v 3) (.k (.v 5) .e)))))) .e)))))))⟩
noncomputable def yV:Fn:=⟨2,3,AB,(.k (.ite (.or (.not (.isi (.v 0) [.tuple])) (.cmp .ne (.blt .len (.k (.v 0) .e)) (.i 3))) (.k .nope .e) .e) (.k (.for (.n 2) (.seq (.slc (.v 0) (.cst .non) (.i 2))) (.k (.ite (.or (.not (.isi (.v 2) [.tuple])) (.not (.call 95 (.k (.v 2) (.k (.v 1) (.k (.blt .len (.k (.v 2) .e)) .e)))))) (.k .nope .e) .e) .e)) (.k (.ret (.call 94 (.k (.idx (.v 0) (.i 2)) (.k (.i 4) (.k (.i 1) .e))))) .e)))⟩
def yaK:Fn:=⟨1,15,AB,(.k (.asg (.n 1) (.call 84 (.k (.v 0) .e))) (.k (.for (.n 2) (.range1 (.i 2)) (.k (.asg (.t [3,4,5,6]) (.call 99 (.k (.v 1) .e))) (.k (.for (.n 7) (.seq (.tup (.k (.s "plain") (.k (.s "signed") .e)))) (.k (.for (.n 8) (.seq (.tup (.k (.s "plain") (.k (.s "signed") .e)))) (.k (.asg (.n 9) (.tup (.k (.s "led") (.k (.v 7) (.k (.v 8) (.k (.v 5) .e)))))) (.k (.asg (.t [10,11]) (.call 98 (.k (.v 7) (.k (.v 8) (.k (.v 5) (.k (.v 3) (.k (.v 4) (.k (.v 6) .e)))))))) (.k (.asg (.n 12) (.bin .mul (.v 3) (.bin .add (.v 4) (.v 5)))) (.k (.asg (.n 10) (.bin .mod (.v 10) (.call 90 (.k (.v 12) .e)))) (.k (.asg (.n 13) (.tup (.k (.call 91 (.k (.v 10) (.k (.v 3) (.k (.bin .add (.v 4) (.v 5)) .e)))) (.k (.tup .e) (.k (.bin .add (.tup (.k (.i 0) (.k (.v 11) .e))) (.call 97 (.k (.v 10) (.k (.v 12) .e)))) .e))))) (.k (.for (.n 14) (.seq (.tup (.k (.call 55 (.k (.v 9) (.k (.v 3) (.k (.v 4) (.k (.v 6) (.k (.i 0) .e)))))) (.k (.call 81 (.k (.v 9) (.k (.v 3) (.k (.v 4) (.k (.v 6) (.k (.i 0) .e)))))) (.k (.call 55 (.k (.v 9) (.k (.v 3) (.k (.v 4) (.k (.v 6) (.k (.i 0) .e)))))) .e))))) (.k (.ite (.or (.not (.call 100 (.k (.v 14) (.k (.v 3) .e)))) (.cmp .ne (.v 14) (.v 13))) (.k .nope .e) .e) .e)) .e))))))) .e)) .e))) (.k (.ret (.cst (.bl AB))) .e)))⟩
def Tl:List Fn:=[zkb,zcT,zka,zfl,zfX,zjU,zbP,zcA,zaT,zbQ,zay,zbU,zbf,zbB,zfu,zer,zea,zal,zbi,zdc,zcf,zbz,yM,za9,zQ,zbA,zbd,zah,zbx,za7,zd6,zb4,zdo,zN,yg,yj,zz,zC,zx,zw,zaJ,zba,za2,zcF,zeN,zas,zaG,zcw,zaq,zeu,zy,zT,za6,zbK,z7,ya6,zaf,zbb,z5,zcp,zfi,zfL,zbI,zdP,zdB,zca,zaa,zbC,zcl,zci,zbr,zcn,zE,zaj,z4,yt,zI,zj,zK,zaS,z8,yb9,yp,yaj,zce,yas,yad,yR,zcb,yN,zbE,zcj,zbT,zch,zbu,zbR,zds,zdQ,zbD,zF,yV,yaK]
def T(i:Nat):Option Fn:=Tl[i]?
noncomputable abbrev zaw:Nat:=17
noncomputable abbrev zbl:Nat:=18
noncomputable abbrev za0:Nat:=20
noncomputable abbrev zbX:Nat:=22
noncomputable abbrev zb0:Nat:=23
noncomputable abbrev zB:Nat:=24
noncomputable abbrev zes:Nat:=25
noncomputable abbrev zbO:Nat:=27
noncomputable abbrev zdk:Nat:=29
noncomputable abbrev zad:Nat:=33
noncomputable abbrev zM:Nat:=34
noncomputable abbrev zp:Nat:=35
noncomputable abbrev zL:Nat:=36
noncomputable abbrev zau:Nat:=37
noncomputable abbrev zH:Nat:=38
noncomputable abbrev zG:Nat:=39
noncomputable abbrev zR:Nat:=40
noncomputable abbrev zdr:Nat:=41
noncomputable abbrev zdb:Nat:=42
noncomputable abbrev zaC:Nat:=45
noncomputable abbrev zaZ:Nat:=46
noncomputable abbrev zbH:Nat:=47
noncomputable abbrev zaz:Nat:=48
noncomputable abbrev zeU:Nat:=49
noncomputable abbrev zt:Nat:=50
noncomputable abbrev zS:Nat:=51
noncomputable abbrev zaW:Nat:=52
noncomputable abbrev zaN:Nat:=53
noncomputable abbrev zo:Nat:=54
noncomputable abbrev zdv:Nat:=55
noncomputable abbrev zaB:Nat:=56
noncomputable abbrev zb2:Nat:=57
noncomputable abbrev zZ:Nat:=58
noncomputable abbrev zdD:Nat:=59
noncomputable abbrev zk4:Nat:=60
noncomputable abbrev zhp:Nat:=61
noncomputable abbrev zcI:Nat:=62
noncomputable abbrev zfg:Nat:=63
noncomputable abbrev ze9:Nat:=64
noncomputable abbrev zdF:Nat:=65
noncomputable abbrev zaU:Nat:=66
noncomputable abbrev zcx:Nat:=67
noncomputable abbrev zdw:Nat:=68
noncomputable abbrev zdG:Nat:=69
noncomputable abbrev zcN:Nat:=70
noncomputable abbrev zdW:Nat:=71
noncomputable abbrev zV:Nat:=72
noncomputable abbrev zby:Nat:=73
noncomputable abbrev zO:Nat:=74
noncomputable abbrev zaD:Nat:=75
noncomputable abbrev zu:Nat:=76
noncomputable abbrev zl:Nat:=77
noncomputable abbrev zY:Nat:=78
noncomputable abbrev zaL:Nat:=79
noncomputable abbrev zP:Nat:=80
noncomputable abbrev zjp:Nat:=81
noncomputable abbrev zav:Nat:=82
noncomputable abbrev zap:Nat:=83
noncomputable abbrev zdU:Nat:=84
noncomputable abbrev zdV:Nat:=85
noncomputable abbrev zib:Nat:=86
noncomputable abbrev zcz:Nat:=87
noncomputable abbrev zdz:Nat:=88
noncomputable abbrev zfC:Nat:=89
noncomputable abbrev zao:Nat:=90
noncomputable abbrev zdS:Nat:=91
noncomputable abbrev zcM:Nat:=92
noncomputable abbrev zbS:Nat:=93
noncomputable abbrev zep:Nat:=94
noncomputable abbrev zef:Nat:=95
noncomputable abbrev zeW:Nat:=96
noncomputable abbrev zfc:Nat:=97
noncomputable abbrev zfJ:Nat:=98
noncomputable abbrev zaP:Nat:=99
noncomputable abbrev zc3:Nat:=100
noncomputable abbrev ziK:Nat:=101
end IC
namespace WK
open PySem L2 IC
noncomputable def top(i:Nat):Stmt:=EV.main.body.getD i (.Pass ⟨0,0,0,0⟩)
def tbQ:Tb where
 tbl:=[⟨"word","word","word",top 15,["letter","c","i","j","m"],["letter","c","i","j","m"],zkb,.fd [0,0,0,0]⟩,⟨"last_word","last_word","last_word",top 16,["letter"],["letter"],zcT,.fn⟩,⟨"rows","rows","rows",top 17,["told"],["told"],zka,.fn⟩,⟨"rounds","rounds","rounds",top 18,["count","sentence","inner"],["count","sentence","inner"],zfl,.fn⟩,⟨"lowest","lowest","lowest",top 19,["letter","c","i","j","m"],["letter","c","i","j","m"],zfX,.fd [0,0,0,0]⟩,⟨"term","term","term",top 20,["f","things","i","p","q","r"],["f","things","i","p","q","r"],zjU,.fd [0,0,0,0]⟩,⟨"moved_parts","moved","moved",top 21,["to","source","c","sentence"],["to","source","c"],zbP,.fd [0]⟩,⟨"kept_mark","kept_mark","kept_mark",top 25,["to"],["to"],zcA,.fn⟩,⟨"kept_contrary","kept_contrary","kept_contrary",top 26,["to"],["to"],zaT,.fn⟩,⟨"sign_filled","sign_filled","sign_filled",top 27,["to","last"],["to","last"],zbQ,.fn⟩,⟨"gathered_unlike","gathered_unlike","gathered_unlike",top 28,["to","here","fill","count"],["to","here","fill","count"],zay,.fn⟩,⟨"asked_words","asked_words","asked_words",top 29,["letter","m","count","gathered"],["letter","m","count"],zbU,.fn⟩,⟨"answer_marks","answer_marks","answer_marks",top 30,["c","m","sign"],["c","m"],zbf,.fn⟩,⟨"led_telling","led_telling","led_telling",top 35,["read","meant","e","told"],["read","meant","e"],zbB,.fn⟩,⟨"filled","filled","filled",top 36,["to","way","last"],["to","way","last"],zfu,.fn⟩,⟨"widened","widened","widened",top 37,["e","sentence"],["e"],zer,.fn⟩,⟨"dropped","dropped","dropped",top 38,["e"],["e"],zea,.fn⟩,⟨"is_whole","is_whole","is_whole",top 60,["thing","low","high"],["thing","low","high"],zal,.fn⟩,⟨"is_letter","is_letter","is_letter",top 61,["thing"],["thing"],zbi,.fn⟩,⟨"are_told","are_told","are_told",top 62,["thing","many"],["thing","many"],zdc,.fn⟩,⟨"is_row","is_row","is_row",top 103,["thing"],["thing"],zcf,.fn⟩,⟨"is_told_row","is_told_row","is_told_row",top 104,["thing"],["thing"],zbz,.fn⟩,⟨"has_form","has_form","has_form",top 105,["thing","told","kind","operand"],["thing","told"],yM,.fn⟩,⟨"is_named","is_named","is_named",top 106,["thing"],["thing"],za9,.fn⟩,⟨"is_operand","is_operand","is_operand",top 107,["kind","thing","told"],["kind","thing","told"],zQ,.fn⟩,⟨"is_cell","is_cell","is_cell",top 108,["thing"],["thing"],zbA,.fn⟩,⟨"is_told_cell","is_told_cell","is_told_cell",top 109,["thing"],["thing"],zbd,.fn⟩,⟨"is_lettered","is_lettered","is_lettered",top 110,["thing"],["thing"],zah,.fn⟩,⟨"is_sentence","is_sentence","is_sentence",top 115,["thing"],["thing"],zbx,.fn⟩,⟨"place_of","place_of","place_of",top 116,["told","n","i","j"],["told","n","i","j"],za7,.fn⟩,⟨"is_term","is_term","is_term",top 117,["thing","f","exponent","things"],["thing"],zd6,.fn⟩,⟨"are_things","are_things","are_things",top 118,["thing"],["thing"],zb4,.fn⟩,⟨"is_thing","is_thing","is_thing",top 119,["thing"],["thing"],zdo,.fn⟩,⟨"","__init__","Unrolling.__init__",inClass (top 124) 0,["self","w","n"],["self","w","n"],zN,.ini 20⟩,⟨"","go_parts","Unrolling.go_parts",inClass (top 124) 1,["self","parts","gone","part"],["self","parts","gone"],yg,.me 20⟩,⟨"","go_rounds","Unrolling.go_rounds",inClass (top 124) 2,["self","part","gone","count","at"],["self","part","gone"],yj,.me 20⟩,⟨"","count_of","Unrolling.count_of",inClass (top 124) 3,["self","told","c","m","t"],["self","told"],zz,.me 20⟩,⟨"","add_row","Unrolling.add_row",inClass (top 124) 4,["self","told","gone","i","j","row"],["self","told","gone"],zC,.me 20⟩,⟨"","add_round","Unrolling.add_round",inClass (top 124) 5,["self"],["self"],zx,.me 20⟩,⟨"","add_asked","Unrolling.add_asked",inClass (top 124) 6,["self","sentence","gone","i","j"],["self","sentence","gone"],zw,.me 20⟩,⟨"is_telling","is_telling","is_telling",top 125,["thing"],["thing"],zaJ,.fn⟩,⟨"unrolled","unrolled","unrolled",top 126,["telling","w","n"],["telling","w","n"],zba,.fn⟩,⟨"steps_of","steps_of","steps_of",top 127,["telling","w","n","unrolling"],["telling","w","n"],za2,.fn⟩,⟨"are_parts","are_parts","are_parts",top 128,["thing","nests"],["thing","nests"],zcF,.fn⟩,⟨"is_part","is_part","is_part",top 129,["thing","nests"],["thing","nests"],zeN,.fn⟩,⟨"both_gone","both_gone","both_gone",top 130,["gone"],["gone"],zas,.fn⟩,⟨"placed","placed","placed",top 131,["thing","n","i","j"],["thing","n","i","j"],zaG,.fn⟩,⟨"telling","telling","telling",top 140,["deed"],["deed"],zcw,.fn⟩,⟨"deed_rows","deed_rows","deed_rows",top 141,["deed","w","n"],["deed","w","n"],zaq,.fn⟩,⟨"is_deed","is_deed","is_deed",top 142,["thing"],["thing"],zeu,.fn⟩,⟨"answer_words","answer_words","answer_words",top 144,["deed","n"],["deed","n"],zy,.fn⟩,⟨"rest_words","rest_words","rest_words",top 145,["deed","n"],["deed","n"],zT,.fn⟩,⟨"words_of","words_of","words_of",top 149,["worth","w","n"],["worth","w","n"],za6,.fn⟩,⟨"sign_of","sign_of","sign_of",top 150,["number","w"],["number","w"],zbK,.fn⟩,⟨"lowest_words","lowest_words","lowest_words",top 151,["worth","w","n","highest"],["worth","w","n"],z7,.fn⟩,⟨"comes","comes","comes",top 153,["deed","w","n","x","y","worth","first","second","answer","rest"],["deed","w","n","x","y"],ya6,.fn⟩,⟨"refuse_deed","refuse_deed","refuse_deed",top 154,["deed","w","n","x","y"],["deed","w","n","x","y"],zaf,.fn⟩,⟨"reckoned","reckoned","reckoned",top 155,["deed","w","n","x","y","reckon"],["deed","w","n","x","y"],zbb,.fn⟩,⟨"signed_worth","signed_worth","signed_worth",top 156,["x","k"],["x","k"],z5,.fn⟩,⟨"unfit","unfit","unfit",top 157,["worth","k","half"],["worth","k"],zcp,.fn⟩,⟨"led","led","led",top 182,["deed","w","n","x","worth","places"],["deed","w","n","x"],zfi,.fn⟩,⟨"made","made","made",top 185,["name","w","x","y","k","make"],["name","w","x","y","k"],zfL,.fn⟩,⟨"highest","highest","highest",top 186,["w"],["w"],zbI,.fn⟩,⟨"moved","moved","moved",top 187,["w","x","y","k"],["w","x","y","k"],zdP,.fn⟩,⟨"bared","bared","bared",top 189,["w","x","y","k"],["w","x","y","k"],zdB,.fn⟩,⟨"summed","summed","summed",top 191,["w","x","y","k","total"],["w","x","y","k"],zca,.fn⟩,⟨"taken_away","taken_away","taken_away",top 193,["w","x","y","k","total"],["w","x","y","k"],zaa,.fn⟩,⟨"in_both","in_both","in_both",top 195,["w","x","y","k"],["w","x","y","k"],zbC,.fn⟩,⟨"in_any","in_any","in_any",top 197,["w","x","y","k"],["w","x","y","k"],zcl,.fn⟩,⟨"in_one","in_one","in_one",top 199,["w","x","y","k"],["w","x","y","k"],zci,.fn⟩,⟨"doubled","doubled","doubled",top 201,["w","x","y","k"],["w","x","y","k"],zbr,.fn⟩,⟨"halved","halved","halved",top 203,["w","x","y","k"],["w","x","y","k"],zcn,.fn⟩,⟨"","__init__","Machine.__init__",inClass (top 207) 0,["self","w"],["self","w"],zE,.ini 21⟩,⟨"","put","Machine.put",inClass (top 207) 1,["self","letter","at","word","cell"],["self","letter","at","word"],zaj,.me 21⟩,⟨"","word","Machine.word",inClass (top 207) 2,["self","letter","at"],["self","letter","at"],z4,.me 21⟩,⟨"","run","Machine.run",inClass (top 207) 5,["self","rows","row"],["self","rows"],yt,.me 21⟩,⟨"","held_in","Machine.held_in",inClass (top 207) 6,["self","cell"],["self","cell"],zI,.me 21⟩,⟨"","go_row","Machine.go_row",inClass (top 207) 7,["self","row"],["self","row"],zj,.me 21⟩,⟨"","go_made","Machine.go_made",inClass (top 207) 9,["self","row","x","y","word","mark"],["self","row"],zK,.me 21⟩,⟨"known_cell","known_cell","known_cell",top 208,["letter","at"],["letter","at"],zaS,.fn⟩,⟨"refuse_row","refuse_row","refuse_row",top 209,["thing"],["thing"],z8,.fn⟩,⟨"ran","ran","ran",top 212,["deed","w","n","x","y","machine","answer"],["deed","w","n","x","y"],yb9,.fn⟩,⟨"machine_with","machine_with","machine_with",top 213,["w","n","x","y","machine","letter","worth","at","word"],["w","n","x","y"],yp,.fn⟩,⟨"number_in","number_in","number_in",top 214,["machine","letter","many"],["machine","letter","many"],yaj,.fn⟩,⟨"_law_fresh","_law_fresh","_law_fresh",top 216,["_law_script"],["_law_script"],zce,.fn⟩,⟨"_law_mixed","_law_mixed","_law_mixed",top 217,["_law_seed","_law_primes","_law_number_here","_law_k","_law_prime","_law_far","_law_square","_law_power"],["_law_seed"],yas,.fn⟩,⟨"_law_fill","_law_fill","_law_fill",top 218,["_law_state","_law_cells","_law_at","_law_seed"],["_law_state"],yad,.fn⟩,⟨"_law_take","_law_take","_law_take",top 219,["_law_state","_law_many","_law_turns","_law_digit"],["_law_state","_law_many"],yR,.fn⟩,⟨"_law_sizes","_law_sizes","_law_sizes",top 220,["_law_state","_law_most"],["_law_state","_law_most"],zcb,.fn⟩,⟨"_law_worth","_law_worth","_law_worth",top 221,["_law_state","_law_w","_law_n","_law_way","_law_top","_law_k","_law_edges","_law_any_one","_law_low","_law_wide","_law_worth_here","_law_some","_law_words_here"],["_law_state","_law_w","_law_n"],yN,.fn⟩,⟨"_law_two_to","_law_two_to","_law_two_to",top 222,["_law_many","_law_found","_law_k"],["_law_many"],zbE,.fn⟩,⟨"_law_words","_law_words","_law_words",top 223,["_law_worth_here","_law_w","_law_n","_law_wide","_law_words_here","_law_k"],["_law_worth_here","_law_w","_law_n"],zcj,.fn⟩,⟨"_law_signed","_law_signed","_law_signed",top 224,["_law_worth_here","_law_many","_law_top"],["_law_worth_here","_law_many"],zbT,.fn⟩,⟨"_law_whole","_law_whole","_law_whole",top 225,["_law_thing"],["_law_thing"],zch,.fn⟩,⟨"_law_wholes","_law_wholes","_law_wholes",top 226,["_law_thing","_law_many","_law_most"],["_law_thing","_law_many","_law_most"],zbu,.fn⟩,⟨"_law_number","_law_number","_law_number",top 227,["_law_thing","_law_w","_law_n"],["_law_thing","_law_w","_law_n"],zbR,.fn⟩,⟨"_law_fits","_law_fits","_law_fits",top 228,["_law_signed_worth","_law_many","_law_top"],["_law_signed_worth","_law_many"],zds,.fn⟩,⟨"_law_ends","_law_ends","_law_ends",top 229,["_law_worth_here","_law_many"],["_law_worth_here","_law_many"],zdQ,.fn⟩,⟨"_law_led","_law_led","_law_led",top 230,["_law_from_kind","_law_to_kind","_law_e","_law_w","_law_n","_law_x","_law_worth_here","_law_size"],["_law_from_kind","_law_to_kind","_law_e","_law_w","_law_n","_law_x"],zbD,.fn⟩,⟨"_law_led_drawn","_law_led_drawn","_law_led_drawn",top 231,["_law_state","_law_w","_law_n","_law_e","_law_way","_law_x","_law_less"],["_law_state"],zF,.fn⟩,⟨"_law_answer","_law_answer","_law_answer",top 232,["_law_found","_law_w","_law_number_here"],["_law_found","_law_w"],yV,.fn⟩,⟨"law","law","law",top 233,["_law_script","_law_state","_law_turn","_law_w","_law_n","_law_e","_law_x","_law_first","_law_other","_law_deed","_law_worth_here","_law_over","_law_size","_law_due","_law_found"],["_law_script"],yaK,.fn⟩]
 al:=[eD "word" 0,eF "last_word" 1,eF "rows" 2,eF "rounds" 3,eD "lowest" 4,eD "term" 5,eD "moved_parts" 6,eF "kept_mark" 7,eF "kept_contrary" 8,eF "sign_filled" 9,eF "gathered_unlike" 10,eF "asked_words" 11,eF "answer_marks" 12,eF "led_telling" 13,eF "filled" 14,eF "widened" 15,eF "dropped" 16,eF "is_whole" 17,eF "is_letter" 18,eF "are_told" 19,eF "is_row" 20,eF "is_told_row" 21,eF "has_form" 22,eF "is_named" 23,eF "is_operand" 24,eF "is_cell" 25,eF "is_told_cell" 26,eF "is_lettered" 27,eF "is_sentence" 28,eF "place_of" 29,eF "is_term" 30,eF "are_things" 31,eF "is_thing" 32,eF "is_telling" 40,eF "unrolled" 41,eF "steps_of" 42,eF "are_parts" 43,eF "is_part" 44,eF "both_gone" 45,eF "placed" 46,eF "telling" 47,eF "deed_rows" 48,eF "is_deed" 49,eF "answer_words" 50,eF "rest_words" 51,eF "words_of" 52,eF "sign_of" 53,eF "lowest_words" 54,eF "comes" 55,eF "refuse_deed" 56,eF "reckoned" 57,eF "signed_worth" 58,eF "unfit" 59,eF "led" 60,eF "made" 61,eF "highest" 62,eF "moved" 63,eF "bared" 64,eF "summed" 65,eF "taken_away" 66,eF "in_both" 67,eF "in_any" 68,eF "in_one" 69,eF "doubled" 70,eF "halved" 71,eF "known_cell" 79,eF "refuse_row" 80,eF "ran" 81,eF "machine_with" 82,eF "number_in" 83,eF "_law_fresh" 84,eF "_law_mixed" 85,eF "_law_fill" 86,eF "_law_take" 87,eF "_law_sizes" 88,eF "_law_worth" 89,eF "_law_two_to" 90,eF "_law_words" 91,eF "_law_signed" 92,eF "_law_whole" 93,eF "_law_wholes" 94,eF "_law_number" 95,eF "_law_fits" 96,eF "_law_ends" 97,eF "_law_led" 98,eF "_law_led_drawn" 99,eF "_law_answer" 100,eF "law" 101,eF "bared_made" 64,eF "doubled_made" 70,eF "halved_made" 71,eF "in_any_made" 68,eF "in_both_made" 67,eF "in_one_made" 69,eF "moved_made" 63,eF "summed_made" 65,eF "taken_away_made" 66,eC "FACTOR_LIMIT" (.int (10000000000000000000000000000000000000000)),eC "FILL_led" za5,eC "LOST_led" za4,eC "MARKS_parts" zai,eC "MARKS_runs" (.int (4)),eC "MOST_NESTS" (.int (2)),eC "MOST_ROUNDS" (.int (4000)),eC "MOST_ROWS" (.int (4000)),eC "MOST_TERMS" (.int (20)),eC "MOST_THINGS" (.int (2)),eC "MOST_TOLD" (.int (200)),eC "NIL" zek,eC "QUOTIENTS" zat,eC "REFILL" zco,eC "SEEN" zeQ,eC "SPARE" zcJ,eC "WAYS" zhS,eG "ROWS" (.dct zac),eG "Machine" (.cls 21 72),eG "Unrolling" (.cls 20 33)]
 bs:=["all","any","bool","enumerate","int","isinstance","len","max","min","range","str","tuple","zip"]
 ts:=[.bool,.int,.str,.tuple]
 fl:=[eN 20 "n",eN 20 "rounds",eN 20 "rows",eN 20 "steps",eN 20 "w",eN 21 "marked",eN 21 "w",eN 21 "words"]
 me:=[eM 20 "go_parts" 34,eM 20 "go_rounds" 35,eM 20 "count_of" 36,eM 20 "add_row" 37,eM 20 "add_round" 38,eM 20 "add_asked" 39,eM 21 "put" 73,eM 21 "word" 74,eM 21 "run" 75,eM 21 "held_in" 76,eM 21 "go_row" 77,eM 21 "go_made" 78]
 kb:=[eK 0 1 ["i"] [AA 0,AD,AA 0,AA 0],eK 0 1 ["i","m"] [AA 0,AD,AA 0,AD],eK 0 2 ["i","m"] [AD,AA 0,AD],eK 0 2 ["m"] [AA 0,AA 0,AD],eK 4 1 ["i"] [AA 0,AD,AA 0,AA 0],eK 4 1 ["i","m"] [AA 0,AD,AA 0,AD],eK 4 1 ["m"] [AA 0,AA 0,AA 0,AD],eK 5 2 [] [AA 0,AA 0,AA 0,AA 0],eK 5 2 ["p","r"] [AA 0,AD,AA 0,AD],eK 5 2 ["r"] [AA 0,AA 0,AA 0,AD],eK 6 3 [] []]
 cn:=[eN 21 "Machine",eN 20 "Unrolling"]
 dd:=[eB "ROWS" zac]
 ml:=[eL "MAKERS" zJ]
theorem ok_all:tbQ.tbl.all (okT tbQ)=true:=by decide +kernel
theorem T_ok:∀i d,tbQ.tbl[i]?=AA d->T i=AA d.fn:=λi d h=>by
 have e:Tl=tbQ.tbl.map (·.fn):=rfl;rw[T,e,Bw,h];rfl
theorem kb_all:ybL (KbP tbQ) tbQ.kb:=by
 repeat' (first|exact trivial|(refine⟨kbP rfl rfl rfl rfl rfl (by decide) ?_,?_⟩;((repeat intro _);exact⟨_,rfl,rfl⟩)))
theorem cn_20:cnm tbQ 20="Unrolling":=rfl
theorem cn_21:cnm tbQ 21="Machine":=rfl
end WK
namespace IC
open PySem
def yay(call:Cl)(t:Tg)(b:Css)(xs:List PV)(ρ:Env)(st:SO):Fl:=forL t (λρ2 st2=>exs call ρ2 st2 b) xs ρ st
def yaO(call:Cl)(c:Ce)(b:Css)(n:Nat)(ρ:Env)(st:SO):Fl:=yal (λρ2 st2=>ev call ρ2 st2 c) (λρ2 st2=>exs call ρ2 st2 b) n ρ st
def yba(call:Cl)(ρ0:Env)(t:Tg)(c e:Ce)(x:PV)(st2:SO):R (Option PV):=match yC t x ρ0 with
 |none=>.bad
 |some ρ1=>(ev call ρ1 st2 c).bind λb st3=>onO (yaF st3 b) λk=>cond k ((ev call ρ1 st3 e).bind λy st4=>.ok (AA y) st4) (.ok AD st3)
def yae(call:Cl)(ρ0:Env)(t:Tg)(c e:Ce)(xs:List PV)(st:SO):R (List PV):=yaM (yba call ρ0 t c e) xs st
noncomputable def yap(f:Fl)(k:Env->SO->Fl):Fl:=
 match f with
 |.nx ρ st=>k ρ st
 |f=>f
noncomputable def nxO(o:Option Env)(st:SO):Fl:=
 match o with
 |some ρ=>.nx ρ st
 |none=>.bad
noncomputable def stO(ρ:Env)(o:Option SO):Fl:=
 match o with
 |some st=>.nx ρ st
 |none=>.bad
section
variable {call:Cl}{ρ:Env}{st:SO}
theorem x_for{t:Tg}{it:Cit}{b:Css}:ex call ρ st (.for t it b)=(evi call ρ st it).fl ρ λxs st1=>yay call t b xs ρ st1:=rfl
theorem zlF{c:Ce}{b:Css}:ex call ρ st (.while c b)=yaO call c b 100000 ρ st:=rfl
theorem v_comp{sl:List (Option Nat)}{t:Tg}{it:Cit}{c e:Ce}:ev call ρ st (.comp sl t it c e)=(evi call ρ st it).bind λxs st1=>yb7 (yae call (sl.map λo=>o.bind λj=>(ρ[j]?).join) t c e xs st1):=rfl
theorem zr{t:Tg}{b:Css}:yay call t b [] ρ st=.nx ρ st:=rfl
theorem zk{t:Tg}{b:Css}{x:PV}{xs:List PV}{ρ1:Env}(h:yC t x ρ=AA ρ1):yay call t b (x::xs) ρ st=yak (exs call ρ1 st b) λρ2 st2=>yay call t b xs ρ2 st2:=by
 rw[yay,forL,h];rfl
theorem zdE{t:Tg}{b:Css}(P:Nat->Env->SO->Prop):∀(xs:List PV) (i:Nat) (ρ:Env) (st:SO),P i ρ st ->
  (∀(j:Nat) (x:PV) (ρ:Env) (st:SO),xs[j]?=AA x->P (i+j) ρ st->∃ρ1 ρ2 st2,yC t x ρ=AA ρ1/\exs call ρ1 st b=.nx ρ2 st2/\P (i+j+1) ρ2 st2) ->
  ∃ρ' st',yay call t b xs ρ st=.nx ρ' st'/\P (i+xs.length) ρ' st'
 |[],i,ρ,st,h,_=>⟨ρ,st,zr,h⟩
 |x::xs,i,ρ,st,h,k=>by
  let⟨ρ1,ρ2,st2,e1,e2,h2⟩:=k 0 x ρ st rfl h;let⟨ρ',st',e3,h3⟩:=zdE P xs (i+1) ρ2 st2 h2 λj y ρ st hy hp=>by
   have:=k (j+1) y ρ st (by simpa using hy) (by rw[show i+(j+1)=i+1+j by lia];exact hp);rw[show i+(j+1)+1=i+1+j+1 by lia]at this;exact this
  refine⟨ρ',st',?_,by rw[AS,show i+(xs.length+1)=i+1+xs.length by lia];exact h3⟩;rw[zk e1,e2];exact e3
theorem zgA{c:Ce}{b:Css}{n:Nat}{x:PV}{st1 st2:SO}{ρ2:Env}(h:ev call ρ st c=.ok x st1)(ht:yaF st1 x=AA AB)(hb:exs call ρ st1 b=.nx ρ2 st2):yaO call c b (n+1) ρ st=yaO call c b n ρ2 st2:=by
 rw[yaO,yal,h];erw[R.fl,ht,onF,cond_true,hb,yak];rfl
theorem ze1{c:Ce}{b:Css}{n:Nat}{x:PV}{st1:SO}(h:ev call ρ st c=.ok x st1)(ht:yaF st1 x=AA AC):yaO call c b (n+1) ρ st=.nx ρ st1:=by
 rw[yaO,yal,h];erw[R.fl,ht,onF,cond_false]
theorem zaO{ρ0:Env}{t:Tg}{c e:Ce}:yae call ρ0 t c e [] st=.ok [] st:=rfl
theorem zW{ρ0:Env}{t:Tg}{c e:Ce}{x:PV}{xs:List PV}:yae call ρ0 t c e (x::xs) st=(yba call ρ0 t c e x st).bind λo st1=>(yae call ρ0 t c e xs st1).bind λys st2=>.ok (ybP o ys) st2:=rfl
theorem zeE{ρ0:Env}{t:Tg}{c e:Ce}{f:PV->PV}:∀(xs:List PV),(∀x∈xs,yba call ρ0 t c e x st=.ok (AA (f x)) st)->yae call ρ0 t c e xs st=.ok (xs.map f) st
 |[],_=>zaO
 |x::xs,h=>by
  rw[zW,h x BE];erw[R.bind];rw[zeE xs λy hy=>h y (AY _ hy)];rfl
theorem xs_nil:exs call ρ st .nil=.nx ρ st:=rfl
theorem xs_cons{s:Cs}{ss:Css}:exs call ρ st (.cons s ss)=yap (ex call ρ st s) λρ1 st1=>exs call ρ1 st1 ss:=rfl
theorem x_asg{t:Tg}{e:Ce}:ex call ρ st (.asg t e)=(ev call ρ st e).fl ρ λv st1=>nxO (yC t v ρ) st1:=rfl
theorem x_expr{e:Ce}:ex call ρ st (.expr e)=(ev call ρ st e).fl ρ λ_ st1=>.nx ρ st1:=rfl
theorem x_ret{e:Ce}:ex call ρ st (.ret e)=(ev call ρ st e).fl ρ λv st1=>.rt v st1:=rfl
theorem x_ite{c:Ce}{a b:Css}:ex call ρ st (.ite c a b)=(ev call ρ st c).fl ρ λx st1=>onF (yaF st1 x) λk=>cond k (exs call ρ st1 a) (exs call ρ st1 b):=rfl
theorem x_six{o i e:Ce}:ex call ρ st (.six o i e)=(ev call ρ st e).fl ρ λv st1=>(ev call ρ st1 o).fl ρ λx st2=>(ev call ρ st2 i).fl ρ λy st3=>stO ρ (ybp st3 x y v):=rfl
noncomputable def ye5(o:Option Nat)(k:Nat->Fl):Fl:=match o with
 |some j=>k j
 |none=>.bad
theorem zoy{i:Nat}{D:List (AR×Nat)}{n:Ce}{es:Ces}:ex call ρ st (.mkr i D n es)=(ev call ρ st n).fl ρ λx st1=>ye5 (mkV D (decide (i<ρ.length)) x) λj=>((evs call (ρ.set i AD) st1 es).bind λvs st2=>call j vs st2).fl (ρ.set i AD) λv st3=>.rt v st3:=rfl
theorem ze3{c:Nat}{o e:Ce}{f:AR}:ex call ρ st (.sfl c o f e)=(ev call ρ st e).fl ρ λv st1=>(ev call ρ st1 o).fl ρ λx st2=>stO ρ (yaT c st2 x f v):=rfl
theorem zha{o i e:Ce}:ex call ρ st (.dput o i e)=(ev call ρ st e).fl ρ λv st1=>(ev call ρ st1 o).fl ρ λx st2=>(ev call ρ st2 i).fl ρ λy st3=>stO ρ (ya7 st3 x y v):=rfl
theorem zoP{i:Nat}{o:BOp}{e:Ce}{x:PV}(h:ρ[i]?=AA (AA x)):ex call ρ st (.aug i o e)=(ev call ρ st e).fl ρ λy st1=>nxO ((ybJ o x y).map λz=>ρ.set i (AA z)) st1:=by
 rw[ex,h];show (ev call ρ st e).fl ρ _=_;refine congrArg _ (funext λy=>funext λst1=>?_)
 cases ybJ o x y<;>rfl
end
theorem ve1(call:Nat->List PV->SO->R PV)(ρ:Env)(st:SO)(v:PV):
  ev call ρ st (Ce.cst v)=R.ok v st:=rfl
theorem ve2(call:Nat->List PV->SO->R PV)(ρ:Env)(st:SO)(i:Nat):
  ev call ρ st (Ce.var i) =
  match ρ[i]? with
  |some (AA v)=>R.ok v st
  |x=>R.bad:=rfl
theorem ve3(call:Nat->List PV->SO->R PV)(ρ:Env)(st:SO)(o:BOp)(a b:Ce):
  ev call ρ st (Ce.bin o a b)=R.bind (ev call ρ st a) λx st1=>R.bind (ev call ρ st1 b) λy st2=>toR (yq o x y) st2:=rfl
theorem ve4(call:Nat->List PV->SO->R PV)(ρ:Env)(st:SO)(a:Ce):
  ev call ρ st (Ce.neg a) =
  R.bind (ev call ρ st a) λx st1=>
   match x with
   |PV.int i=>R.ok (PV.int (-i)) st1
   |x=>R.bad:=rfl
theorem ve5(call:Nat->List PV->SO->R PV)(ρ:Env)(st:SO)(a:Ce):
  ev call ρ st (Ce.not a)=R.bind (ev call ρ st a) λx st1=>onBl x λk=>R.ok (PV.bl !k) st1:=rfl
theorem ve6(call:Nat->List PV->SO->R PV)(ρ:Env)(st:SO)(a b:Ce):
  ev call ρ st (Ce.and a b)=R.bind (ev call ρ st a) λx st1=>onBl x λk=>bif k then ev call ρ st1 b else R.ok (PV.bl AC) st1:=rfl
theorem ve7(call:Nat->List PV->SO->R PV)(ρ:Env)(st:SO)(a b:Ce):
  ev call ρ st (Ce.or a b)=R.bind (ev call ρ st a) λx st1=>onBl x λk=>bif k then R.ok (PV.bl AB) st1 else ev call ρ st1 b:=rfl
theorem ve8(call:Nat->List PV->SO->R PV)(ρ:Env)(st:SO)(o:COp)(a b:Ce):
  ev call ρ st (Ce.cmp o a b)=R.bind (ev call ρ st a) λx st1=>R.bind (ev call ρ st1 b) λy st2=>toR (yw o x y) st2:=rfl
theorem ve9(call:Nat->List PV->SO->R PV)(ρ:Env)(st:SO)(o p:COp)(a b c:Ce):
  ev call ρ st (Ce.chain o p a b c)=R.bind (ev call ρ st a) λx st1=>R.bind (ev call ρ st1 b) λy st2=>onO (blO (yw o x y)) λk=>bif k then R.bind (ev call ρ st2 c) λz st3=>toR (yw p y z) st3 else R.ok (PV.bl AC) st2:=rfl
theorem ve10(call:Nat->List PV->SO->R PV)(ρ:Env)(st:SO)(c a b:Ce):
  ev call ρ st (Ce.ite c a b)=R.bind (ev call ρ st c) λx st1=>onO (yaF st1 x) λk=>bif k then ev call ρ st1 a else ev call ρ st1 b:=rfl
theorem ve11(call:Nat->List PV->SO->R PV)(ρ:Env)(st:SO)(es:Ces):
  ev call ρ st (Ce.tup es)=R.bind (evs call ρ st es) λvs st1=>if C7 vs<=sizeMax then R.ok (PV.tup vs) st1 else R.bad:=rfl
theorem ve12(call:Nat->List PV->SO->R PV)(ρ:Env)(st:SO)(es:Ces):
  ev call ρ st (Ce.lst es)=R.bind (evs call ρ st es) λvs st1=>if C7 vs<=sizeMax then R.ok (PV.lst vs) st1 else R.bad:=rfl
theorem ve13(call:Nat->List PV->SO->R PV)(ρ:Env)(st:SO)(es:Ces):
  ev call ρ st (Ce.newl es)=R.bind (evs call ρ st es) λvs st1=>if C7 vs<=sizeMax then R.ok (PV.loc (C7 st1)) (st1++[Ob.lst vs])else R.bad:=rfl
theorem ve15(call:Nat->List PV->SO->R PV)(ρ:Env)(st:SO)(t:Bool):
  ev call ρ st (Ce.dict0 t)=R.ok (PV.loc (C7 st)) (st++[Ob.dct t []]):=rfl
theorem ve16(call:Nat->List PV->SO->R PV)(ρ:Env)(st:SO)(a i:Ce):
  ev call ρ st (Ce.idx a i)=R.bind (ev call ρ st a) λx st1=>R.bind (ev call ρ st1 i) λy st2=>toR (idxV st2 x y) st2:=rfl
theorem ve17(call:Nat->List PV->SO->R PV)(ρ:Env)(st:SO)(a l h:Ce):
  ev call ρ st (Ce.slc a l h)=R.bind (ev call ρ st a) λx st1=>R.bind (ev call ρ st1 l) λy st2=>onP (ybQ y) λo=>R.bind (ev call ρ st2 h) λz st3=>toR (ycf x o z) st3:=rfl
theorem ve18(call:Nat->List PV->SO->R PV)(ρ:Env)(st:SO)(f:Nat)(es:Ces):
  ev call ρ st (Ce.call f es)=R.bind (evs call ρ st es) λvs st1=>call f vs st1:=rfl
theorem ve19(call:Nat->List PV->SO->R PV)(ρ:Env)(st:SO)(b:Blt)(es:Ces):
  ev call ρ st (Ce.blt b es)=R.bind (evs call ρ st es) λvs st1=>toR (yah b st1 vs) st1:=rfl
theorem ve20(call:Nat->List PV->SO->R PV)(ρ:Env)(st:SO)(m:Mth)(o:Ce)(es:Ces):
  ev call ρ st (Ce.mth m o es)=R.bind (ev call ρ st o) λx st1=>onO (yaE m st1 x) λx_1=>R.bind (evs call ρ st1 es) λvs st2=>yca m st2 x vs:=rfl
theorem ve21(call:Nat->List PV->SO->R PV)(ρ:Env)(st:SO)(a:Ce)(ts:List Ty):
  ev call ρ st (Ce.isi a ts)=R.bind (ev call ρ st a) λx st1=>toR (yaD x ts) st1:=rfl
theorem ve24(call:Nat->List PV->SO->R PV)(ρ:Env)(st:SO):
  ev call ρ st Ce.nope=R.bad:=rfl
theorem ve25(call:Nat->List PV->SO->R PV)(ρ:Env)(st:SO)(a:Ce):
  ev call ρ st (Ce.frz a)=R.bind (ev call ρ st a) λx st1=>ydb x st1:=rfl
theorem ve28(call:Nat->List PV->SO->R PV)(ρ:Env)(st:SO)(D:List (AR×PV))(a:Ce):
  ev call ρ st (Ce.dix D a)=R.bind (ev call ρ st a) λx st1=>toR (ycz D x) st1:=rfl
theorem ve29(call:Nat->List PV->SO->R PV)(ρ:Env)(st:SO)(a:Ce)(D:List (AR×PV)):
  ev call ρ st (Ce.din a D)=R.bind (ev call ρ st a) λx st1=>toR (yce D x) st1:=rfl
theorem ve32(call:Nat->List PV->SO->R PV)(ρ:Env)(st:SO)(c:Nat)(a:Ce)(f:AR):
  ev call ρ st (Ce.fld c a f)=R.bind (ev call ρ st a) λx st1=>toR (yaV c st1 x f) st1:=rfl
theorem ve33(call:Nat->List PV->SO->R PV)(ρ:Env)(st:SO)(c i:Nat)(es:Ces):
  ev call ρ st (Ce.new c i es)=R.bind (evs call ρ st es) λvs st1=>R.bind (ybn (call i (PV.loc (C7 st1)::vs) (st1++[Ob.ins c []]))) λv st2=>newV (C7 st1) v st2:=rfl
theorem ve37(call:Nat->List PV->SO->R PV)(ρ:Env)(st:SO)(c i:Nat)(m:AR)(o:Ce)
 (es:Ces):
  ev call ρ st (Ce.mcl c i m o es)=R.bind (ev call ρ st o) λx st1=>onO (ybR c m st1 x) λx_1=>R.bind (evs call ρ st1 es) λvs st2=>call i (x::vs) st2:=rfl
end IC
namespace WK
open IC PySem
mutual
noncomputable def pvq:PV->PV->Bool
 |.non,.non=>AB
 |.bl a,.bl b=>a==b
 |.int i,.int j=>decide (i=j)
 |.str x,.str y=>decide (x=y)
 |.tp k xs,.tp l ys=>(k==l)&&ycu xs ys
 |.lst xs,.lst ys=>ycu xs ys
 |_,_=>AC
noncomputable def ycu:List PV->List PV->Bool
 |[],[]=>AB
 |x::xs,y::ys=>pvq x y&&ycu xs ys
 |_,_=>AC
end
mutual
theorem zj3:∀(a b:PV),pvq a b=AB->a=b
 |.non,b,h=>by cases b<;>simp[pvq]at h ⊢
 |.bl a,b,h=>by cases b<;>simp[pvq]at h ⊢;exact h
 |.int a,b,h=>by cases b<;>simp[pvq]at h ⊢;exact h
 |.str a,b,h=>by cases b<;>simp[pvq]at h ⊢;exact h
 |.tp k xs,b,h=>by
  cases b<;>simp[pvq]at h ⊢
  exact⟨h.1,zfa _ _ h.2⟩
 |.lst xs,b,h=>by
  cases b<;>simp[pvq]at h ⊢
  exact zfa _ _ h
 |.loc _,b,h=>by cases b<;>simp[pvq]at h
 |.exn _,b,h=>by cases b<;>simp[pvq]at h
 |.scr _,b,h=>by cases b<;>simp[pvq]at h
theorem zfa:∀(a b:List PV),ycu a b=AB->a=b
 |[],b,h=>by cases b<;>simp[ycu]at h ⊢
 |x::xs,b,h=>by
  cases b with
  |nil=>simp[ycu]at h
  |cons y ys=>
   simp[ycu]at h;rw[zj3 x y h.1,zfa xs ys h.2]
end
def isOk(r:R PV)(v:PV):Bool:=match r with
 |.ok w []=>pvq w v
 |_=>AC
theorem zdT{r:R PV}{v:PV}(h:isOk r v=AB):r=.ok v []:=by
 match r with
 |.ok w []=>rw[zj3 w v h]
 |.ok w (_::_)=>simp[isOk]at h
 |.exc _ _=>simp[isOk]at h
 |.bad=>simp[isOk]at h
noncomputable def chS(c:Nat):Str:=⟨#[c]⟩
def yJ(c:Nat)(i:Int):PV:=.tup [.str (chS c),.int i]
theorem zkR{c d:Nat}(h:chS c=chS d):c=d:=by
 have:=congrArg (λx=>x.cps) h;simpa [chS] using this
theorem zaY(c d:Nat)(i j:Int):peq (yJ c i) (yJ d j)=decide (c=d/\i=j):=by
 have h:(chS c==chS d)=decide (c=d):=by
  rw[Da];simp;exact⟨zkR,λe=>by rw[e]⟩
 simp[yJ,peq,ya9,h,Bool.decide_and]
 try rfl
noncomputable abbrev Mem:=Nat->Int->Int
noncomputable def upd(M:Mem)(c:Nat)(i v:Int):Mem:=λd j=>if d=c/\j=i then v else M d j
def ycG(kvs:List (PV×PV)):Prop:=∀p∈kvs,∃c i,p.1=yJ c i
def Rel(kvs:List (PV×PV))(M:Mem):Prop:=∀c i,(look (yJ c i) kvs).getD (.int 0)=.int (M c i)
theorem zfN(c:Nat)(i:Int)(v:PV)(d:Nat)(j:Int):∀kvs,ycG kvs->look (yJ d j) (kvs.map λp=>if peq p.1 (yJ c i)=AB then(p.1,v)else p)=if d=c/\j=i then(if (kvs.any λp=>peq p.1 (yJ c i))=AB then AA v else AD)else look (yJ d j) kvs
 |[],_=>by simp[look]
 |p::kvs,h=>by
  let⟨e,g,hp⟩:=h p BE;let⟨p1,p2⟩:=p;simp only at hp;subst hp;have ih:=zfN c i v d j kvs λq hq=>h q (AY _ hq);rw[AL,BN];erw[zaY]
  by_cases h1:e=c/\g=i
  .let⟨rfl,rfl⟩:=h1;erw[and_self,decide_true,if_true,look,zaY,El]
   by_cases h2:e=d/\g=j
   .let⟨rfl,rfl⟩:=h2;simp
   .have h3:¬(d=e/\j=g):=λz=>h2 ⟨z.1.symm,z.2.symm⟩;erw[h2,h3,decide_false,if_false,BO];rw[ih,if_neg h3]
  .simp only[h1,decide_false,F0,BO,if_false];rw[look,look];erw[zaY]
   by_cases h2:e=d/\g=j
   .let⟨rfl,rfl⟩:=h2;simp[h1]
   .simp only[h2,decide_false,BO,if_false];exact ih
theorem zfv(c:Nat)(i:Int)(v:PV)(d:Nat)(j:Int):∀kvs,ycG kvs->(kvs.any λp=>peq p.1 (yJ c i))=AC->look (yJ d j) (kvs++[(yJ c i,v)])=if d=c/\j=i then AA v else look (yJ d j) kvs
 |[],_,_=>by
  erw[Aq,look,zaY]
  by_cases h2:c=d/\i=j
  .let⟨rfl,rfl⟩:=h2;simp
  .have h3:¬(d=c/\j=i):=λz=>h2 ⟨z.1.symm,z.2.symm⟩;simp[h2,h3]
 |p::kvs,h,hn=>by
  let⟨e,g,hp⟩:=h p BE;let⟨p1,p2⟩:=p;simp only at hp;subst hp;rw[BN,Bool.or_eq_false_iff]at hn;have ih:=zfv c i v d j kvs (λq hq=>h q (AY _ hq)) hn.2;have h1:¬(e=c/\g=i):=by simpa [zaY] using hn.1
  rw[Ae,look,look];erw[zaY]
  by_cases h2:e=d/\g=j
  .let⟨rfl,rfl⟩:=h2;simp[h1]
  .simp only[h2,decide_false,BO,if_false];exact ih
theorem zi5(c:Nat)(i:Int)(v:PV)(d:Nat)(j:Int)(kvs:List (PV×PV))(h:ycG kvs):look (yJ d j) (put (yJ c i) v kvs)=if d=c/\j=i then AA v else look (yJ d j) kvs:=by
 unfold put;split
 .rename_i z;rw[zfN _ _ _ _ _ _ h,z,if_pos rfl]
 .rename_i z;exact zfv _ _ _ _ _ _ h (by simpa using z)
theorem zjo{c:Nat}{i:Int}{v:PV}{kvs:List (PV×PV)}(h:ycG kvs):ycG (put (yJ c i) v kvs):=by
 unfold put;split
 .intro p hp;let⟨q,hq,rfl⟩:=Fw.1 hp;let⟨e,g,he⟩:=h q hq;refine⟨e,g,?_⟩;split
  .exact he
  .exact he
 .intro p hp;rcases Bd.1 hp with hp|hp
  .exact h p hp
  .simp at hp;exact⟨c,i,by rw[hp]⟩
theorem zlr{c:Nat}{i v:Int}{kvs:List (PV×PV)}{M:Mem}(h:ycG kvs)(r:Rel kvs M):Rel (put (yJ c i) (.int v) kvs) (upd M c i v):=by
 intro d j;rw[zi5 _ _ _ _ _ _ h];unfold upd;split
 .rfl
 .exact r d j
theorem zkW{k v:PV}{kvs:List (PV×PV)}:(put k v kvs).length<=kvs.length+1:=by
 unfold put;split
 .simp
 .simp
theorem zfw(c:Nat)(i:Int):isKey AB (yJ c i)=true:=rfl
structure Dc(st:SO)(n:Nat)(M:Mem)(L:Nat):Prop where
 ex:∃kvs,st[n]?=AA (.dct AB kvs)/\ycG kvs/\Rel kvs M/\kvs.length<=L
theorem ziT{st:SO}{n L:Nat}{M:Mem}(h:Dc st n M L)(c:Nat)(i:Int):ydz st (.loc n) (yJ c i) (.int 0)=.ok (.int (M c i)) st:=by
 let⟨kvs,h1,h2,h3,h4⟩:=h;erw[ydz,ya8,h1,zfw,if_true,h3 c i]
theorem ziY{st:SO}{n L:Nat}{M:Mem}(h:Dc st n M L)(hL:L<999999)(c:Nat)(i v:Int):∃kvs,ya7 st (.loc n) (yJ c i) (.int v)=AA (st.set n (.dct AB kvs))/\Dc (st.set n (.dct AB kvs)) n (upd M c i v) (L+1):=by
 let⟨kvs,h1,h2,h3,h4⟩:=h;have hn:n<st.length:=by
  rcases CS n st.length with z|z
  .exact z
  .rw[BV z]at h1;cases h1
 refine⟨put (yJ c i) (.int v) kvs,?_,⟨_,A6 hn,zjo h2,zlr h2 h3,BW zkW (by lia)⟩⟩;have h5:kvs.length<1000000:=by lia
 erw[ya7,h1,zfw,h5,and_self,if_true]
noncomputable abbrev Cel:=Nat×Int
def yF(x:Cel):PV:=yJ x.1 x.2
inductive Rw where
 |mark (d:Int)|ask (x:Cel)|set (t:Cel) (d:Int)|move (t x:Cel)|bare (t x:Cel)|twice (t x:Cel)|half (t x:Cel)
 |sum (t x y:Cel)|less (t x y:Cel)|both (t x y:Cel)|any (t x y:Cel)|odd (t x y:Cel)
def yZ:Rw->PV
 |.mark d=>.tup [.str "mark",.int d]
 |.ask x=>.tup [.str "ask",yF x]
 |.set t d=>.tup [.str "set",yF t,.int d]
 |.move t x=>.tup [.str "move",yF t,yF x]
 |.bare t x=>.tup [.str "bare",yF t,yF x]
 |.twice t x=>.tup [.str "twice",yF t,yF x]
 |.half t x=>.tup [.str "half",yF t,yF x]
 |.sum t x y=>.tup [.str "sum",yF t,yF x,yF y]
 |.less t x y=>.tup [.str "less",yF t,yF x,yF y]
 |.both t x y=>.tup [.str "both",yF t,yF x,yF y]
 |.any t x y=>.tup [.str "any",yF t,yF x,yF y]
 |.odd t x y=>.tup [.str "odd",yF t,yF x,yF y]
noncomputable def rd(M:Mem)(x:Cel):Int:=M x.1 x.2
def wr(M:Mem)(x:Cel)(v:Int):Mem:=upd M x.1 x.2 v
def stepM(W:Int)(M:Mem)(k:Int):Rw->Mem×Int
 |.mark d=>(M,d)
 |.ask x=>(M,bi (!(rd M x==0)))
 |.set t d=>(wr M t d,k)
 |.move t x=>(wr M t (rd M x),k)
 |.bare t x=>(wr M t (W-1-rd M x),k)
 |.twice t x=>(wr M t ((2*rd M x+k)%W),(2*rd M x+k)/W)
 |.half t x=>(wr M t (rd M x/2+k*(W/2)),rd M x%2)
 |.sum t x y=>(wr M t ((rd M x+rd M y+k)%W),(rd M x+rd M y+k)/W)
 |.less t x y=>(wr M t ((rd M x-rd M y-k)%W),bi (decide (rd M x-rd M y-k<0)))
 |.both t x y=>(wr M t (As (rd M x) (rd M y)),k)
 |.any t x y=>(wr M t (B2 (rd M x) (rd M y)),k)
 |.odd t x y=>(wr M t (Ay (rd M x) (rd M y)),k)
def yK(W:Int):List Rw->Mem->Int->Mem×Int
 |[],M,k=>(M,k)
 |r::rs,M,k=>yK W rs (stepM W M k r).1 (stepM W M k r).2
theorem zU(W:Int):∀(a b:List Rw) (M:Mem) (k:Int),yK W (a++b) M k=yK W b (yK W a M k).1 (yK W a M k).2
 |[],b,M,k=>rfl
 |r::a,b,M,k=>by rw[Ae,yK,zU W a b,yK]
theorem ziy{st:SO}{n:Nat}{o:Ob}(h:st[n]?=AA o):st=st.set n o:=by
 refine EO λi=>?_;rw[Ch];split
 .rename_i e;subst e;split
  .exact h
  .rename_i z;rw[BV (by lia)]at h
   cases h
 .rfl
theorem zcq(i:Int):shp (.int i)=true:=rfl
section
variable {st:SO}{k:Bool}{a b c d e:PV}{r:List PV}{i j:Int}
theorem ix0:idxV st (.tp k (a::r)) (.int 0)=AA a:=by simp[idxV,yaZ,at?,ixI]
theorem ix1:idxV st (.tp k (a::b::r)) (.int 1)=AA b:=by
 have:(1:Int)<(r.length:Int)+1+1:=by lia
 simp[idxV,yaZ,at?,ixI,this]
theorem ix2:idxV st (.tp k (a::b::c::r)) (.int 2)=AA c:=by
 have:(2:Int)<(r.length:Int)+1+1+1:=by lia
 simp[idxV,yaZ,at?,ixI,this]
theorem ix3:idxV st (.tp k (a::b::c::d::r)) (.int 3)=AA d:=by
 have:(3:Int)<(r.length:Int)+1+1+1+1:=by lia
 simp[idxV,yaZ,at?,ixI,this]
theorem b_add:yq .add (.int i) (.int j)=AA (.int (i+j)):=rfl
theorem b_sub:yq .sub (.int i) (.int j)=AA (.int (i-j)):=rfl
theorem zim(h:i.natAbs<18446744073709551616 \/ j.natAbs<18446744073709551616):yq .mul (.int i) (.int j)=AA (.int (i*j)):=by
 have:yat i j=true:=by simpa [yat] using h
 simp[yq,binI,this]
theorem zaI(h:i.natAbs<18446744073709551616):yq .mul (.int i) (.int j)=AA (.int (i*j)):=zim (.inl h)
theorem zcV(h:j.natAbs<18446744073709551616):yq .mul (.int i) (.int j)=AA (.int (i*j)):=zim (.inr h)
theorem b_mul2:yq .mul (.int 2) (.int j)=AA (.int (2*j)):=zim (.inl (by decide))
theorem zhR(h:0<j)(h2:j<18446744073709551616*18446744073709551616):yq .fdiv (.int i) (.int j)=AA (.int (i/j)):=by
 have h3:j<10000000000000000000000000000000000000000000000000000000000000000000000:=by lia
 simp[yq,binI,h,h3]
theorem b_div2:yq .fdiv (.int i) (.int 2)=AA (.int (i/2)):=rfl
theorem zhw(h:0<j):yq .mod (.int i) (.int j)=AA (.int (i%j)):=by simp[yq,binI,h]
theorem zot:yq .band (.int i) (.int j)=AA (.int (As i j)):=rfl
theorem ye6:yq .bor (.int i) (.int j)=AA (.int (B2 i j)):=rfl
theorem zoB:yq .bxor (.int i) (.int j)=AA (.int (Ay i j)):=rfl
theorem toR_some{v:PV}:toR (AA v) st=.ok v st:=rfl
theorem c_ne:yw .ne (.int i) (.int j)=AA (.bl (!(i==j))):=by simp[yw,zcq,peq]
theorem c_eq:yw .eq (.int i) (.int j)=AA (.bl (i==j)):=by simp[yw,zcq,peq]
theorem c_lt:yw .lt (.int i) (.int j)=AA (.bl (decide (i<j))):=rfl
theorem c_le:yw .le (.int i) (.int j)=AA (.bl (decide (i<=j))):=rfl
theorem c_gt:yw .gt (.int i) (.int j)=AA (.bl (decide (j<i))):=rfl
theorem c_ge:yw .ge (.int i) (.int j)=AA (.bl (decide (j<=i))):=rfl
theorem t_bl{b:Bool}:yaF st (.bl b)=AA b:=rfl
theorem on_t{f:Bool->Fl}{b:Bool}:onF (AA b) f=f b:=rfl
theorem ono{α:Type}{f:Bool->R α}{b:Bool}:onO (AA b) f=f b:=rfl
theorem zak{ρ:IC.Env}:stO ρ (AA st)=.nx ρ st:=rfl
theorem nxO_some{ρ:IC.Env}:nxO (AA ρ) st=.nx ρ st:=rfl
theorem fl_ok{α:Type}{a:α}{ρ:IC.Env}{k:α->SO->Fl}:(R.ok a st).fl ρ k=k a st:=rfl
theorem bd_ok{α β:Type}{a:α}{k:α->SO->R β}:(R.ok a st).bind k=k a st:=rfl
theorem th_nx{ρ:IC.Env}{k:IC.Env->SO->Fl}:yap (.nx ρ st) k=k ρ st:=rfl
theorem th_rt{v:PV}{k:IC.Env->SO->Fl}:yap (.rt v st) k=.rt v st:=rfl
theorem fl_exc{α:Type}{c:Nat}{ρ:IC.Env}{k:α->SO->Fl}:(R.exc c st:R α).fl ρ k=.exc c ρ st:=rfl
theorem bd_exc{α β:Type}{c:Nat}{k:α->SO->R β}:(R.exc c st:R α).bind k=.exc c st:=rfl
theorem th_exc{c:Nat}{ρ:IC.Env}{k:IC.Env->SO->Fl}:yap (.exc c ρ st) k=.exc c ρ st:=rfl
theorem noLocs_ints:∀(l:List Int),nLs (l.map PV.int)=AB
 |[]=>rfl
 |_::l=>by simp[nLs,nL,noLocs_ints l]
theorem zk8{x:PV}:yah .int st [x]=ydN x:=rfl
theorem zmr{b:Bool}:ydN (.bl b)=AA (.int (bi b)):=rfl
theorem bT_n{i:Nat}{v:PV}{ρ:IC.Env}:yC (.n i) v ρ=AA (ρ.set i (AA v)):=rfl
end
theorem zmD:∀(n x y:Nat),x<=n->(x ^^^ y)+(x &&& y)=x ||| y
 |n,x,y,h=>by
  by_cases hx:x=0
  .subst hx;simp
  .have ih:=zmD (n-1) (x/2) (y/2) (by lia);rw[<-Nat.xor_div_two,<-Nat.and_div_two,<-Nat.or_div_two]at ih;have m1:(x ^^^ y)%2=((x%2) ^^^ (y%2)):=by
    have:=Nat.xor_mod_two_pow (a:=x) (b:=y) (n:=1);simpa using this
   have m2:(x &&& y)%2=((x%2) &&& (y%2)):=by
    have:=Nat.and_mod_two_pow (a:=x) (b:=y) (n:=1);simpa using this
   have m3:(x ||| y)%2=((x%2) ||| (y%2)):=by
    have:=Nat.or_mod_two_pow (a:=x) (b:=y) (n:=1);simpa using this
   rcases ED x with a|a<;>rcases ED y with b|b<;>rw[a,b]at m1 m2 m3<;>erw[Nat.reduceXor,Nat.reduceAnd,Nat.reduceOr]at m1 m2 m3<;>lia
theorem zj5(x y:Nat):As (x:Int) (y:Int)=((x &&& y:Nat):Int):=by
 simp[As]
theorem zdg(x y:Nat):B2 (x:Int) (y:Int)=((x ||| y:Nat):Int):=by
 have h1:¬(0:Int)<=-(x:Int)-1:=by lia
 have h2:¬(0:Int)<=-(y:Int)-1:=by lia
 have h3:(-(-(x:Int)-1)-1).toNat=x:=by lia
 have h4:(-(-(y:Int)-1)-1).toNat=y:=by lia
 erw[B2,As,FH,h1,h2,decide_false,h3,h4];lia
theorem zjV(x y:Nat):Ay (x:Int) (y:Int)=((x ^^^ y:Nat):Int):=by
 have:=zmD x x y (AT x);rw[Ay,zdg,zj5];lia
theorem pw(w:Nat):((2^w:Nat):Int)=2^w:=by simp
theorem znX{w:Nat}{a b:Int}(a0:0<=a)(b0:0<=b)(b1:b<2^w):0<=As a b/\As a b<2^w:=by
 obtain⟨x,rfl⟩:∃n:Nat,a=n:=⟨a.toNat,by lia⟩;obtain⟨y,rfl⟩:∃n:Nat,b=n:=⟨b.toNat,by lia⟩;rw[zj5];rw[<-pw]at b1 ⊢;exact⟨by lia,by exact_mod_cast Nat.and_lt_two_pow x (by lia:y<2^w)⟩
theorem zn7{w:Nat}{a b:Int}(a0:0<=a)(a1:a<2^w)(b0:0<=b)(b1:b<2^w):0<=Ay a b/\Ay a b<2^w:=by
 obtain⟨x,rfl⟩:∃n:Nat,a=n:=⟨a.toNat,by lia⟩;obtain⟨y,rfl⟩:∃n:Nat,b=n:=⟨b.toNat,by lia⟩;rw[zjV];rw[<-pw]at a1 b1 ⊢;exact⟨by lia,by exact_mod_cast Nat.xor_lt_two_pow (by lia:x<2^w) (by lia:y<2^w)⟩
theorem zmE{w:Nat}{a b:Int}(a0:0<=a)(a1:a<2^w)(b0:0<=b)(b1:b<2^w):0<=B2 a b/\B2 a b<2^w:=by
 obtain⟨x,rfl⟩:∃n:Nat,a=n:=⟨a.toNat,by lia⟩;obtain⟨y,rfl⟩:∃n:Nat,b=n:=⟨b.toNat,by lia⟩;rw[zdg];rw[<-pw]at a1 b1 ⊢;exact⟨by lia,by exact_mod_cast Nat.or_lt_two_pow (by lia:x<2^w) (by lia:y<2^w)⟩
theorem zhr{a b:Int}(a0:0<=a)(b0:0<=b):B2 a b=0 ↔ a=0/\b=0:=by
 obtain⟨x,rfl⟩:∃n:Nat,a=n:=⟨a.toNat,by lia⟩;obtain⟨y,rfl⟩:∃n:Nat,b=n:=⟨b.toNat,by lia⟩;rw[zdg];have:=Nat.or_eq_zero_iff (n:=x) (m:=y);lia
noncomputable def tb(w:Nat)(a:Int):Int:=(2*a)/2^w
theorem zjL{w:Nat}(hw:0<w){a:Int}(a0:0<=a)(a1:a<2^w):tb w a=if 2^w<=2*a then 1 else 0:=by
 have h1:(0:Int)<2^w:=Ad (by lia);unfold tb;split
 .rename_i h;exact Int.le_antisymm (Int.le_of_lt_add_one (BP h1 (by lia))) (DR h1 (by lia))
 .exact BT (by lia) (by lia)
theorem zb3(ys:List PV)(h:ys.length<=1000000)(st:SO):yb7 (.ok ys st)=.ok (.lst ys) st:=by simp[yb7,h]
theorem za8(n:Nat)(h:n<1000):ybE (.int (n:Int))=AA (yo n 0 1):=by
 simp[ybE];lia
theorem zcD{z:Int}(h:0<=z):∃n:Nat,z=n:=⟨z.toNat,by lia⟩
def ybr(st:SO)(f:Fl):R PV:=
 match f with
 |.rt v _=>if nL v then .ok v st else .bad
 |.nx _ _=>.ok .non st
 |.exc c _ _=>.exc c st
 |_=>.bad
theorem zc{T:Nat->Option IC.Fn}{k f:Nat}{fn:IC.Fn}{args:List PV}{st:SO}(hT:T f=AA fn)(hp:fn.pure=AB)(hl:args.length=fn.np)(hn:nLs args=AB):
  yc T (k+1) f args st=ybr st (exs (yc T k) (args.map AA++Af (fn.ns-fn.np) AD) [] fn.body):=by
 rw[yc,hT];dsimp only;rw[if_pos hl,if_pos hp,if_pos hn];rfl
def outI(f:Fl):R PV:=
 match f with
 |.rt v st1=>.ok v st1
 |.nx _ st1=>.ok .non st1
 |.exc c _ st1=>.exc c st1
 |_=>.bad
theorem zn{T:Nat->Option IC.Fn}{k f:Nat}{fn:IC.Fn}{args:List PV}{st:SO}(hT:T f=AA fn)(hp:fn.pure=AC)(hl:args.length=fn.np):
  yc T (k+1) f args st=outI (exs (yc T k) (args.map AA++Af (fn.ns-fn.np) AD) st fn.body):=by
 rw[yc,hT];dsimp only;rw[if_pos hl,hp,if_neg (by simp)];rfl
theorem zbg{st:SO}{v:PV}:outI (.rt v st)=.ok v st:=rfl
theorem zl9{st s:SO}{b:Bool}:ybr st (.rt (.bl b) s)=.ok (.bl b) st:=rfl
theorem zlz{st s:SO}{b:Int}:ybr st (.rt (.int b) s)=.ok (.int b) st:=rfl
noncomputable def yar:PV:=.tup [.int 2147483647,.int 2147483629,.int 2147483587,.int 2147483579,.int 2147483563]
noncomputable def ydp:Css:=match yas.body with
 |.cons _ (.cons _ (.cons (.for _ _ b) _))=>b
 |_=>.nil
theorem zcP{c:Cl}{s num g p:Int}{i:Nat}{u5 u6 u7:Option PV}(hg:∀st,idxV st (.tup [.int 11,.int 101,.int 1009,.int 10007,.int 100003]) (.int i)=AA (.int g))(hi:i<5)(hp:0<p)(hp2:p<18446744073709551616):
  ∃num' v5 v6 v7,exs c [AA (.int s),AA yar,AA (.int num),AA (.int i),AA (.int p),u5,u6,u7] [] ydp=.nx [AA (.int s),AA yar,AA (.int num'),AA (.int i),AA (.int p),v5,v6,v7] []:=by
 have h1:∀z:Int,yq .mul (.int z) (.int (48271+2*(i:Int)))=AA (.int (z*(48271+2*(i:Int)))):=λz=>zcV (by lia);have h2:∀z y:Int,yq .mul (.int z) (.int (y%p))=AA (.int (z*(y%p))):=λz y=>zcV (by
  have a:=BD y (show p≠0 by lia);have b:=Al y hp;lia)
 have h3:∀z:Int,yq .mul (.int z) (.int p)=AA (.int (z*p)):=λz=>zcV (by lia);erw[ydp,yas,AS,Am,B5,Bs,if_true,xs_cons,xs_nil,x_asg,IC.ve1,IC.ve2,IC.ve3,IC.ve11,IC.ve16,evs,AN,AM,bd_ok,fl_ok,toR_some,bT_n,nxO_some,th_nx,A7,A8,sizeMax,Cr,b_add,b_mul2,hg,h1,h2,h3,zhw hp];exact⟨_,_,_,_,rfl⟩
theorem ziC{c:Cl}{s num:Int}{u5 u6 u7:Option PV}(i:Nat)(p:Int)(h:(i,p)∈[(0,(2147483647:Int)),(1,2147483629),(2,2147483587),(3,2147483579),(4,2147483563)]):
  ∃num' v5 v6 v7,exs c [AA (.int s),AA yar,AA (.int num),AA (.int i),AA (.int p),u5,u6,u7] [] ydp=.nx [AA (.int s),AA yar,AA (.int num'),AA (.int i),AA (.int p),v5,v6,v7] []:=by
 erw[A3,Prod.mk.injEq,BB,or_false]at h;rcases h with⟨rfl,rfl⟩|⟨rfl,rfl⟩|⟨rfl,rfl⟩|⟨rfl,rfl⟩|⟨rfl,rfl⟩
 .exact zcP (λ_=>rfl) (by decide) (by decide) (by decide)
 .exact zcP (λ_=>rfl) (by decide) (by decide) (by decide)
 .exact zcP (λ_=>rfl) (by decide) (by decide) (by decide)
 .exact zcP (λ_=>rfl) (by decide) (by decide) (by decide)
 .exact zcP (λ_=>rfl) (by decide) (by decide) (by decide)
noncomputable def ydB:List PV:=[.tup [.int 0,.int 2147483647],.tup [.int 1,.int 2147483629],.tup [.int 2,.int 2147483587],.tup [.int 3,.int 2147483579],.tup [.int 4,.int 2147483563]]
theorem mixed(k:Nat)(s:Int)(st:SO):∃num,yc T (k+1) zdV [.int s] st=.ok (.int num) st:=by
 let⟨ρ',st',h,num,a,b,c,d,e,e1,e2⟩:=zdE (call:=yc T k) (t:=.t [3,4]) (b:=ydp) (λ_ ρ st=>∃num a b c d e,ρ=[AA (.int s),AA yar,AA (.int num),a,b,c,d,e]/\st=[]) ydB 0 [AA (.int s),AA yar,AA (.int 0),AD,AD,AD,AD,AD] [] ⟨_,_,_,_,_,_,rfl,rfl⟩ (by
  rintro j x ρ st hx ⟨num,a,b,c,d,e,rfl,rfl⟩
  have hx:=A2 hx;have hx:∃i p,x=.tup [.int ((i:Nat):Int),.int p]/\(i,p)∈[(0,(2147483647:Int)),(1,2147483629),(2,2147483587),(3,2147483579),(4,2147483563)]:=by
   erw[ydB,A3,BB,or_false]at hx;rcases hx with rfl|rfl|rfl|rfl|rfl
   .exact⟨0,_,rfl,by simp⟩
   .exact⟨1,_,rfl,by simp⟩
   .exact⟨2,_,rfl,by simp⟩
   .exact⟨3,_,rfl,by simp⟩
   .exact⟨4,_,rfl,by simp⟩
  let⟨i,p,rfl,hm⟩:=hx;let⟨num',v5,v6,v7,hh⟩:=ziC (c:=yc T k) (s:=s) (num:=num) (u5:=c) (u6:=d) (u7:=e) i p hm;exact⟨_,_,_,rfl,hh,_,_,_,_,_,_,rfl,rfl⟩)
 subst e1 e2;refine⟨num,?_⟩;rw[yc];have hb:yas.body=.cons (.asg (.n 1) (.tup (.cons (.cst (.int 2147483647)) (.cons (.cst (.int 2147483629)) (.cons (.cst (.int 2147483587)) (.cons (.cst (.int 2147483579)) (.cons (.cst (.int 2147483563)) .nil))))))) (.cons (.asg (.n 2) (.cst (.int 0))) (.cons (.for (.t [3,4]) (.enum (.var 1)) ydp) (.cons (.ret (.var 2)) .nil))):=rfl;have hT:T zdV=AA ⟨1,8,AB,yas.body⟩:=rfl;have hp:PV.tup [.int 2147483647,.int 2147483629,.int 2147483587,.int 2147483579,.int 2147483563]=yar:=rfl;rw[hT,hb];have h5:ev (yc T k) [AA (.int s),AD,AD,AD,AD,AD,AD,AD] [] (.tup (.cons (.cst (.int 2147483647)) (.cons (.cst (.int 2147483629)) (.cons (.cst (.int 2147483587)) (.cons (.cst (.int 2147483579)) (.cons (.cst (.int 2147483563)) .nil))))))=.ok yar []:=by
  simp[IC.ve1,IC.ve11,evs,R.bind,sizeMax,yar]
 have he:evi (yc T k) [AA (.int s),AA yar,AA (.int 0),AD,AD,AD,AD,AD] [] (.enum (.var 1))=.ok ydB []:=by
  simp[evi,IC.ve2,R.bind,yar,yP,ydB]
 erw[AS,Am,if_true,nLs,nL,Cg,AL,Ac,Bm,Af,Ae,Aq,xs_cons,xs_nil,x_asg,x_for,x_ret,h5,R.fl,yC,nxO,yap,A7,A8,IC.ve1,he,h,IC.ve2,AN,AM]
set_option backward.eqns.nonrecursive true
local macro_rules | `(tactic| simp! [$xs,*])=>do
 let l<-("IC.xs_cons IC.xs_nil IC.x_asg IC.x_ite IC.x_ret IC.x_expr IC.x_for IC.x_six IC.evs IC.evi IC.ve1 IC.ve2 IC.ve3 IC.ve4 IC.ve5 IC.ve6 IC.ve7 IC.ve8 IC.ve9 IC.ve10 IC.ve11 IC.ve12 IC.ve13 IC.ve15 IC.ve16 IC.ve17 IC.ve18 IC.ve19 IC.ve20 IC.ve21 IC.ve24 IC.ve25 IC.ve28 IC.v_comp List.getElem?_cons_zero List.getElem?_cons_succ WK.bd_ok WK.fl_ok WK.bd_exc WK.fl_exc WK.toR_some IC.toL WK.bT_n WK.nxO_some WK.th_nx WK.th_rt WK.th_exc List.set_cons_zero List.set_cons_succ WK.on_t WK.t_bl WK.ono IC.onBl cond_true cond_false List.length_cons List.length_nil Nat.zero_add Nat.reduceAdd Nat.reduceSub Nat.reduceLeDiff if_true IC.nL IC.nLs WK.noLocs_ints Bool.and_self Bool.not_true Bool.not_false List.map_cons List.map_nil List.replicate List.cons_append List.nil_append List.append_nil Option.bind_none Option.bind_some Option.join_some WK.b_add WK.b_sub WK.b_mul2 WK.b_div2 WK.c_lt WK.c_le WK.c_gt WK.c_ge WK.c_eq WK.c_ne IC.PV.tup IC.sizeMax".splitOn " ").toArray.mapM λs=>`(Lean.Parser.Tactic.simpLemma| $(Lean.mkIdent s.toName):term)
 `(tactic| simp only[$l,*,$xs,*])
theorem rdS{st:SO}{n:Nat}{o x:Ob}(h:st[n]?=AA o):(st.set n x)[n]?=AA x:=by
 have:n<st.length:=by
  rcases CS n st.length with h1|h1
  .exact h1
  .rw[BV h1]at h;cases h
 rw[A6 this]
theorem znv(ns:List Int)(a:Int)(h:ns≠[]):∃v,yaZ (ns.map PV.int) (.int (a%(ns.length:Int)))=AA (.int v):=by
 have h0:0<ns.length:=FW.2 h;have h1:=BD a (show (ns.length:Int)≠0 by lia);have h2:=Al a (show (0:Int)<ns.length by lia);have h3:(a%(ns.length:Int)).toNat<ns.length:=by lia
 refine⟨ns[(a%(ns.length:Int)).toNat],?_⟩;simp[yaZ,at?,ixI,h1,h2,h3]
noncomputable def flT:Css:=match yad.body with
 |.cons _ (.cons _ (.cons _ t))=>t
 |x=>x
noncomputable abbrev flS(l:PV)(a p:Int)(f:Bool):Ob:=.lst [l,.int a,.int p,.bl f]
theorem zop{st:SO}{n:Nat}{l:PV}{a p v:Int}{f:Bool}(h:st[n]?=AA (flS l a p f)):ybp st (.loc n) (.int 1) (.int v)=AA (st.set n (flS l v p f)):=by erw[ybp,h];rfl
theorem zoD{st:SO}{n:Nat}{l:PV}{a p v:Int}{f:Bool}(h:st[n]?=AA (flS l a p f)):ybp st (.loc n) (.int 2) (.int v)=AA (st.set n (flS l a v f)):=by erw[ybp,h];rfl
theorem zoN{st:SO}{n:Nat}{l:PV}{a p:Int}{f g:Bool}(h:st[n]?=AA (flS l a p f)):ybp st (.loc n) (.int 3) (.bl g)=AA (st.set n (flS l a p g)):=by erw[ybp,h];rfl
theorem yf0{st:SO}{n:Nat}{l:PV}{a p:Int}{f:Bool}(h:st[n]?=AA (flS l a p f)):idxV st (.loc n) (.int 0)=AA l:=by erw[idxV,h];rfl
theorem ygn{st:SO}{n:Nat}{l:PV}{a p:Int}{f:Bool}(h:st[n]?=AA (flS l a p f)):idxV st (.loc n) (.int 1)=AA (.int a):=by erw[idxV,h];rfl
theorem yfc{st:SO}{n:Nat}{l:PV}{a p:Int}{f:Bool}(h:st[n]?=AA (flS l a p f)):idxV st (.loc n) (.int 3)=AA (.bl f):=by erw[idxV,h];rfl
theorem p18:yq .pow (.int 10) (.int 18)=AA (.int 1000000000000000000):=by ac_rfl
theorem zfF(k n:Nat){l:PV}{m a v p q:Int}{f g:Bool}{st:SO}(h:st[n]?=AA (flS l a p f))(hl:∀st,yah .len st [l]=AA (.int m))(hg:(decide (a ≥ m) || decide (v<1000000000000000000))=g)
  (h1:g=AB->yc T (k+1) zdV [.int v] (st.set n (flS l (a+1) p AB))=.ok (.int q) (st.set n (flS l (a+1) p AB))) (h2:g=AC->q=v-1000000000000000000):
  exs (yc T (k+1)) [AA (.loc n),AA l,AA (.int a),AA (.int v)] st flT=.nx [AA (.loc n),AA l,AA (.int a),AA (.int v)] (st.set n (flS l (a+1) q g)):=by
 have s1:=zop h (v:=a+1);have r1:=rdS h (x:=flS l (a+1) p f);have s2:=zoN r1 (g:=g);have r2:=rdS r1 (x:=flS l (a+1) p g);have s3:=zoD r2 (v:=q);have i3:=yfc r2;rw[DM]at s2 s3 i3 r2;rw[DM]at s3
 have hb:flT=(match flT with
  |.cons a (.cons (.six x y _) r)=>.cons a (.cons (.six x y (.or (.cmp .ge (.var 2) (.blt .len (.cons (.var 1) .nil))) (.cmp .lt (.var 3) (.bin .pow (.cst (.int 10)) (.cst (.int 18)))))) r)
  |x=>x):=rfl
 have hor:∀st,ev (yc T (k+1)) [AA (.loc n),AA l,AA (.int a),AA (.int v)] st (.or (.cmp .ge (.var 2) (.blt .len (.cons (.var 1) .nil))) (.cmp .lt (.var 3) (.bin .pow (.cst (.int 10)) (.cst (.int 18)))))=.ok (.bl g) st:=λst=>by
  cases c:decide (a ≥ m)
  .rw[c,F0]at hg;simp! [hl,c,p18,hg]
  .rw[c,El]at hg;subst hg;simp! [hl,c]
 generalize hE:(Ce.or (.cmp .ge (.var 2) (.blt .len (.cons (.var 1) .nil))) (.cmp .lt (.var 3) (.bin .pow (.cst (.int 10)) (.cst (.int 18)))))=E at *
 cases g with
 |true=>
  have h1:=h1 rfl;rw[hb];simp! [flT,yad,stO,s1,hor,s2,i3,h1,s3]
 |false=>
  have h2:=h2 rfl;subst h2;rw[hb];simp! [flT,yad,stO,s1,hor,s2,i3,p18,s3]
theorem fill(k n:Nat)(ns:List Int)(hns:ns.length<=1000)(a p:Int)(ha:0<=a)(f:Bool)(st:SO)(h:st[n]?=AA (.lst [.lst (ns.map .int),.int a,.int p,.bl f])):
  ∃p' f',yc T (k+2) zib [.loc n] st=.ok .non (st.set n (.lst [.lst (ns.map .int),.int (a+1),.int p',.bl f'])):=by
 have hT:T zib=AA ⟨1,4,AC,yad.body⟩:=rfl;have hl:∀st,yah .len st [.lst (ns.map .int)]=AA (.int (ns.length:Int)):=λst=>by
  show AA (PV.int (((ns.map PV.int).length:Nat):Int))=_;simp
 have i0:=yf0 h;have i1:=ygn h;have bt:∀(a b:PV) (ρ:IC.Env),yC (.t [1,2]) (.tp AC [a,b]) ρ=AA ((ρ.set 1 (AA a)).set 2 (AA b)):=λ_ _ _=>rfl
 have hb:yad.body=(match yad.body with
  |.cons a (.cons b (.cons c _))=>.cons a (.cons b (.cons c flT))
  |x=>x):=rfl
 have m31:yq .mul (.int 31) (.int a)=AA (.int (31*a)):=zaI (by decide);obtain⟨v,hv⟩:∃v,exs (yc T (k+1)) [AA (.loc n),AD,AD,AD] st yad.body=exs (yc T (k+1)) [AA (.loc n),AA (.lst (ns.map .int)),AA (.int a),AA (.int v)] st flT:=by
  by_cases hn:ns=[]
  .have c0:decide ((ns.length:Int) > 0)=false:=by subst hn;rfl
   refine⟨31*a+7,?_⟩;rw[hb];generalize flT=F at *;generalize ns.map PV.int=L at *;simp! [yad,i0,i1,bt,m31,hl,c0]
  .have h0:0<ns.length:=FW.2 hn;let⟨v,hv⟩:=znv ns a hn;have c0:decide ((ns.length:Int) > 0)=true:=decide_eq_true (by lia);have d1:=zhR (i:=a) (j:=(ns.length:Int)) (by lia) (by lia);have d2:=zhw (i:=a) (j:=(ns.length:Int)) (by lia);have m1:yq .mul (.int 104729) (.int (a/(ns.length:Int)))=AA (.int (104729*(a/(ns.length:Int)))):=zaI (by decide);have ix:∀st,idxV st (.lst (ns.map .int)) (.int (a%(ns.length:Int)))=AA (.int v):=λ_=>hv;refine⟨104729*(a/(ns.length:Int))+v,?_⟩;rw[hb];generalize flT=F at *;generalize ns.map PV.int=L at *;simp! [yad,i0,i1,bt,m31,hl,c0,d1,d2,m1,ix]
 cases c:(decide (a ≥ (ns.length:Int)) || decide (v<1000000000000000000))with
 |true=>
  let⟨q,hq⟩:=mixed k v (st.set n (flS (.lst (ns.map .int)) (a+1) p AB));refine⟨q,AB,?_⟩;rw[zn hT rfl rfl];have e:=zfF k n h hl c (λ_=>hq) (λh=>nomatch h);rw[<-hv]at e;exact(congrArg _ e).trans rfl
 |false=>
  refine⟨v-1000000000000000000,AC,?_⟩;rw[zn hT rfl rfl];have e:=zfF k n h hl c (λh=>nomatch h) (λ_=>rfl);rw[<-hv]at e;exact(congrArg _ e).trans rfl
noncomputable abbrev cM:Nat:=21
noncomputable abbrev sw:Str:=AG "w"
noncomputable abbrev sws:Str:=AG "words"
noncomputable abbrev smk:Str:=AG "marked"
def mob(w:Int)(L:Nat)(mk:Int):Ob:=.ins cM [(sw,.int w),(sws,.loc L),(smk,.int mk)]
structure MM(st:SO)(m l:Nat)(w:Int)(M:Mem)(mk:Int)(L:Nat):Prop where
 o:st[m]?=AA (mob w l mk)
 d:Dc st l M L
 ne:m≠l
theorem ygI{w mk:Int}{L:Nat}:([(sw,PV.int w),(sws,.loc L),(smk,.int mk)]:List (AR×PV)).lookup sw=AA (.int w):=by ac_rfl
theorem yfE{w mk:Int}{L:Nat}:([(sw,PV.int w),(sws,.loc L),(smk,.int mk)]:List (AR×PV)).lookup sws=AA (.loc L):=by ac_rfl
theorem yf7{w mk:Int}{L:Nat}:([(sw,PV.int w),(sws,.loc L),(smk,.int mk)]:List (AR×PV)).lookup smk=AA (.int mk):=by ac_rfl
section
variable {st:SO}{m l L:Nat}{w mk:Int}{M:Mem}
theorem MM.fw(h:MM st m l w M mk L):yaV cM st (.loc m) sw=AA (.int w):=by erw[yaV,h.o,mob,if_true];exact ygI
theorem MM.fd(h:MM st m l w M mk L):yaV cM st (.loc m) sws=AA (.loc l):=by erw[yaV,h.o,mob,if_true];exact yfE
theorem MM.fm(h:MM st m l w M mk L):yaV cM st (.loc m) smk=AA (.int mk):=by erw[yaV,h.o,mob,if_true];exact yf7
theorem MM.ins(h:MM st m l w M mk L)(n:AR)(hm:(([(sw,PV.non),(sws,.non),(smk,.non)]:List (AR×PV)).lookup n).isNone=true:=by decide +kernel):ybR cM n st (.loc m)=AA true:=by
 have e:([(sw,PV.int w),(sws,.loc l),(smk,.int mk)]:List (AR×PV)).lookup n=none:=by
  erw[Bu]at hm ⊢
  cases h1:n==sw with
  |true=>rw[h1]at hm;cases hm
  |false=>
   rw[h1]at hm
   cases h2:n==sws with
   |true=>rw[h2]at hm;cases hm
   |false=>
    rw[h2]at hm
    cases h3:n==smk with
    |true=>rw[h3]at hm;cases hm
    |false=>rfl
 erw[ybR,h.o,mob];rw[if_pos ⟨trivial,e⟩]
theorem znL{v:Int}:ybD smk (.int v) [(sw,PV.int w),(sws,.loc L),(smk,.int mk)]=[(sw,.int w),(sws,.loc L),(smk,.int v)]:=by ac_rfl
theorem Dc.set_ne{n:Nat}(h:Dc st l M L)(hn:n≠l)(o:Ob):Dc (st.set n o) l M L:=by
 let⟨kvs,h1,h2⟩:=h.ex;exact⟨kvs,by rw[AO hn];exact h1,h2⟩
theorem Dc.le{L':Nat}(h:Dc st l M L)(hL:L<=L'):Dc st l M L':=by
 let⟨kvs,h1,h2,h3,h4⟩:=h.ex;exact⟨kvs,h1,h2,h3,BW h4 hL⟩
theorem MM.sm(h:MM st m l w M mk L)(v:Int):yaT cM st (.loc m) smk (.int v)=AA (st.set m (mob w l v))/\MM (st.set m (mob w l v)) m l w M v L:=by
 refine⟨?_,⟨rdS h.o,h.d.set_ne h.ne _,h.ne⟩⟩;erw[yaT,h.o,mob];rw[if_pos ⟨trivial,by simp⟩,znL]
theorem MM.sd(h:MM st m l w M mk L)(hL:L<999999)(c:Cel)(v:Int):∃st',ya7 st (.loc l) (yF c) (.int v)=AA st'/\(∃o,st'=st.set l o)/\MM st' m l w (wr M c v) mk (L+1):=by
 let⟨kvs,e,d⟩:=ziY h.d hL c.1 c.2 v;exact⟨_,e,⟨_,rfl⟩,by rw[AO (BK h.ne)];exact h.o,d,h.ne⟩
theorem zdL(k:Nat)(h:MM st m l w M mk L)(c:Cel):yc T (k+1) zu [.loc m,yF c] st=.ok (.int (rd M c)) st:=by
 have hT:T zu=AA zI:=rfl;have g:yca .get st (.loc l) [yF c,.int 0]=.ok (.int (rd M c)) st:=ziT h.d c.1 c.2;have o:yaE .get st (.loc l)=AA true:=by
  let⟨kvs,h1,_⟩:=h.d.ex;simp[yaE,ya8,h1]
 rw[zn hT rfl rfl];generalize yF c=q at *;simp! [zI,h.fd,o,g,zbg,IC.ve32]
end
theorem highest(k n:Nat)(hn:n<=100)(s:SO):yc T (k+1) zcI [.int n] s=.ok (.int (2^n-1)) s:=by
 have hT:T zcI=AA zbI:=rfl;have hs:yq .shl (.int 1) (.int (n:Int))=AA (.int (2^n)):=by
  erw[yq,binI];rw[if_pos ⟨by lia,by lia,by decide⟩];simp
 rw[zc hT rfl rfl rfl];simp! [zbI,zlz,hs]
theorem zar{st s:SO}{a b:Int}:ybr st (.rt (.tp AC [.int a,.int b]) s)=.ok (.tp AC [.int a,.int b]) st:=rfl
section
variable {x y m:Int}{n:Nat}(hn:n<=100)(hn1:1<=n)(k:Nat)(st:SO)
theorem zmp:yq .shr (.int x) (.int (n:Int))=AA (.int (x/2^n)):=by
 erw[yq,binI];rw[if_pos (by lia)];simp
theorem band(a b:Int):yq .band (.int a) (.int b)=AA (.int (As a b)):=rfl
theorem zn2{x y:Int}(hx:0<=x)(hy:0<=y):As x y=((x.toNat &&& y.toNat:Nat):Int):=by simp[As,hx,hy]
theorem zmI{x y:Int}(hx:¬0<=x)(hy:0<=y):As x y=y-((y.toNat &&& (FH x).toNat:Nat):Int):=by simp[As,hx,hy]
theorem zeT(a:Int):As a (2^n-1)=a%2^n:=by
 have hp:(0:Int)<2^n:=Ad (by decide);have hc:((2^n:Nat):Int)=2^n:=by simp
 have ht:((2:Int)^n-1).toNat=2^n-1:=by lia
 by_cases h:0<=a
 .rw[zn2 h (by lia),ht,DW,GR,hc,Di h]
 .have hb:FH a=-a-1:=rfl;rw[zmI h (by lia),ht,Nat.and_comm,DW,GR,hc,hb,Di (by lia)];have e:=BH (-a-1) (2^n);have r0:=BD (-a-1) (show (2:Int)^n≠0 by lia);have r1:=Al (-a-1) hp;generalize (-a-1)%2^n=r at *;generalize (-a-1)/2^n=q at *;generalize (2:Int)^n=P at *;have m:P*(-q-1)=-(P*q)-P:=by rw[D4,HJ,Cj]
  rw[show a=(P-1-r)+P*(-q-1)by lia,B1,BM (by lia) (by lia)]
include hn
theorem zld:yc T (k+1) zfg [.int n,.int x,.int y,.int m] st=.ok (.tp AC [.int x,.int m]) st:=by
 have hT:T zfg=AA zdP:=rfl;rw[zc hT rfl rfl rfl];simp! [zdP,zar]
theorem zkk:yc T (k+2) ze9 [.int n,.int x,.int y,.int m] st=.ok (.tp AC [.int (2^n-1-x),.int m]) st:=by
 have hT:T ze9=AA zdB:=rfl;have e:=highest k n hn;rw[zc hT rfl rfl rfl];simp! [zdB,zar,e]
theorem zfV:yc T (k+2) zdF [.int n,.int x,.int y,.int m] st=.ok (.tp AC [.int ((x+y+m)%2^n),.int ((x+y+m)/2^n)]) st:=by
 have hT:T zdF=AA zca:=rfl;have e:=highest k n hn;rw[zc hT rfl rfl rfl];simp! [zca,zar,e,band,zmp,zeT]
theorem zkU:yc T (k+2) zaU [.int n,.int x,.int y,.int m] st=.ok (.tp AC [.int ((x-y-m)%2^n),.int (if x-y-m<0 then 1 else 0)]) st:=by
 have hT:T zaU=AA zaa:=rfl;have e:=highest k n hn;rw[zc hT rfl rfl rfl]
 by_cases c:x-y-m<0
 .have hc:yw .lt (.int (x-y-m)) (.int 0)=AA (.bl AB):=by simp[yw,ybB,c]
  rw[if_pos c];have hd:decide (x-y-m<0)=true:=decide_eq_true c;simp! [zaa,zar,e,band,zeT,hd]
 .rw[if_neg c];have hd:decide (x-y-m<0)=false:=decide_eq_false c;simp! [zaa,zar,e,band,zeT,hd]
theorem zmb:yc T (k+1) zcx [.int n,.int x,.int y,.int m] st=.ok (.tp AC [.int (As x y),.int m]) st:=by
 have hT:T zcx=AA zbC:=rfl;rw[zc hT rfl rfl rfl];simp! [zbC,zar,zot]
theorem zoG:yc T (k+1) zdw [.int n,.int x,.int y,.int m] st=.ok (.tp AC [.int (B2 x y),.int m]) st:=by
 have hT:T zdw=AA zcl:=rfl;rw[zc hT rfl rfl rfl];simp! [zcl,zar,ye6]
theorem zoT:yc T (k+1) zdG [.int n,.int x,.int y,.int m] st=.ok (.tp AC [.int (Ay x y),.int m]) st:=by
 have hT:T zdG=AA zci:=rfl;rw[zc hT rfl rfl rfl];simp! [zci,zar,zoB]
theorem zhG:yc T (k+3) zcN [.int n,.int x,.int y,.int m] st=.ok (.tp AC [.int ((x+x+m)%2^n),.int ((x+x+m)/2^n)]) st:=by
 have hT:T zcN=AA zbr:=rfl;have e:=zfV (x:=x) (y:=x) (m:=m) hn k;rw[zc hT rfl rfl rfl];simp! [zbr,zar,e]
include hn1
theorem zlK(x0:0<=x)(x1:x<2^n)(m0:0<=m)(m1:m<2):B2 (x/2) (m*2^(n-1))=x/2+m*(2^n/2):=by
 obtain⟨n',rfl⟩:∃n',n=n'+1:=⟨n-1,by lia⟩;let⟨a,rfl⟩:=zcD x0;let⟨b,rfl⟩:=zcD m0;have e1:((a:Int)/2)=((a/2:Nat):Int):=by lia
 have e2:((b:Int)*2^(n'+1-1))=((2^n' * b:Nat):Int):=by
  rw[show n'+1-1=n' from rfl,Aa];simp
 have hp:(2:Int)^(n'+1)=2*2^n':=by rw[Ab,Aa]
 have ha:a/2<2^n':=by
  have:(a:Int)<2*2^n':=by rw[<-hp];exact x1
  have h3:((2^n':Nat):Int)=2^n':=by simp
  lia
 rw[e1,e2,zdg,Nat.or_comm,<-Nat.two_pow_add_eq_or_of_lt ha,hp,Int.mul_ediv_cancel_left _ (by decide)];have h3:((2^n' * b:Nat):Int)=b*2^n':=by rw[Aa];simp
 rw[Int.natCast_add,h3,En]
theorem ziZ(x0:0<=x)(x1:x<2^n)(m0:0<=m)(m1:m<2):yc T (k+1) zdW [.int n,.int x,.int y,.int m] st=.ok (.tp AC [.int (x/2+m*(2^n/2)),.int (x%2)]) st:=by
 have hT:T zdW=AA zcn:=rfl;have h1:yq .shr (.int x) (.int 1)=AA (.int (x/2)):=by
  have:=zmp (x:=x) (n:=1);simpa using this
 have h2:yq .shl (.int m) (.int ((n:Int)-1))=AA (.int (m*2^(n-1))):=by
  erw[yq,binI];rw[if_pos ⟨by lia,by lia,by lia⟩]
  congr 3
  congr 1
  lia
 have h3:As x 1=x%2:=zeT (n:=1) x;rw[zc hT rfl rfl rfl];simp! [zcn,zar,h1,h2,ye6,zlK hn hn1 x0 x1 m0 m1,band,h3]
end
theorem ziG{j:Nat}{k:Nat->Fl}:ye5 (AA j) k=k j:=rfl
theorem made{s:AR}{j:Nat}(hj:mkV zJ AB (.str s)=AA j)(k:Nat)(st:SO){n x y m a b:Int}(e:yc T k j [.int n,.int x,.int y,.int m] []=.ok (.tp AC [.int a,.int b]) []):
  yc T (k+1) zhp [.str s,.int n,.int x,.int y,.int m] st=.ok (.tp AC [.int a,.int b]) st:=by
 have hT:T zhp=AA zfL:=rfl;have hd:decide (5<6)=true:=rfl;rw[zc hT rfl rfl rfl];erw[zfL,AL,Ac,Bm,Af,Ae,Aq,xs_cons,zoy,IC.ve2,AN,fl_ok];simp! [hd,hj,ziG,e,zar]
theorem zjC:mkV zJ AB (.str "move")=AA zfg/\mkV zJ AB (.str "bare")=AA ze9/\mkV zJ AB (.str "sum")=AA zdF/\mkV zJ AB (.str "less")=AA zaU/\mkV zJ AB (.str "both")=AA zcx /\
  mkV zJ AB (.str "any")=AA zdw/\mkV zJ AB (.str "odd")=AA zdG/\mkV zJ AB (.str "twice")=AA zcN/\mkV zJ AB (.str "half")=AA zdW:=by
 refine⟨?_,?_,?_,?_,?_,?_,?_,?_,?_⟩<;>decide +kernel
theorem yf9{i j:Nat}{k:Bool}{a b:PV}{ρ:IC.Env}:yC (.t [i,j]) (.tp k [a,b]) ρ=AA ((ρ.set i (AA a)).set j (AA b)):=rfl
theorem yeA{call:Cl}{ρ:IC.Env}{st:SO}:ev call ρ st (.neg (.cst (.int 1)))=.ok (.int (-1)) st:=by erw[ev,R.bind]
def okM(r:R PV)(st:SO)(m l:Nat)(w:Int)(M':Mem)(mk':Int)(L':Nat):Prop:=∃st',MM st' m l w M' mk' L'/\(∀n,n≠m->n≠l->st'[n]?=st[n]?)/\st'.length=st.length/\r=.ok .non st'
section
variable {st:SO}{m l L n:Nat}{mk:Int}{M:Mem}
theorem zaA(k:Nat)(h:MM st m l n M mk L)(hL:L<999999){s:AR}{j:Nat}(hj:mkV zJ AB (.str s)=AA j){t x z:Cel}{r:List PV}
  (hlast:∀st,idxV st (.tp AC (.str s::yF t::yF x::r)) (.int (-1))=AA (yF z)) {v m':Int} (e:yc T (k+3) j [.int n,.int (rd M x),.int (rd M z),.int mk] []=.ok (.tp AC [.int v,.int m']) []):
  okM (yc T (k+5) zY [.loc m,.tp AC (.str s::yF t::yF x::r)] st) st m l n (wr M t v) m' (L+1):=by
 have hT:T zY=AA zK:=rfl;have e1:yc T (k+4) zu [.loc m,yF x] st=.ok (.int (rd M x)) st:=zdL (k+3) h x;have e2:yc T (k+4) zu [.loc m,yF z] st=.ok (.int (rd M z)) st:=zdL (k+3) h z;have e3:yc T (k+4) zhp [.str s,.int n,.int (rd M x),.int (rd M z),.int mk] st=_:=made hj (k+3) st e;have ih:=h.ins (AG "held_in");let⟨s1,d1,⟨o,ho⟩,h1⟩:=h.sd hL t v;let⟨d2,h2⟩:=h1.sm m';refine⟨_,h2,λq a b=>?_,by simp[ho],?_⟩
 .rw[AO (BK a),ho,AO (BK b)]
 rw[zn hT rfl rfl];generalize yF t=ct at *;generalize yF x=cx at *;generalize yF z=cz at *;simp! [zK,ih,ix0,ix1,ix2,e1,yeA,hlast,e2,yf9,h.fw,h.fm,e3,h.fd,zha,d1,zak,ze3,d2,DC,IC.ve32,IC.ve37];rfl
end
section
variable {st:SO}{m l L n:Nat}{mk:Int}{M:Mem}
theorem zbt(k:Nat){s:AR}{r:List PV}{M':Mem}{mk':Int}{L':Nat}(h:MM st m l n M mk L)(q1:yw .eq (.str s) (.str "mark")=AA (.bl AC))(q2:yw .eq (.str s) (.str "ask")=AA (.bl AC))(q3:yw .eq (.str s) (.str "set")=AA (.bl AC))(q4:yw .eq (.str s) (.str "times")=AA (.bl AC))
  (g:okM (yc T (k+5) zY [.loc m,.tp AC (.str s::r)] st) st m l n M' mk' L'):okM (yc T (k+6) zl [.loc m,.tp AC (.str s::r)] st) st m l n M' mk' L':=by
 have hT:T zl=AA zj:=rfl;let⟨st',g1,g2,g3,e⟩:=g;refine⟨st',g1,g2,g3,?_⟩;have ih:=h.ins (AG "go_made");rw[zn hT rfl rfl];simp! [zj,ix0,q1,q2,q3,q4,ih,e,IC.ve37];rfl
theorem MM.le{L':Nat}{w:Int}(h:MM st m l w M mk L)(hL:L<=L'):MM st m l w M mk L':=⟨h.o,h.d.le hL,h.ne⟩
theorem zly(k:Nat)(h:MM st m l n M mk L)(d:Int):okM (yc T (k+6) zl [.loc m,yZ (.mark d)] st) st m l n M d (L+1):=by
 have hT:T zl=AA zj:=rfl;let⟨d2,h2⟩:=h.sm d;refine⟨_,h2.le (by lia),λq a b=>by rw[AO (BK a)],by simp,?_⟩;have q:yw .eq (.str "mark") (.str "mark")=AA (.bl AB):=by ac_rfl
 rw[zn hT rfl rfl];simp! [zj,yZ,ix0,ix1,q,ze3,d2,zak];rfl
theorem znk(k:Nat)(h:MM st m l n M mk L)(x:Cel):okM (yc T (k+6) zl [.loc m,yZ (.ask x)] st) st m l n M (bi (!(rd M x==0))) (L+1):=by
 have hT:T zl=AA zj:=rfl;let⟨d2,h2⟩:=h.sm (bi (!(rd M x==0)));refine⟨_,h2.le (by lia),λq a b=>by rw[AO (BK a)],by simp,?_⟩;have q:yw .eq (.str "ask") (.str "mark")=AA (.bl AC):=by ac_rfl
 have q2:yw .eq (.str "ask") (.str "ask")=AA (.bl AB):=by ac_rfl
 have e1:yc T (k+5) zu [.loc m,yF x] st=.ok (.int (rd M x)) st:=zdL (k+4) h x;have ih:=h.ins (AG "held_in");rw[zn hT rfl rfl];erw[yZ];generalize yF x=cx at *
 cases e:(rd M x==0)with
 |true=>
  rw[e]at d2;have d2:yaT cM st (.loc m) smk (.int 0)=_:=d2;simp! [zj,ix0,ix1,q,q2,ih,e1,e,ze3,d2,zak,IC.ve37];rfl
 |false=>
  rw[e]at d2;have d2:yaT cM st (.loc m) smk (.int 1)=_:=d2;simp! [zj,ix0,ix1,q,q2,ih,e1,e,ze3,d2,zak,IC.ve37];rfl
theorem znh(k:Nat)(h:MM st m l n M mk L)(hL:L<999999)(t:Cel)(d:Int):okM (yc T (k+6) zl [.loc m,yZ (.set t d)] st) st m l n (wr M t d) mk (L+1):=by
 have hT:T zl=AA zj:=rfl;let⟨s1,d1,⟨o,ho⟩,h1⟩:=h.sd hL t d;refine⟨_,h1,λq a b=>by rw[ho,AO (BK b)],by simp[ho],?_⟩;have q:yw .eq (.str "set") (.str "mark")=AA (.bl AC):=by ac_rfl
 have q2:yw .eq (.str "set") (.str "ask")=AA (.bl AC):=by ac_rfl
 have q3:yw .eq (.str "set") (.str "set")=AA (.bl AB):=by ac_rfl
 rw[zn hT rfl rfl];erw[yZ];generalize yF t=ct at *;simp! [zj,ix0,ix1,ix2,q,q2,q3,h.fd,zha,d1,zak,IC.ve32];rfl
theorem yb1{s a b:PV}:∀st,idxV st (.tp AC [s,a,b]) (.int (-1))=AA b:=λst=>rfl
theorem ybV{s a b c:PV}:∀st,idxV st (.tp AC [s,a,b,c]) (.int (-1))=AA c:=λst=>rfl
theorem zlk(a:Int):(if a<0 then(1:Int)else 0)=bi (decide (a<0)):=by
 by_cases h:a<0<;>simp[h,bi]
theorem zne(k:Nat)(h:MM st m l n M mk L)(hL:L<999999)(hn:n<=100)(hn1:1<=n)(r:Rw)(hh:∀t x,r=.half t x->0<=rd M x/\rd M x<2^n/\0<=mk/\mk<2):
  okM (yc T (k+6) zl [.loc m,yZ r] st) st m l n (stepM (2^n) M mk r).1 (stepM (2^n) M mk r).2 (L+1):=by
 let⟨j1,j2,j3,j4,j5,j6,j7,j8,j9⟩:=zjC
 cases r with
 |mark d=>exact zly k h d
 |ask x=>exact znk k h x
 |set t d=>exact znh k h hL t d
 |move t x=>exact zbt k h (by ac_rfl) (by ac_rfl) (by ac_rfl) (by ac_rfl) (zaA k h hL j1 yb1 (zld hn (k+2) []))
 |bare t x=>exact zbt k h (by ac_rfl) (by ac_rfl) (by ac_rfl) (by ac_rfl) (zaA k h hL j2 yb1 (zkk hn (k+1) []))
 |twice t x=>
  have e:=zhG (x:=rd M x) (y:=rd M x) (m:=mk) hn k [];rw[show rd M x+rd M x+mk=2*rd M x+mk by lia]at e;exact zbt k h (by ac_rfl) (by ac_rfl) (by ac_rfl) (by ac_rfl) (zaA k h hL j8 yb1 e)
 |half t x=>
  let⟨a,b,c,d⟩:=hh t x rfl;exact zbt k h (by ac_rfl) (by ac_rfl) (by ac_rfl) (by ac_rfl) (zaA k h hL j9 yb1 (ziZ hn hn1 (k+2) [] a b c d))
 |sum t x y=>exact zbt k h (by ac_rfl) (by ac_rfl) (by ac_rfl) (by ac_rfl) (zaA k h hL j3 ybV (zfV hn (k+1) []))
 |less t x y=>
  have e:=zkU (x:=rd M x) (y:=rd M y) (m:=mk) hn (k+1) [];rw[zlk]at e;exact zbt k h (by ac_rfl) (by ac_rfl) (by ac_rfl) (by ac_rfl) (zaA k h hL j4 ybV e)
 |both t x y=>exact zbt k h (by ac_rfl) (by ac_rfl) (by ac_rfl) (by ac_rfl) (zaA k h hL j5 ybV (zmb hn (k+2) []))
 |any t x y=>exact zbt k h (by ac_rfl) (by ac_rfl) (by ac_rfl) (by ac_rfl) (zaA k h hL j6 ybV (zoG hn (k+2) []))
 |odd t x y=>exact zbt k h (by ac_rfl) (by ac_rfl) (by ac_rfl) (by ac_rfl) (zaA k h hL j7 ybV (zoT hn (k+2) []))
end
noncomputable abbrev cZ:Cel:=(122,0)
noncomputable abbrev cS:Cel:=(115,0)
noncomputable abbrev cT:Cel:=(116,0)
noncomputable def yE(f:Int->Rw):Nat->List Rw
 |0=>[]
 |n+1=>yE f n++[f n]
def yI(n:Nat):List Rw:=[.set cS 0]++yE (λi=>Rw.any cS cS (99,i)) n++[.ask cS,.set (109,2) 1,.less (109,2) (109,2) cZ,.twice cT (99,(n:Int)-1),.sum (109,3) cZ cZ]
noncomputable def yh(W:Int):Nat->Int->List Int
 |0,_=>[]
 |n+1,x=>x%W::yh W n (x/W)
theorem zX(W:Int):∀n x,(yh W n x).length=n
 |0,_=>rfl
 |n+1,x=>by rw[yh,AS,zX]
def yax(c:Nat):Nat->List Int->Mem->Mem
 |_,[],M=>M
 |i,v::vs,M=>yax c (i+1) vs (upd M c i v)
noncomputable def M0:Mem:=λ_ _=>0
def yaA(W:Int)(n:Nat)(x y:Int):Mem:=yax 98 0 (yh W n y) (yax 97 0 (yh W n x) M0)
noncomputable def yX(W:Int)(M:Mem)(c:Nat):Nat->Int
 |0=>0
 |n+1=>yX W M c n+M c n*W^n
structure Cx where
 l:Nat
 c:Int
 i:Int
 j:Int
 m:Int
deriving DecidableEq
inductive Op where
 |fig (d:Int)|cel (x:Cx)
deriving DecidableEq
structure Rs where
 nm:AR
 ops:List Op
deriving DecidableEq
inductive T2 where
 |row (r:Rs)|rounds (c m t:Int) (rs:List Rs)
deriving DecidableEq
inductive T1 where
 |row (r:Rs)|rounds (c m t:Int) (ps:List T2)
deriving DecidableEq
noncomputable def Cx.at(x:Cx)(I J n:Int):Int:=x.c+x.i*I+x.j*J+x.m*n
def Op.pv(I J n:Int):Op->PV
 |.fig d=>.int d
 |.cel x=>yJ x.l (x.at I J n)
def Rs.pv(r:Rs)(I J n:Int):PV:=.tup (.str r.nm::r.ops.map (Op.pv I J n))
noncomputable def cnt(c m t w n:Int):Nat:=(c+m*n+t*w*n).toNat
noncomputable def upTo{α:Type}(f:Nat->List α):Nat->List α
 |0=>[]
 |n+1=>upTo f n++f n
def T2.rows(w n:Int)(I:Nat):T2->List PV
 |.row r=>[r.pv I 0 n]
 |.rounds c m t rs=>upTo (λJ=>rs.map λr=>r.pv I J n) (cnt c m t w n)
def T2.rnd(w n:Int):T2->Nat
 |.row _=>0
 |.rounds c m t _=>cnt c m t w n
def yan(w n:Int)(I:Nat)(ps:List T2):List PV:=ps.flatMap (T2.rows w n I)
def ybk(w n:Int)(ps:List T2):Nat:=(ps.map (T2.rnd w n)).sum
def T1.rows(w n:Int):T1->List PV
 |.row r=>[r.pv 0 0 n]
 |.rounds c m t ps=>upTo (λI=>yan w n I ps) (cnt c m t w n)
def T1.rnd(w n:Int):T1->Nat
 |.row _=>0
 |.rounds c m t ps=>cnt c m t w n*(1+ybk w n ps)
def yx(w n:Int)(ps:List T1):List PV:=ps.flatMap (T1.rows w n)
def yaU(w n:Int)(ps:List T1):Nat:=(ps.map (T1.rnd w n)).sum
noncomputable def sm(i:Int):Bool:=decide (i.natAbs<=200)
def ydH:PV->Option Op
 |.int d=>AA (.fig d)
 |.tp _ [.str s,.tp _ [.int c,.int i,.int j,.int m]]=>if s=chS (s.cps.getD 0 0)/\(sm c&&sm i&&sm j&&sm m)=AB then AA (.cel ⟨s.cps.getD 0 0,c,i,j,m⟩)else AD
 |_=>AD
def ybq:List PV->Option (List Op)
 |[]=>AA []
 |v::vs=>match ydH v,ybq vs with
  |some a,AA b=>AA (a::b)
  |_,_=>AD
def rowOf:PV->Option Rs
 |.tp _ (.str nm::vs)=>match ybq vs with
  |some ops=>if vs.length<100 then AA ⟨nm,ops⟩else AD
  |none=>AD
 |_=>AD
noncomputable def yc3(s:AR):Bool:=decide (s=AG "row")
def ybZ:PV->Option Rs
 |.tp _ [.str s,v]=>if yc3 s then rowOf v else AD
 |_=>AD
def deepOf:List PV->Option (List Rs)
 |[]=>AA []
 |v::vs=>match ybZ v,deepOf vs with
  |some a,AA b=>AA (a::b)
  |_,_=>AD
noncomputable def ycc(s:AR):Bool:=decide (s=AG "rounds")
def part2(v:PV):Option T2:=
 match v with
 |.tp _ [.str s,.tp _ [.int c,.int m,.int t],_,.tp _ vs]=>if ycc s&&(sm c&&sm m&&sm t)then(deepOf vs).map (.rounds c m t)else AD
 |v=>(ybZ v).map .row
def yaJ:List PV->Option (List T2)
 |[]=>AA []
 |v::vs=>match part2 v,yaJ vs with
  |some a,AA b=>AA (a::b)
  |_,_=>AD
def part1(v:PV):Option T1:=
 match v with
 |.tp _ [.str s,.tp _ [.int c,.int m,.int t],_,.tp _ vs]=>if ycc s&&(sm c&&sm m&&sm t)then(yaJ vs).map (.rounds c m t)else AD
 |v=>(ybZ v).map .row
def yaI:List PV->Option (List T1)
 |[]=>AA []
 |v::vs=>match part1 v,yaI vs with
  |some a,AA b=>AA (a::b)
  |_,_=>AD
theorem zlc{v:PV}{o:Op}(h:ydH v=AA o):(∃d,o=.fig d/\v=.int d) \/ ∃a b x,o=.cel x/\v=.tp a [.str (chS x.l),.tp b [.int x.c,.int x.i,.int x.j,.int x.m]]/\x.i.natAbs<=200/\x.j.natAbs<=200/\x.m.natAbs<=200:=by
 unfold ydH at h;split at h
 .left;cases h;exact⟨_,rfl,rfl⟩
 .right;rename_i a s b c i j m;split at h
  .rename_i q
   cases h
   have q2:=q.2;erw[sm,AK,decide_eq_true_eq]at q2;refine⟨a,b,_,rfl,?_,q2.1.1.2,q2.1.2,q2.2⟩;simp only;rw[<-q.1]
  .cases h
 .cases h
theorem zjz{v:PV}{r:Rs}(h:rowOf v=AA r):∃a vs,v=.tp a (.str r.nm::vs)/\ybq vs=AA r.ops/\vs.length<100:=by
 unfold rowOf at h;split at h
 .rename_i a nm vs;split at h
  .rename_i ops q;split at h
   .rename_i z
    cases h;exact⟨a,vs,rfl,q,z⟩
   .cases h
  .cases h
 .cases h
theorem zkj{v:PV}{r:Rs}(h:ybZ v=AA r):∃a v1,v=.tp a [.str "row",v1]/\rowOf v1=AA r:=by
 unfold ybZ at h;split at h
 .rename_i a s v1;split at h
  .rename_i q;have q:s=AG "row":=by simpa [yc3] using q
   exact⟨a,v1,by rw[q],h⟩
  .cases h
 .cases h
theorem zjb{v:PV}{p:T2}(h:part2 v=AA p):(∃r,p=.row r/\ybZ v=AA r) \/ ∃a b sn d vs c m t rs,p=.rounds c m t rs/\v=.tp a [.str "rounds",.tp b [.int c,.int m,.int t],sn,.tp d vs]/\deepOf vs=AA rs/\c.natAbs<=200/\m.natAbs<=200/\t.natAbs<=200:=by
 unfold part2 at h;split at h
 .right;rename_i a s b c m t sn d vs;split at h
  .rename_i q;erw[ycc,sm,AK,decide_eq_true_eq]at q
   cases e:deepOf vs with
   |none=>rw[e]at h;cases h
   |some rs=>
    rw[e]at h
    cases h
    exact⟨a,b,sn,d,vs,c,m,t,rs,rfl,by rw[q.1],e,q.2.1.1,q.2.1.2,q.2.2⟩
  .cases h
 .left
  cases e:ybZ v with
  |none=>rw[e]at h;cases h
  |some r=>rw[e]at h;cases h;exact⟨r,rfl,rfl⟩
theorem zjt{v:PV}{p:T1}(h:part1 v=AA p):(∃r,p=.row r/\ybZ v=AA r) \/ ∃a b sn d vs c m t ps,p=.rounds c m t ps/\v=.tp a [.str "rounds",.tp b [.int c,.int m,.int t],sn,.tp d vs]/\yaJ vs=AA ps/\c.natAbs<=200/\m.natAbs<=200/\t.natAbs<=200:=by
 unfold part1 at h;split at h
 .right;rename_i a s b c m t sn d vs;split at h
  .rename_i q;erw[ycc,sm,AK,decide_eq_true_eq]at q
   cases e:yaJ vs with
   |none=>rw[e]at h;cases h
   |some rs=>
    rw[e]at h
    cases h
    exact⟨a,b,sn,d,vs,c,m,t,rs,rfl,by rw[q.1],e,q.2.1.1,q.2.1.2,q.2.2⟩
  .cases h
 .left
  cases e:ybZ v with
  |none=>rw[e]at h;cases h
  |some r=>rw[e]at h;cases h;exact⟨r,rfl,rfl⟩
noncomputable abbrev cU:Nat:=20
noncomputable abbrev sn:Str:=AG "n"
noncomputable abbrev sst:Str:=AG "steps"
noncomputable abbrev srw:Str:=AG "rows"
noncomputable abbrev srd:Str:=AG "rounds"
abbrev ufs(w n:Int)(l:Nat)(r q:Int):List (AR×PV):=[(sw,.int w),(sn,.int n),(sst,.loc l),(srw,.int r),(srd,.int q)]
def uob(w n:Int)(l:Nat)(r q:Int):Ob:=.ins cU (ufs w n l r q)
structure UM(st:SO)(u l:Nat)(w n r q:Int)(xs:List PV):Prop where
 o:st[u]?=AA (uob w n l r q)
 d:st[l]?=AA (.lst xs)
 ne:u≠l
section
variable {st:SO}{u l:Nat}{w n r q:Int}{xs:List PV}
theorem UM.fw(h:UM st u l w n r q xs):yaV cU st (.loc u) sw=AA (.int w):=by erw[yaV,h.o,uob,if_true];ac_rfl
theorem UM.fn(h:UM st u l w n r q xs):yaV cU st (.loc u) sn=AA (.int n):=by erw[yaV,h.o,uob,if_true];ac_rfl
theorem UM.fs(h:UM st u l w n r q xs):yaV cU st (.loc u) sst=AA (.loc l):=by erw[yaV,h.o,uob,if_true];ac_rfl
theorem UM.fr(h:UM st u l w n r q xs):yaV cU st (.loc u) srw=AA (.int r):=by erw[yaV,h.o,uob,if_true];ac_rfl
theorem UM.fq(h:UM st u l w n r q xs):yaV cU st (.loc u) srd=AA (.int q):=by erw[yaV,h.o,uob,if_true];ac_rfl
theorem UM.sr(h:UM st u l w n r q xs)(v:Int):yaT cU st (.loc u) srw (.int v)=AA (st.set u (uob w n l v q))/\UM (st.set u (uob w n l v q)) u l w n v q xs:=by
 refine⟨?_,rdS h.o,by rw[AO h.ne];exact h.d,h.ne⟩;erw[yaT,h.o,uob];rw[if_pos ⟨trivial,by simp⟩,show ybD srw (.int v) (ufs w n l r q)=ufs w n l v q by ac_rfl]
theorem UM.sq(h:UM st u l w n r q xs)(v:Int):yaT cU st (.loc u) srd (.int v)=AA (st.set u (uob w n l r v))/\UM (st.set u (uob w n l r v)) u l w n r v xs:=by
 refine⟨?_,rdS h.o,by rw[AO h.ne];exact h.d,h.ne⟩;erw[yaT,h.o,uob];rw[if_pos ⟨trivial,by simp⟩,show ybD srd (.int v) (ufs w n l r q)=ufs w n l r v by ac_rfl]
theorem UM.ap(h:UM st u l w n r q xs)(hx:xs.length<1000000)(v:PV):yca .append st (.loc l) [v]=.ok .non (st.set l (.lst (xs++[v])))/\UM (st.set l (.lst (xs++[v]))) u l w n r q (xs++[v]):=by
 refine⟨?_,by rw[AO (BK h.ne)];exact h.o,rdS h.d,h.ne⟩;unfold yca;erw[ydx,h.d];rw[if_pos hx]
theorem UM.ok(h:UM st u l w n r q xs):yaE .append st (.loc l)=AA true:=by simp[yaE,yU,h.d]
theorem UM.ins(h:UM st u l w n r q xs)(x:AR)(hx:((ufs 0 0 0 0 0).lookup x).isNone=true:=by decide +kernel):ybR cU x st (.loc u)=AA true:=by
 have e:(ufs w n l r q).lookup x=none:=by
  erw[ufs,Bu]at hx ⊢
  cases h1:x==sw<;>rw[h1]at hx<;>simp only at hx ⊢<;>try cases hx
  cases h2:x==sn<;>rw[h2]at hx<;>simp only at hx ⊢<;>try cases hx
  cases h3:x==sst<;>rw[h3]at hx<;>simp only at hx ⊢<;>try cases hx
  cases h4:x==srw<;>rw[h4]at hx<;>simp only at hx ⊢<;>try cases hx
  cases h5:x==srd<;>rw[h5]at hx<;>simp only at hx ⊢<;>try cases hx
 erw[ybR,h.o,uob];rw[if_pos ⟨trivial,e⟩]
theorem zgs(k:Nat)(h:UM st u l w n r q xs)(hq:q+1<=4000):∃s,yc T (k+1) zH [.loc u] st=.ok .non s/\UM s u l w n r (q+1) xs:=by
 have hT:T zH=AA zx:=rfl;let⟨d,h2⟩:=h.sq (q+1);have c:decide (q+1 > 4000)=false:=decide_eq_false (by lia);have vM:zbM=.int 4000:=rfl;refine⟨_,?_,h2⟩;rw[zn hT rfl rfl];have f1:=h.fq;have f2:=h2.fq;simp! [zx,f1,ze3,d,zak,f2,vM,c,IC.ve32,zbg];rfl
theorem zeC(k:Nat):∀(G:List Int),G.length<=2->∀s:SO,yc T (k+1) zaC [.tp AC (G.map .int)] s=.ok (.tp AC [.int (G.headD 0),.int (G.tail.headD 0)]) s
 |[],_,s=>by
  have hT:T zaC=AA zas:=rfl;rw[zc hT rfl rfl rfl];rfl
 |[a],_,s=>by
  have hT:T zaC=AA zas:=rfl;rw[zc hT rfl rfl rfl];rfl
 |[a,b],_,s=>by
  have hT:T zaC=AA zas:=rfl;rw[zc hT rfl rfl rfl];rfl
theorem zgC(k:Nat)(h:UM st u l w n r q xs)(hx:xs.length<1000000)(sen:PV)(G:List Int)(hG:G.length<=2):∃s,yc T (k+2) zG [.loc u,sen,.tp AC (G.map .int)] st=.ok .non s/\UM s u l w n r q (xs++[.tp AC [.str "asked",sen,.int (G.headD 0),.int (G.tail.headD 0)]]):=by
 have hT:T zG=AA zw:=rfl;have e1:=zeC k G hG st;let⟨a,h2⟩:=h.ap hx (.tp AC [.str "asked",sen,.int (G.headD 0),.int (G.tail.headD 0)]);have bt:∀(i j:Nat) (a b:PV) (ρ:IC.Env),yC (.t [i,j]) (.tp AC [a,b]) ρ=AA ((ρ.set i (AA a)).set j (AA b)):=λ_ _ _ _ _=>rfl;refine⟨_,?_,h2⟩;rw[zn hT rfl rfl];have f1:=h.fs;have o:=h.ok;generalize PV.tp AC (G.map .int)=gv at *;simp! [zw,e1,bt,f1,o,a,IC.ve32,zbg];rfl
theorem ziP(k:Nat)(h:UM st u l w n r q xs)(bb:Bool)(c m t:Int)(b1:yq .mul (.int m) (.int n)=AA (.int (m*n)))(b2:yq .mul (.int t) (.int w)=AA (.int (t*w)))(b3:yq .mul (.int (t*w)) (.int n)=AA (.int (t*w*n))):
  yc T (k+1) zL [.loc u,.tp bb [.int c,.int m,.int t]] st=.ok (.int (c+m*n+t*w*n)) st:=by
 have hT:T zL=AA zz:=rfl;have bt:∀(i j k:Nat) (a b c:PV) (ρ:IC.Env),yC (.t [i,j,k]) (.tp bb [a,b,c]) ρ=AA (((ρ.set i (AA a)).set j (AA b)).set k (AA c)):=λ_ _ _ _ _ _ _=>rfl;rw[zn hT rfl rfl];have f1:=h.fw;have f2:=h.fn;simp! [zz,bt,f1,f2,b1,b2,b3,IC.ve32,zbg]
theorem ziR(k:Nat){b:Bool}{c i j m I J n:Int}(hi:i.natAbs<=200)(hj:j.natAbs<=200)(hm:m.natAbs<=200)(s:SO):yc T (k+1) zdk [.tp b [.int c,.int i,.int j,.int m],.int n,.int I,.int J] s=.ok (.int (c+i*I+j*J+m*n)) s:=by
 have hT:T zdk=AA za7:=rfl;have h1:i.natAbs<18446744073709551616:=by lia
 have h2:j.natAbs<18446744073709551616:=by lia
 have h3:m.natAbs<18446744073709551616:=by lia
 have j2:∀st,idxV st (.tp b [.int c,.int i,.int j,.int m]) (.int 2)=AA (.int j):=λ_=>rfl;have j3:∀st,idxV st (.tp b [.int c,.int i,.int j,.int m]) (.int 3)=AA (.int m):=λ_=>rfl;rw[zc hT rfl rfl rfl];simp! [za7,ix0,ix1,j2,j3,zaI h1,zaI h2,zaI h3];rfl
theorem placed(k:Nat){v:PV}{o:Op}(h:ydH v=AA o)(I J n:Int)(s:SO):yc T (k+2) zaZ [v,.int n,.int I,.int J] s=.ok (o.pv I J n) s:=by
 have hT:T zaZ=AA zaG:=rfl;rcases zlc h with⟨d,rfl,rfl⟩|⟨f1,f2,x,rfl,rfl,q1,q2,q3⟩
 .rw[zc hT rfl rfl rfl];have hi:yaD (.int d) [.tuple]=AA (.bl AC):=rfl;simp! [zaG,hi];rfl
 .have hi:yaD (.tp f1 [.str (chS x.l),.tp f2 [.int x.c,.int x.i,.int x.j,.int x.m]]) [.tuple]=AA (.bl AB):=rfl;have e:=λs=>ziR k (b:=f2) (c:=x.c) (I:=I) (J:=J) (n:=n) q1 q2 q3 s;rw[zc hT rfl rfl rfl];simp! [zaG,hi,ix0,ix1,e];rfl
theorem zf0(k:Nat)(x:AR)(I J n:Int)(s:SO):yc T (k+2) zaZ [.str x,.int n,.int I,.int J] s=.ok (.str x) s:=by
 have hT:T zaZ=AA zaG:=rfl;rw[zc hT rfl rfl rfl];have hi:yaD (.str x) [.tuple]=AA (.bl AC):=rfl;simp! [zaG,hi];rfl
def arC:Ce:=.call zaZ (.cons (.var 0) (.cons (.fld cU (.var 3) sn) (.cons (.var 1) (.cons (.var 2) .nil))))
theorem zfY(k:Nat)(h:UM st u l w n r q xs)(I J:Int):∀(vs:List PV) (ops:List Op),ybq vs=AA ops->yae (yc T (k+2)) [AD,AA (.int I),AA (.int J),AA (.loc u)] (.n 0) (.cst (.bl AB)) arC vs st=.ok (ops.map (Op.pv I J n)) st
 |[],ops,e=>by cases e;exact zaO
 |v::vs,ops,e=>by
  unfold ybq at e;split at e
  .rename_i a b ha hb
   cases e
   have hp:=placed k ha I J n st;have f1:=h.fn;have ih:=zfY k h I J vs b hb;have one:yba (yc T (k+2)) [AD,AA (.int I),AA (.int J),AA (.loc u)] (.n 0) (.cst (.bl AB)) arC v st=.ok (AA (a.pv I J n)) st:=by
    simp! [yba,arC,f1,hp,IC.ve32]
   rw[zW,one,bd_ok,ih,bd_ok];rfl
  .cases e
theorem zgL:∀{vs:List PV} {ops:List Op},ybq vs=AA ops->ops.length=vs.length
 |[],ops,e=>by cases e;rfl
 |v::vs,ops,e=>by
  unfold ybq at e;split at e
  .rename_i a b ha hb
   cases e
   rw[AS,AS,zgL hb]
  .cases e
theorem zkI(k:Nat)(h:UM st u l w n r q xs)(hx:xs.length<1000000)(hr:r+1<=4000){v:PV}{rs:Rs}(hv:rowOf v=AA rs)(G:List Int)(hG:G.length<=2)
  (hrow:∀s,yc T (k+2) za0 [rs.pv (G.headD 0) (G.tail.headD 0) n] s=.ok (.bl AB) s):
  ∃s,yc T (k+3) zau [.loc u,v,.tp AC (G.map .int)] st=.ok .non s/\UM s u l w n (r+1) q (xs++[.tp AC [.str "row",rs.pv (G.headD 0) (G.tail.headD 0) n]]):=by
 have hT:T zau=AA zC:=rfl;let⟨a,vs,rfl,ho,hl⟩:=zjz hv;have e1:=zeC (k+1) G hG st;generalize G.headD 0=I at *;generalize G.tail.headD 0=J at *;have hl2:=zgL ho;have e2:yae (yc T (k+2)) [AD,AA (.int I),AA (.int J),AA (.loc u)] (.n 0) (.cst (.bl AB)) arC (.str rs.nm::vs) st=.ok (.str rs.nm::rs.ops.map (Op.pv I J n)) st:=by
  have hp:=zf0 k rs.nm I J n st;have f1:=h.fn;have one:yba (yc T (k+2)) [AD,AA (.int I),AA (.int J),AA (.loc u)] (.n 0) (.cst (.bl AB)) arC (.str rs.nm) st=.ok (AA (.str rs.nm)) st:=by
   simp! [yba,arC,f1,hp,IC.ve32]
  rw[zW,one,bd_ok,zfY k h I J vs rs.ops ho,bd_ok];rfl
 have e2:yae (yc T (k+2)) [AD,AA (.int I),AA (.int J),AA (.loc u)] (.n 0) (.cst (.bl AB)) (.call zaZ (.cons (.var 0) (.cons (.fld cU (.var 3) sn) (.cons (.var 1) (.cons (.var 2) .nil))))) (.str rs.nm::vs) st=_:=e2;let⟨d,h2⟩:=h.sr (r+1);have ht:∀st,yah .tuple st [.lst (.str rs.nm::rs.ops.map (Op.pv I J n))]=AA (rs.pv I J n):=λ_=>rfl;let⟨b,h3⟩:=h2.ap hx (.tp AC [.str "row",rs.pv I J n]);have bt:∀(i j:Nat) (a b:PV) (ρ:IC.Env),yC (.t [i,j]) (.tp AC [a,b]) ρ=AA ((ρ.set i (AA a)).set j (AA b)):=λ_ _ _ _ _=>rfl;have c:decide (r+1 > 4000)=false:=decide_eq_false (by lia);have vM:zcX=.int 4000:=rfl;have f1:=h.fr;have f2:=h2.fr;have f3:=h2.fs;have o:=h2.ok;have lr:=λst=>zb3 (.str rs.nm::rs.ops.map (Op.pv I J n)) (by simp[hl2];lia) st;refine⟨_,?_,h3⟩;rw[zn hT rfl rfl];generalize PV.tp AC (G.map .int)=gv at *;generalize PV.str rs.nm::rs.ops.map (Op.pv I J n)=row at *;generalize rs.pv I J n=rowv at *;simp! [zC,e1,bt,e2,lr,ht,f1,ze3,d,zak,hrow,f2,vM,c,f3,o,b,IC.ve32,zbg];rfl
end
inductive StR:List PV->List PV->Prop
 |nil:StR [] []
 |row {xs rs v}:nL v=AB->StR xs rs->StR (xs++[.tp AC [.str "row",v]]) (rs++[v])
 |ask {xs rs a b c}:nLs [a,b,c]=AB->StR xs rs->StR (xs++[.tp AC [.str "asked",a,b,c]]) rs
def US(st:SO)(u l:Nat)(w n:Int)(R:List PV)(q:Int)(a:Nat):Prop:=∃xs,UM st u l w n R.length q xs/\StR xs R/\xs.length<=R.length+a
section
variable {st:SO}{u l:Nat}{w n q:Int}{R:List PV}{a:Nat}
noncomputable def gpB:Css:=match yg.body with
 |.cons (.for _ _ b) _=>b
 |x=>x
theorem zc8:yw .eq (.str "row") (.str "row")=AA (.bl AB):=by ac_rfl
theorem zf8:yw .eq (.str "rounds") (.str "row")=AA (.bl AC):=by ac_rfl
theorem zi8(I J n:Int)(o:Op):nL (o.pv I J n)=true:=by cases o<;>rfl
theorem zev(I J n:Int):∀ops:List Op,nLs (ops.map (Op.pv I J n))=AB
 |[]=>rfl
 |o::os=>by rw[AL,nLs,zi8,zev I J n os];rfl
theorem zbs(r:Rs)(I J n:Int):nL (r.pv I J n)=true:=by
 show nLs (PV.str r.nm::r.ops.map (Op.pv I J n))=AB;rw[nLs,zev];rfl
theorem zhs(k:Nat)(H:US st u l w n R q a)(hR:R.length+1<=4000)(ha:a<=500000){v:PV}{r:Rs}(hv:ybZ v=AA r)(G:List Int)(hG:G.length<=2)
  (hrow:∀s,yc T (k+2) za0 [r.pv (G.headD 0) (G.tail.headD 0) n] s=.ok (.bl AB) s) (p1:Option PV):
  ∃s,exs (yc T (k+3)) [AA (.loc u),p1,AA (.tp AC (G.map .int)),AA v] st gpB=.nx [AA (.loc u),p1,AA (.tp AC (G.map .int)),AA v] s/\US s u l w n (R++[r.pv (G.headD 0) (G.tail.headD 0) n]) q a:=by
 let⟨xs,h,hs,hx⟩:=H;let⟨b,v1,rfl,h1⟩:=zkj hv;let⟨s,e,h2⟩:=zkI k h (by lia) (by lia) h1 G hG hrow;have ih:=h.ins (AG "add_row");refine⟨s,?_,_,?_,.row (zbs _ _ _ _) hs,by simp;lia⟩
 .generalize PV.tp AC (G.map .int)=gv at *;simp! [gpB,yg,ix0,ix1,zc8,ih,e,IC.ve37]
 .rw[A9,DO];exact h2
theorem zg4(k:Nat)(I J:Int)(p1:Option PV)(ha:a<=500000):∀(vs:List PV) (rs:List Rs) (st:SO) (R:List PV) (p3:Option PV),deepOf vs=AA rs->US st u l w n R q a->R.length+rs.length<=4000 ->
  (∀r∈rs,∀s,yc T (k+2) za0 [r.pv I J n] s=.ok (.bl AB) s) ->
  ∃s p3',yay (yc T (k+3)) (.n 3) gpB vs [AA (.loc u),p1,AA (.tp AC [.int I,.int J]),p3] st=.nx [AA (.loc u),p1,AA (.tp AC [.int I,.int J]),p3'] s/\US s u l w n (R++rs.map λr=>r.pv I J n) q a
 |[],rs,st,R,p3,hd,H,_,_=>by
  cases hd
  exact⟨st,p3,zr,by simpa using H⟩
 |v::vs,rs,st,R,p3,hd,H,hl,hrow=>by
  unfold deepOf at hd;split at hd
  .rename_i x y hx hy
   cases hd
   erw[AS]at hl;let⟨s1,e1,H1⟩:=zhs k H (by lia) ha hx [I,J] (by simp) (hrow x (by simp)) p1;have e1:exs (yc T (k+3)) [AA (.loc u),p1,AA (.tp AC [.int I,.int J]),AA v] st gpB=.nx [AA (.loc u),p1,AA (.tp AC [.int I,.int J]),AA v] s1:=e1;let⟨s2,p3',e2,H2⟩:=zg4 k I J p1 ha vs y s1 _ (AA v) hy H1 (by simp;lia) (λr hr=>hrow r (by simp[hr]));refine⟨s2,p3',?_,by simpa using H2⟩;rw[zk (ρ1:=[AA (.loc u),p1,AA (.tp AC [.int I,.int J]),AA v]) rfl,e1];exact e2
  .cases hd
theorem zhP{α:Type}(f:Nat->List α){i:Nat}:∀n,i<=n->(upTo f i).length<=(upTo f n).length
 |0,h=>by
  rw[show i=0 by lia];exact AT _
 |n+1,h=>by
  rcases CS i (n+1)with h1|h1
  .have:=zhP f (i:=i) n (by lia);rw[upTo,A9];lia
  .have:i=n+1:=by lia
   rw[this];exact AT _
theorem US.ask(H:US st u l w n R q a)(k:Nat)(ha:a+1<=500000)(hR:R.length<=4000)(sen:PV)(hsn:nL sen=AB)(G:List Int)(hG:G.length<=2):∃s,yc T (k+2) zG [.loc u,sen,.tp AC (G.map .int)] st=.ok .non s/\US s u l w n R q (a+1):=by
 let⟨xs,h,hs,hx⟩:=H;let⟨s,e,h2⟩:=zgC k h (by lia) sen G hG;exact⟨s,e,_,h2,.ask (by simp[nLs,nL,hsn]) hs,by simp;lia⟩
theorem US.rnd(H:US st u l w n R q a)(k:Nat)(hq:q+1<=4000):∃s,yc T (k+1) zH [.loc u] st=.ok .non s/\US s u l w n R (q+1) a:=by
 let⟨xs,h,hs,hx⟩:=H;let⟨s,e,h2⟩:=zgs k h hq;exact⟨s,e,_,h2,hs,hx⟩
theorem US.ins(H:US st u l w n R q a)(x:AR)(hx:((ufs 0 0 0 0 0).lookup x).isNone=true:=by decide +kernel):ybR cU x st (.loc u)=AA true:=by
 let⟨xs,h,_⟩:=H;exact h.ins x hx
noncomputable def grB:Css:=match yj.body with
 |.cons _ (.cons (.for _ _ b) _)=>b
 |x=>x
theorem yeN:∀(G:List Int),G.length<=1->∀J:Int,yq .add (.tp AC (G.map .int)) (.tp AC [.int J])=AA (.tp AC ((G++[J]).map .int))
 |[],_,J=>rfl
 |[a],_,J=>rfl
def BodyOk(k u l:Nat)(w n:Int)(d:Bool)(vs:List PV)(G:List Int)(f:Nat->List PV)(qn an J:Nat):Prop:=
 ∀(st:SO) (R:List PV) (q:Int) (a:Nat),US st u l w n R q a->R.length+(f J).length<=4000->q+qn<=4000->a+an<=500000 ->
  ∃s,yc T k zM [.loc u,.tp d vs,.tp AC ((G++[(J:Int)]).map .int)] st=.ok .non s/\US s u l w n (R++f J) (q+qn) (a+an)
theorem zij(k:Nat){a1 d:Bool}{s0 cn sn:PV}(hsn:nL sn=AB){vs:List PV}{G:List Int}(hG:G.length<=1){f:Nat->List PV}{qn an N:Nat}(hb:∀J<N,BodyOk (k+2) u l w n d vs G f qn an J)
  (hR:R.length+(upTo f N).length<=4000) (hq:q+(N*(1+qn):Nat)<=4000) (ha:a+N*(1+an)<=500000):∀(M j:Nat) (st:SO) (p4:Option PV),j+M=N->US st u l w n (R++upTo f j) (q+(j*(1+qn):Nat)) (a+j*(1+an)) ->
  ∃s p4',yay (yc T (k+2)) (.n 4) grB (yo M (j:Int) 1) [AA (.loc u),AA (.tp a1 [s0,cn,sn,.tp d vs]),AA (.tp AC (G.map .int)),AA (.int N),p4] st=.nx [AA (.loc u),AA (.tp a1 [s0,cn,sn,.tp d vs]),AA (.tp AC (G.map .int)),AA (.int N),p4'] s/\US s u l w n (R++upTo f N) (q+(N*(1+qn):Nat)) (a+N*(1+an))
 |0,j,st,p4,hj,H=>by
  have:j=N:=by lia
  subst this;exact⟨st,p4,by rw[yo];exact zr,H⟩
 |M+1,j,st,p4,hj,H=>by
  have l1:(upTo f (j+1)).length<=(upTo f N).length:=zhP f N (by lia);rw[upTo,A9]at l1;have m1:(j+1)*(1+qn)<=N*(1+qn):=FI _ (by lia);have m2:(j+1)*(1+an)<=N*(1+an):=FI _ (by lia);have n1:(j+1)*(1+qn)=j*(1+qn)+(1+qn):=Fx _ _;have n2:(j+1)*(1+an)=j*(1+an)+(1+an):=Fx _ _;let⟨s1,e1,H1⟩:=H.ask k (by lia) (by rw[A9];lia) sn hsn (G++[(j:Int)]) (by simp;lia);let⟨s2,e2,H2⟩:=H1.rnd (k+1) (by lia);let⟨s3,e3,H3⟩:=hb j (by lia) s2 _ _ _ H2 (by rw[A9];lia) (by lia) (by lia);have H3:US s3 u l w n (R++upTo f (j+1)) (q+((j+1)*(1+qn):Nat)) (a+(j+1)*(1+an)):=by
   rw[upTo,<-Bp,n1,n2];have x1:q+((j*(1+qn)+(1+qn):Nat):Int)=q+((j*(1+qn):Nat):Int)+1+(qn:Int):=by lia
   have x2:a+(j*(1+an)+(1+an))=a+j*(1+an)+1+an:=by lia
   rw[x1,x2];exact H3
  let⟨s4,p4',e4,H4⟩:=zij k (a1:=a1) (s0:=s0) (cn:=cn) (sn:=sn) hsn hG hb hR hq ha M (j+1) s3 (AA (.int j)) (by lia) H3;refine⟨s4,p4',?_,H4⟩;have i1:=H.ins (AG "add_asked");have i2:=H1.ins (AG "add_round");have i3:=H2.ins (AG "go_parts");have c1:=yeN G hG (j:Int);have one:exs (yc T (k+2)) [AA (.loc u),AA (.tp a1 [s0,cn,sn,.tp d vs]),AA (.tp AC (G.map .int)),AA (.int N),AA (.int (j:Int))] st grB=.nx [AA (.loc u),AA (.tp a1 [s0,cn,sn,.tp d vs]),AA (.tp AC (G.map .int)),AA (.int N),AA (.int (j:Int))] s3:=by
   generalize PV.tp AC (G.map .int)=gv at *;generalize PV.tp AC ((G++[(j:Int)]).map .int)=gw at *;generalize PV.tp d vs=pv at *;simp! [grB,yj,ix0,ix1,ix2,ix3,c1,i1,i2,i3,e1,e2,e3,IC.ve37]
  rw[yo,zk (ρ1:=[AA (.loc u),AA (.tp a1 [s0,cn,sn,.tp d vs]),AA (.tp AC (G.map .int)),AA (.int N),AA (.int (j:Int))]) rfl,one];exact e4
theorem US.cnt(H:US st u l w n R q a)(k:Nat)(bb:Bool){c m t:Int}(hm:m.natAbs<=200)(ht:t.natAbs<=200)(n0:0<=n)(n1:n<=8):yc T (k+1) zL [.loc u,.tp bb [.int c,.int m,.int t]] st=.ok (.int (c+m*n+t*w*n)) st:=by
 let⟨xs,h,_⟩:=H;have zcV:∀{i j:Int},j.natAbs<18446744073709551616->yq .mul (.int i) (.int j)=AA (.int (i*j)):=λh=>zim (.inr h);exact ziP k h bb c m t (zaI (by lia)) (zaI (by lia)) (zcV (by lia))
theorem zla(z:Int)(s:SO):yah .max s [.int 0,.int z]=AA (.int ((z.toNat:Nat):Int)):=by
 show AA (PV.int (if 0<z then z else 0))=_;split
 .rw[Di (by lia)]
 .rw[show z.toNat=0 by lia];rfl
theorem zem(k:Nat){a1 b d:Bool}{s0 sn:PV}(hsn:nL sn=AB){vs:List PV}{c m t:Int}{G:List Int}(hG:G.length<=1){f:Nat->List PV}{qn an N:Nat}(hN:N=cnt c m t w n)(hm:m.natAbs<=200)(ht:t.natAbs<=200)(n0:0<=n)(n1:n<=8)(hN2:N<1000000)
  (hb:∀J<N,BodyOk (k+2) u l w n d vs G f qn an J) (hR:R.length+(upTo f N).length<=4000) (hq:q+(N*(1+qn):Nat)<=4000) (ha:a+N*(1+an)+1<=500000) (H:US st u l w n R q a):
  ∃s,yc T (k+3) zp [.loc u,.tp a1 [s0,.tp b [.int c,.int m,.int t],sn,.tp d vs],.tp AC (G.map .int)] st=.ok .non s/\US s u l w n (R++upTo f N) (q+(N*(1+qn):Nat)) (a+N*(1+an)+1):=by
 have hT:T zp=AA ⟨3,5,AC,yj.body⟩:=rfl;have e1:=H.cnt (k+1) b (c:=c) hm ht n0 n1;have i1:=H.ins (AG "count_of");let⟨s1,p4,e2,H2⟩:=zij k (a1:=a1) (s0:=s0) (cn:=.tp b [.int c,.int m,.int t]) (sn:=sn) (a:=a) (q:=q) (R:=R) hsn hG hb hR hq (by lia) N 0 st AD (by lia) (by simpa [upTo] using H);let⟨s2,e3,H3⟩:=H2.ask k (by lia) (by rw[A9];lia) sn hsn (G++[(N:Int)]) (by simp;lia);have i2:=H2.ins (AG "add_asked");have c1:=yeN G hG (N:Int);have hx:=zla (c+m*n+t*w*n) st;have hz:((c+m*n+t*w*n).toNat:Int)=(N:Int):=by rw[hN];rfl
 rw[hz]at hx;have hr:ybE (.int (N:Int))=AA (yo N 0 1):=by
  erw[ybE];rw[if_pos (by lia)];rfl
 have hbd:yj.body=(match yj.body with
  |.cons x (.cons (.for t i _) r)=>.cons x (.cons (.for t i grB) r)
  |x=>x):=rfl
 refine⟨s2,?_,H3⟩;rw[zn hT rfl rfl];dsimp only;rw[hbd];have e2:yay (yc T (k+2)) (.n 4) grB (yo N 0 1) _ st=_:=e2;generalize PV.tp AC (G.map .int)=gv at *;generalize PV.tp AC ((G++[(N:Int)]).map .int)=gw at *;generalize PV.tp d vs=pv at *;generalize PV.tp b [.int c,.int m,.int t]=cv at *;generalize c+m*n+t*w*n=z at *;simp! [yj,ix0,ix1,ix2,ix3,i1,e1,hx,hr,e2,c1,i2,e3,IC.ve37,zbg];rfl
theorem zfe(k:Nat){b:Bool}{vs:List PV}{gv:PV}{s:SO}{p3:Option PV}(e:yay (yc T k) (.n 3) gpB vs [AA (.loc u),AA (.tp b vs),AA gv,AD] st=.nx [AA (.loc u),AA (.tp b vs),AA gv,p3] s):
  yc T (k+1) zM [.loc u,.tp b vs,gv] st=.ok .non s:=by
 have hT:T zM=AA ⟨3,4,AC,yg.body⟩:=rfl
 have hbd:yg.body=(match yg.body with
  |.cons (.for t i _) r=>.cons (.for t i gpB) r
  |x=>x):=rfl
 rw[zn hT rfl rfl];dsimp only;rw[hbd];simp! [yg,e,zbg];rfl
theorem zgV(k:Nat){d:Bool}{vs:List PV}{rs:List Rs}(hd:deepOf vs=AA rs)(I:Int)(J:Nat)(hrow:∀r∈rs,∀s,yc T (k+2) za0 [r.pv I J n] s=.ok (.bl AB) s):BodyOk (k+4) u l w n d vs [I] (λJ=>rs.map λr=>r.pv I J n) 0 0 J:=by
 intro st R q a H h1 h2 h3;let⟨s,p3,e,H2⟩:=zg4 k (a:=a) (q:=q) I J (AA (.tp d vs)) (by lia) vs rs st R AD hd H (by simpa using h1) hrow;exact⟨s,zfe (k+3) e,by simpa using H2⟩
theorem zjF(k:Nat)(H:US st u l w n R q a){a1:Bool}{r:List PV}{gv:PV}{p1:Option PV}{s:SO}(e:yc T k zp [.loc u,.tp a1 (.str "rounds" :: r),gv] st=.ok .non s):
  exs (yc T k) [AA (.loc u),p1,AA gv,AA (.tp a1 (.str "rounds" :: r))] st gpB=.nx [AA (.loc u),p1,AA gv,AA (.tp a1 (.str "rounds" :: r))] s:=by
 have ih:=H.ins (AG "go_rounds");simp! [gpB,yg,ix0,zf8,ih,e,IC.ve37]
def ybm(v:PV):Prop:=∀(k:Nat) (s:SO),yc T (10+k) za0 [v] s=.ok (.bl AB) s
def T2.ak(w n:Int):T2->Nat
 |.row _=>0
 |.rounds c m t _=>cnt c m t w n+1
def ak2(w n:Int)(ps:List T2):Nat:=(ps.map (T2.ak w n)).sum
theorem zd0{c m t w n:Int}(hc:c.natAbs<=200)(hm:m.natAbs<=200)(ht:t.natAbs<=200)(w0:0<=w)(w1:w<=16)(n0:0<=n)(n1:n<=8):(c+m*n+t*w*n).natAbs<1000000:=by
 have h1:(m*n).natAbs<=200*8:=by rw[FJ];exact Av hm (by lia)
 have h2:(t*w*n).natAbs<=200*16*8:=by rw[FJ,FJ];exact Av (Av ht (by lia)) (by lia)
 generalize m*n=A at *;generalize t*w*n=B at *;lia
theorem zhn{α:Type}{f:Nat->List α}{x:α}:∀{N J:Nat},J<N->x∈f J->x∈upTo f N
 |0,_,h,_=>absurd h (by lia)
 |N+1,J,h,hx=>by
  rw[upTo,Bd];rcases CS J N with h1|h1
  .exact .inl (zhn h1 hx)
  .have:J=N:=by lia
   exact .inr (this ▸ hx)
theorem zmm{a b d:Bool}{x c m t sn:PV}{vs:List PV}(h:nL (.tp a [x,.tp b [c,m,t],sn,.tp d vs])=AB):nL sn=true:=by
 erw[nL,nLs,AK]at h;exact h.2.2.1
theorem zoF{a b d:Bool}{x c m t sn:PV}{vs:List PV}(h:nL (.tp a [x,.tp b [c,m,t],sn,.tp d vs])=AB):nLs vs=true:=by
 erw[nL,nLs,AK]at h;exact h.2.2.2.1
theorem zbk{v:PV}{vs:List PV}(h:nLs (v::vs)=AB):nL v=AB/\nLs vs=true:=by
 simpa only[nLs,AK] using h
theorem zkp(k:Nat)(w0:0<=w)(w1:w<=16)(n0:0<=n)(n1:n<=8)(I:Nat)(p1:Option PV){v:PV}{p:T2}(hv:nL v=AB)(hp:part2 v=AA p)(H:US st u l w n R q a)(hR:R.length+(p.rows w n I).length<=4000)(hq:q+(p.rnd w n:Nat)<=4000)(ha:a+p.ak w n<=500000)(hrow:∀x∈p.rows w n I,ybm x):
  ∃s,exs (yc T (k+13)) [AA (.loc u),p1,AA (.tp AC [.int I]),AA v] st gpB=.nx [AA (.loc u),p1,AA (.tp AC [.int I]),AA v] s/\US s u l w n (R++p.rows w n I) (q+(p.rnd w n:Nat)) (a+p.ak w n):=by
 rcases zjb hp with⟨r,rfl,h1⟩|⟨a1,b,sn,d,vs,c,m,t,rs,rfl,rfl,hd,hc,hm,ht⟩
 .let⟨s,e,H2⟩:=zhs (k+10) H (by simpa [T2.rows] using hR) (by lia) h1 [(I:Int)] (by simp) (λs=>by
   have:=hrow (r.pv I 0 n) (by simp[T2.rows]) (k+2) s;rw[show 10+(k+2)=k+10+2 by lia]at this;exact this) p1
  exact⟨s,e,by simpa [T2.rows,T2.rnd,T2.ak] using H2⟩
 .have hN:cnt c m t w n<1000000:=by
   have:=zd0 hc hm ht w0 w1 n0 n1;erw[cnt];lia
  erw[T2.rows,T2.rnd,T2.ak]at hR hq ha hrow ⊢;let⟨s,e,H2⟩:=zem (k+10) (a1:=a1) (b:=b) (d:=d) (s0:=.str "rounds") (sn:=sn) (zmm hv) (vs:=vs) (G:=[(I:Int)]) (by simp) (f:=λJ=>rs.map λr=>r.pv I J n) (qn:=0) (an:=0) rfl hm ht n0 n1 hN
   (λJ hJ=>zgV (k+8) hd I J (λr hr s=>by
    have:=hrow (r.pv I J n) (zhn hJ (Fw.2 ⟨r,hr,rfl⟩)) k s;rw[show 10+k=k+8+2 by lia]at this;exact this)) hR (by simpa using hq) (by lia) H
  have e:yc T (k+13) zp [.loc u,.tp a1 [.str "rounds",.tp b [.int c,.int m,.int t],sn,.tp d vs],.tp AC [.int I]] st=.ok .non s:=e;exact⟨s,zjF (k+13) H e,by simpa [D0] using H2⟩
theorem zj6(k:Nat)(w0:0<=w)(w1:w<=16)(n0:0<=n)(n1:n<=8)(I:Nat)(p1:Option PV):∀(vs:List PV) (ps:List T2) (st:SO) (R:List PV) (q:Int) (a:Nat) (p3:Option PV),nLs vs=AB->yaJ vs=AA ps->US st u l w n R q a->R.length+(yan w n I ps).length<=4000->q+(ybk w n ps:Nat)<=4000->a+ak2 w n ps<=500000->(∀x∈yan w n I ps,ybm x) ->
  ∃s p3',yay (yc T (k+13)) (.n 3) gpB vs [AA (.loc u),p1,AA (.tp AC [.int I]),p3] st=.nx [AA (.loc u),p1,AA (.tp AC [.int I]),p3'] s/\US s u l w n (R++yan w n I ps) (q+(ybk w n ps:Nat)) (a+ak2 w n ps)
 |[],ps,st,R,q,a,p3,_,hp,H,_,_,_,_=>by
  cases hp
  exact⟨st,p3,zr,by simpa [yan,ybk,ak2] using H⟩
 |v::vs,ps,st,R,q,a,p3,hv,hp,H,hR,hq,ha,hrow=>by
  unfold yaJ at hp;split at hp
  .rename_i x y hx hy
   cases hp
   have r1:yan w n I (x::y)=x.rows w n I++yan w n I y:=by simp[yan]
   have r2:ybk w n (x::y)=x.rnd w n+ybk w n y:=by simp[ybk]
   have r3:ak2 w n (x::y)=x.ak w n+ak2 w n y:=by simp[ak2]
   rw[r1,A9]at hR;rw[r2]at hq;rw[r3]at ha;rw[r1]at hrow;rw[r1,r2,r3];let⟨s1,e1,H1⟩:=zkp k w0 w1 n0 n1 I p1 (zbk hv).1 hx H (by lia) (by lia) (by lia) (λz hz=>hrow z (by simp[hz]));let⟨s2,p3',e2,H2⟩:=zj6 k w0 w1 n0 n1 I p1 vs y s1 _ _ _ (AA v) (zbk hv).2 hy H1 (by rw[A9];lia) (by lia) (by lia) (λz hz=>hrow z (by simp[hz]));refine⟨s2,p3',?_,?_⟩
   .rw[zk (ρ1:=[AA (.loc u),p1,AA (.tp AC [.int I]),AA v]) rfl,e1];exact e2
   .rw[<-Bp,<-D0,show q+((x.rnd w n+ybk w n y:Nat):Int)=q+(x.rnd w n:Nat)+(ybk w n y:Nat)by lia];exact H2
  .cases hp
theorem ziS(k:Nat)(w0:0<=w)(w1:w<=16)(n0:0<=n)(n1:n<=8){d:Bool}{vs:List PV}{ps:List T2}(hv:nLs vs=AB)(hp:yaJ vs=AA ps)(I:Nat)(hrow:∀x∈yan w n I ps,ybm x):BodyOk (k+14) u l w n d vs [] (λI=>yan w n I ps) (ybk w n ps) (ak2 w n ps) I:=by
 intro st R q a H h1 h2 h3;let⟨s,p3,e,H2⟩:=zj6 k w0 w1 n0 n1 I (AA (.tp d vs)) vs ps st R q a AD hv hp H h1 h2 h3 hrow;exact⟨s,zfe (k+13) e,H2⟩
def T1.ak(w n:Int):T1->Nat
 |.row _=>0
 |.rounds c m t ps=>cnt c m t w n*(1+ak2 w n ps)+1
def ak1(w n:Int)(ps:List T1):Nat:=(ps.map (T1.ak w n)).sum
theorem zli(k:Nat)(w0:0<=w)(w1:w<=16)(n0:0<=n)(n1:n<=8)(p1:Option PV){v:PV}{p:T1}(hv:nL v=AB)(hp:part1 v=AA p)(H:US st u l w n R q a)(hR:R.length+(p.rows w n).length<=4000)(hq:q+(p.rnd w n:Nat)<=4000)(ha:a+p.ak w n<=500000)(hrow:∀x∈p.rows w n,ybm x):
  ∃s,exs (yc T (k+15)) [AA (.loc u),p1,AA (.tp AC []),AA v] st gpB=.nx [AA (.loc u),p1,AA (.tp AC []),AA v] s/\US s u l w n (R++p.rows w n) (q+(p.rnd w n:Nat)) (a+p.ak w n):=by
 rcases zjt hp with⟨r,rfl,h1⟩|⟨a1,b,sn,d,vs,c,m,t,ps,rfl,rfl,hd,hc,hm,ht⟩
 .let⟨s,e,H2⟩:=zhs (k+12) H (by simpa [T1.rows] using hR) (by lia) h1 [] (by simp) (λs=>by
   have:=hrow (r.pv 0 0 n) (by simp[T1.rows]) (k+4) s;rw[show 10+(k+4)=k+12+2 by lia]at this;exact this) p1
  exact⟨s,e,by simpa [T1.rows,T1.rnd,T1.ak] using H2⟩
 .have hN:cnt c m t w n<1000000:=by
   have:=zd0 hc hm ht w0 w1 n0 n1;erw[cnt];lia
  erw[T1.rows,T1.rnd,T1.ak]at hR hq ha hrow ⊢;let⟨s,e,H2⟩:=zem (k+12) (a1:=a1) (b:=b) (d:=d) (s0:=.str "rounds") (sn:=sn) (zmm hv) (vs:=vs) (G:=[]) (by simp) (f:=λI=>yan w n I ps) (qn:=ybk w n ps) (an:=ak2 w n ps) rfl hm ht n0 n1 hN
   (λJ hJ=>ziS k w0 w1 n0 n1 (zoF hv) hd J (λz hz=>hrow z (zhn hJ hz))) hR hq (by lia) H
  have e:yc T (k+15) zp [.loc u,.tp a1 [.str "rounds",.tp b [.int c,.int m,.int t],sn,.tp d vs],.tp AC []] st=.ok .non s:=e;exact⟨s,zjF (k+15) H e,by rw[<-D0];exact H2⟩
theorem zjS(k:Nat)(w0:0<=w)(w1:w<=16)(n0:0<=n)(n1:n<=8)(p1:Option PV):∀(vs:List PV) (ps:List T1) (st:SO) (R:List PV) (q:Int) (a:Nat) (p3:Option PV),nLs vs=AB->yaI vs=AA ps->US st u l w n R q a->R.length+(yx w n ps).length<=4000->q+(yaU w n ps:Nat)<=4000->a+ak1 w n ps<=500000->(∀x∈yx w n ps,ybm x) ->
  ∃s p3',yay (yc T (k+15)) (.n 3) gpB vs [AA (.loc u),p1,AA (.tp AC []),p3] st=.nx [AA (.loc u),p1,AA (.tp AC []),p3'] s/\US s u l w n (R++yx w n ps) (q+(yaU w n ps:Nat)) (a+ak1 w n ps)
 |[],ps,st,R,q,a,p3,_,hp,H,_,_,_,_=>by
  cases hp
  exact⟨st,p3,zr,by simpa [yx,yaU,ak1] using H⟩
 |v::vs,ps,st,R,q,a,p3,hv,hp,H,hR,hq,ha,hrow=>by
  unfold yaI at hp;split at hp
  .rename_i x y hx hy
   cases hp
   have r1:yx w n (x::y)=x.rows w n++yx w n y:=by simp[yx]
   have r2:yaU w n (x::y)=x.rnd w n+yaU w n y:=by simp[yaU]
   have r3:ak1 w n (x::y)=x.ak w n+ak1 w n y:=by simp[ak1]
   rw[r1,A9]at hR;rw[r2]at hq;rw[r3]at ha;rw[r1]at hrow;rw[r1,r2,r3];let⟨s1,e1,H1⟩:=zli k w0 w1 n0 n1 p1 (zbk hv).1 hx H (by lia) (by lia) (by lia) (λz hz=>hrow z (by simp[hz]));let⟨s2,p3',e2,H2⟩:=zjS k w0 w1 n0 n1 p1 vs y s1 _ _ _ (AA v) (zbk hv).2 hy H1 (by rw[A9];lia) (by lia) (by lia) (λz hz=>hrow z (by simp[hz]));refine⟨s2,p3',?_,?_⟩
   .rw[zk (ρ1:=[AA (.loc u),p1,AA (.tp AC []),AA v]) rfl,e1];exact e2
   .rw[<-Bp,<-D0,show q+((x.rnd w n+yaU w n y:Nat):Int)=q+(x.rnd w n:Nat)+(yaU w n y:Nat)by lia];exact H2
  .cases hp
end
theorem yd6(k:Nat)(w n:Int):yc T (k+1) zad [.loc 0,.int w,.int n] [.ins cU []]=.ok .non [uob w n 1 0 0,.lst []]:=by
 have hT:T zad=AA zN:=rfl;rw[zn hT rfl rfl];ac_rfl
theorem zkd(w n:Int):US [uob w n 1 0 0,.lst []] 0 1 w n [] 0 0:=⟨[],⟨rfl,rfl,by decide⟩,.nil,by simp⟩
theorem StR.nl{xs rs:List PV}(h:StR xs rs):nLs xs=true:=by
 have ap:∀(a b:List PV),nLs a=AB->nLs b=AB->nLs (a++b)=true:=by
  intro a
  induction a with
  |nil=>intro b _ h;exact h
  |cons x a ih=>
   intro b h1 h2;let⟨p,q⟩:=zbk h1;rw[Ae,nLs,p,ih b q h2];rfl
 induction h with
 |nil=>rfl
 |row hv _ ih=>exact ap _ _ ih (by simp[nLs,nL,hv])
 |ask hv _ ih=>exact ap _ _ ih (by erw[nLs,nL,Bool.and_true,CY]at hv ⊢;simpa using hv)
theorem zgc:yw .eq (.str "asked") (.str "row")=AA (.bl AC):=by ac_rfl
theorem ziE(k:Nat){b:Bool}{vs:List PV}{ps:List T1}{w n:Int}(hv:nLs vs=AB)(hp:yaI vs=AA ps)(w0:0<=w)(w1:w<=16)(n0:0<=n)(n1:n<=8)(hR:(yx w n ps).length<=4000)(hq:yaU w n ps<=4000)(ha:ak1 w n ps<=500000)(hrow:∀x∈yx w n ps,ybm x)
  (hit:∀s,yc T (k+16) zR [.tp b vs] s=.ok (.bl AB) s) (st:SO):∃xs,yc T (k+17) zdb [.tp b vs,.int w,.int n] st=.ok (.lst xs) st/\StR xs (yx w n ps):=by
 have hT:T zdb=AA za2:=rfl;have hnl:nLs [.tp b vs,.int w,.int n]=true:=by simp[nLs,nL,hv]
 let⟨s,p3,e,xs,h,hs,_⟩:=zjS k w0 w1 n0 n1 (AA (.tp b vs)) vs ps [uob w n 1 0 0,.lst []] [] 0 0 AD hv hp (zkd w n) (by simpa using hR) (by lia) (by lia) hrow;have e:=zfe (k+15) e;have i0:=yd6 (k+15) w n;have ih:=(zkd w n).ins (AG "go_parts");have f1:=h.fs;have fz:ydb (.loc 1) s=.ok (.lst xs) (s.set 1 .dead):=by simp[ydb,h.d]
 refine⟨xs,?_,by simpa using hs⟩;have nl:=hs.nl;rw[zc hT rfl rfl hnl];generalize PV.tp b vs=tv at *;simp! [za2,hit,i0,ih,e,f1,fz,IC.ve32,IC.ve33,IC.ve37,ybn,newV];simp[ybr,nL,nl]
noncomputable def unT:Ce:=.cmp .eq (.idx (.var 0) (.cst (.int 0))) (.cst (.str "row"))
noncomputable def unE:Ce:=.idx (.var 0) (.cst (.int 1))
theorem zi2(k:Nat){st:SO}{xs rs:List PV}(h:StR xs rs):∀(ys b:List PV),yae (yc T k) [AD] (.n 0) unT unE ys st=.ok b st->yae (yc T k) [AD] (.n 0) unT unE (xs++ys) st=.ok (rs++b) st:=by
 induction h with
 |nil=>intro ys b e;exact e
 |@row xs rs v hv _ ih=>
  intro ys b e;have one:yba (yc T k) [AD] (.n 0) unT unE (.tp AC [.str "row",v]) st=.ok (AA v) st:=by
   simp! [yba,unT,unE,ix0,ix1,zc8]
  have:=ih (.tp AC [.str "row",v]::ys) (v::b) (by rw[zW,one,bd_ok,e,bd_ok];rfl);rw[Bp,Bp];exact this
 |@ask xs rs x y z hv _ ih=>
  intro ys b e;have one:yba (yc T k) [AD] (.n 0) unT unE (.tp AC [.str "asked",x,y,z]) st=.ok AD st:=by
   simp! [yba,unT,unE,ix0,ix1,zgc]
  have:=ih (.tp AC [.str "asked",x,y,z]::ys) b (by rw[zW,one,bd_ok,e,bd_ok];rfl);rw[Bp];exact this
theorem StR.nl2{xs rs:List PV}(h:StR xs rs):nLs rs=true:=by
 have ap:∀(a b:List PV),nLs a=AB->nLs b=AB->nLs (a++b)=true:=by
  intro a
  induction a with
  |nil=>intro b _ h;exact h
  |cons x a ih=>
   intro b h1 h2;let⟨p,q⟩:=zbk h1;rw[Ae,nLs,p,ih b q h2];rfl
 induction h with
 |nil=>rfl
 |row hv _ ih=>exact ap _ _ ih (by simp[nLs,hv])
 |ask _ _ ih=>exact ih
theorem unrolled(k:Nat){b:Bool}{vs:List PV}{ps:List T1}{w n:Int}(hv:nLs vs=AB)(hp:yaI vs=AA ps)(w0:0<=w)(w1:w<=16)(n0:0<=n)(n1:n<=8)(hR:(yx w n ps).length<=4000)(hq:yaU w n ps<=4000)(ha:ak1 w n ps<=500000)(hrow:∀x∈yx w n ps,ybm x)
  (hit:∀s,yc T (k+16) zR [.tp b vs] s=.ok (.bl AB) s) (st:SO):yc T (k+18) zdr [.tp b vs,.int w,.int n] st=.ok (.tp AC (yx w n ps)) st:=by
 have hT:T zdr=AA zba:=rfl;have hnl:nLs [.tp b vs,.int w,.int n]=true:=by simp[nLs,nL,hv]
 let⟨xs,e,hs⟩:=ziE k hv hp w0 w1 n0 n1 hR hq ha hrow hit [];have ec:=zi2 (k+17) (st:=[]) hs [] [] zaO;rw[Ax,Ax]at ec;have ec:yae (yc T (k+17)) [AD] (.n 0) (.cmp .eq (.idx (.var 0) (.cst (.int 0))) (.cst (.str "row"))) (.idx (.var 0) (.cst (.int 1))) xs []=_:=ec;have nl:=hs.nl2;have lr:=λst=>zb3 (yx w n ps) (by lia) st;have ht:∀st,yah .tuple st [.lst (yx w n ps)]=AA (.tp AC (yx w n ps)):=λ_=>rfl;rw[zc hT rfl rfl hnl];generalize PV.tp b vs=tv at *;generalize yx w n ps=rows at *;simp! [zba,e,ec,lr,ht];simp[ybr,nL,nl]
theorem zgg(w n:Int):∀ps:List T1,nLs (yx w n ps)=true:=by
 have ap:∀(a b:List PV),nLs a=AB->nLs b=AB->nLs (a++b)=true:=by
  intro a
  induction a with
  |nil=>intro b _ h;exact h
  |cons x a ih=>
   intro b h1 h2;let⟨p,q⟩:=zbk h1;rw[Ae,nLs,p,ih b q h2];rfl
 have up:∀(f:Nat->List PV) (N:Nat),(∀i,nLs (f i)=AB)->nLs (upTo f N)=true:=by
  intro f N h
  induction N with
  |zero=>rfl
  |succ N ih=>exact ap _ _ ih (h N)
 have mp:∀(rs:List Rs) (I J:Int),nLs (rs.map λr=>r.pv I J n)=true:=by
  intro rs I J
  induction rs with
  |nil=>rfl
  |cons r rs ih=>rw[AL,nLs,zbs,ih];rfl
 have two:∀(I:Nat) (ps:List T2),nLs (yan w n I ps)=true:=by
  intro I ps
  induction ps with
  |nil=>rfl
  |cons p ps ih=>
   rw[yan,B9];refine ap _ _ ?_ ih
   cases p with
   |row r=>simp[T2.rows,nLs,zbs]
   |rounds c m t rs=>exact up _ _ λJ=>mp rs _ _
 intro ps
 induction ps with
 |nil=>rfl
 |cons p ps ih=>
  rw[yx,B9];refine ap _ _ ?_ ih
  cases p with
  |row r=>simp[T1.rows,nLs,zbs]
  |rounds c m t ps=>exact up _ _ λI=>two I ps
theorem zhg(k:Nat){deed:PV}(hd:nL deed=AB){b:Bool}{vs:List PV}{ps:List T1}{w n:Int}(ht:∀s,yc T (k+18) zbH [deed] s=.ok (.tp b vs) s)(hv:nLs vs=AB)(hp:yaI vs=AA ps)(w0:0<=w)(w1:w<=16)(n0:0<=n)(n1:n<=8)(hR:(yx w n ps).length<=4000)(hq:yaU w n ps<=4000)(ha:ak1 w n ps<=500000)(hrow:∀x∈yx w n ps,ybm x)
  (hit:∀s,yc T (k+16) zR [.tp b vs] s=.ok (.bl AB) s) (st:SO):yc T (k+19) zaz [deed,.int w,.int n] st=.ok (.tp AC (yx w n ps)) st:=by
 have hT:T zaz=AA zaq:=rfl;have hnl:nLs [deed,.int w,.int n]=true:=by simp[nLs,nL,hd]
 have e:=unrolled k hv hp w0 w1 n0 n1 hR hq ha hrow hit [];have nl:=zgg w n ps;rw[zc hT rfl rfl hnl];generalize PV.tp b vs=tv at *;generalize yx w n ps=rows at *;simp! [zaq,ht,e];simp[ybr,nL,nl]
def Dg(W:Int)(M:Mem)(c n:Nat):Prop:=∀i:Nat,i<n->0<=M c i/\M c i<W
theorem Dg.mono{W:Int}{M:Mem}{c n:Nat}(h:Dg W M c (n+1)):Dg W M c n:=λi hi=>h i (by lia)
theorem zbc{W:Int}{M M':Mem}{c c':Nat}:∀n,(∀i:Nat,i<n->M c i=M' c' i)->yX W M c n=yX W M' c' n
 |0,_=>rfl
 |n+1,h=>by rw[yX,yX,zbc n λi hi=>h i (by lia),h n (by lia)]
theorem zck{W:Int}(hW:0<W){M:Mem}{c:Nat}:∀n,Dg W M c n->0<=yX W M c n/\yX W M c n<W^n
 |0,_=>by simp[yX]
 |n+1,h=>by
  let⟨a,b⟩:=zck hW n h.mono;let⟨c0,c1⟩:=h n (by lia);have hp:0<W^n:=Ad hW;have h1:0<=M c n*W^n:=CM c0 (by lia);have h2:M c n*W^n<=(W-1)*W^n:=B6 (by lia) (by lia);rw[EQ,BR]at h2;rw[yX,Ab,Aa (W^n) W];lia
theorem zd8{W:Int}(hW:0<W){M:Mem}{c:Nat}:∀n,Dg W M c n->(yX W M c n=0 ↔ ∀i:Nat,i<n->M c i=0)
 |0,_=>by simp[yX]
 |n+1,h=>by
  have ih:=zd8 hW n h.mono;let⟨a,b⟩:=zck hW n h.mono;let⟨c0,c1⟩:=h n (by lia);have hp:0<W^n:=Ad hW;have h1:0<=M c n*W^n:=CM c0 (by lia);rw[yX];constructor
  .intro h2 i hi;have h3:M c n*W^n=0:=by omega
   rcases CS i n with z|z
   .exact ih.1 (by lia) i z
   .rw[show i=n by lia];rcases Int.mul_eq_zero.1 h3 with e|e
    .exact e
    .lia
  .intro h2;rw[h2 n (by lia),ih.2 λi hi=>h2 i (by lia)];simp
theorem zeY{w:Nat}(hw:0<w){M:Mem}{c n:Nat}(h:Dg (2^w) M c (n+1)):tb w (M c n)=if (2^w:Int)^(n+1)<=2*yX (2^w) M c (n+1)then 1 else 0:=by
 let⟨c0,c1⟩:=h n (by lia);let⟨a,b⟩:=zck (Ad (by lia)) n h.mono;rw[zjL hw c0 c1,yX];obtain⟨v,rfl⟩:∃v,w=v+1:=⟨w-1,by lia⟩;have hp:0<((2:Int)^(v+1))^n:=Ad (Ad (by lia));rw[Ab ((2:Int)^(v+1)) n];generalize ((2:Int)^(v+1))^n=P at *;generalize hV:yX (2^(v+1)) M c n=V at *;rw[Ab]at *;generalize (2:Int)^v=H at *;generalize M c (n:Int)=d at *
 by_cases hd:H<=d
 .have h1:=B6 hd (show 0<=P by lia);have h2:P*(H*2)=2*(H*P):=by rw[Aa P,CD,Aa 2 P,<-CD,Aa 2]
  rw[if_pos (by lia),if_pos (by rw[h2];lia)]
 .have h1:=B6 (show d<=H-1 by lia) (show 0<=P by lia);rw[EQ,BR]at h1;have h2:P*(H*2)=2*(H*P):=by rw[Aa P,CD,Aa 2 P,<-CD,Aa 2]
  rw[if_neg (by lia),if_neg (by rw[h2];lia)]
theorem zfR{W:Int}(M:Mem)(k:Int)(hS:0<=M 115 0):∀n,(∀i:Nat,i<n->0<=M 99 i) ->
  (yK W (yE (λi=>Rw.any cS cS (99,i)) n) M k).2=k/\(∀d j,d≠115->(yK W (yE (λi=>Rw.any cS cS (99,i)) n) M k).1 d j=M d j)/\0<=(yK W (yE (λi=>Rw.any cS cS (99,i)) n) M k).1 115 0/\((yK W (yE (λi=>Rw.any cS cS (99,i)) n) M k).1 115 0=0 ↔ M 115 0=0/\∀i:Nat,i<n->M 99 i=0)
 |0,_=>⟨rfl,λ_ _ _=>rfl,hS,by simp[yE,yK]⟩
 |n+1,h=>by
  let⟨h1,h2,h3,h4⟩:=zfR (W:=W) M k hS n λi hi=>h i (by lia);rw[yE,zU];generalize yK W (yE (λi=>Rw.any cS cS (99,i)) n) M k=R at *;let⟨M1,k'⟩:=R;simp only at *;have hb:=h n (by lia);erw[yK,stepM,rd,wr,cS,h2 99 n (by decide)];have hz:=zhr h3 hb;refine⟨h1,λd j hd=>?_,?_,?_⟩
  .unfold upd;rw[if_neg (by lia),h2 d j hd]
  .unfold upd;rw[if_pos ⟨rfl,rfl⟩];obtain⟨x,hx⟩:∃x:Nat,M1 115 0=x:=⟨(M1 115 0).toNat,by lia⟩;obtain⟨y,hy⟩:∃y:Nat,M 99 n=y:=⟨(M 99 n).toNat,by lia⟩;rw[hx,hy,zdg];lia
  .unfold upd;rw[if_pos ⟨rfl,rfl⟩,hz,h4];constructor
   .rintro⟨⟨a,b⟩,c⟩
    refine⟨a,λi hi=>?_⟩;rcases CS i n with z|z
    .exact b i z
    .rw[show i=n by lia];exact c
   .rintro⟨a,b⟩
    exact⟨⟨a,λi hi=>b i (by lia)⟩,b n (by lia)⟩
theorem zbF{W:Int}{r:Rw}{rs:List Rw}{M:Mem}{k:Int}:yK W (r::rs) M k=yK W rs (stepM W M k r).1 (stepM W M k r).2:=rfl
theorem zez(b:Bool):0<=bi b/\bi b<=1:=by cases b<;>decide
theorem ziz{w:Nat}(hw:1<w){n:Nat}(M:Mem)(k:Int)(hc:Dg (2^w) M 99 (n+1))(hz:M 122 0=0):
  (∀j,(yK (2^w) (yI (n+1)) M k).1 99 j=M 99 j)/\(yK (2^w) (yI (n+1)) M k).1 109 0=M 109 0/\(yK (2^w) (yI (n+1)) M k).1 109 1=M 109 1 /\
  (yK (2^w) (yI (n+1)) M k).1 109 2=bi (yX (2^w) M 99 (n+1)==0)/\(yK (2^w) (yI (n+1)) M k).1 109 3=bi (decide ((2^w:Int)^(n+1)<=2*yX (2^w) M 99 (n+1))):=by
 have hW:(0:Int)<2^w:=Ad (by lia);have hW4:(4:Int)<=2^w:=by
  have h:(2:Nat)^2<=2^w:=An (by lia) (by lia);have h2:=pw w;lia
 let⟨h1,h2,h3,h4⟩:=zfR (W:=2^w) (wr M cS 0) k (by simp[wr,upd]) (n+1) (λi hi=>by simp[wr,upd];exact(hc i hi).1);have e:yI (n+1)=.set cS 0::(yE (λi=>Rw.any cS cS (99,i)) (n+1)++[.ask cS,.set (109,2) 1,.less (109,2) (109,2) cZ,.twice cT (99,((n+1:Nat):Int)-1),.sum (109,3) cZ cZ]):=rfl;have hst:stepM (2^w) M k (.set cS 0)=(wr M cS 0,k):=rfl;rw[e,zbF,hst,zU];generalize yK (2^w) (yE (λi=>Rw.any cS cS (99,i)) (n+1)) (wr M cS 0) k=R at *;let⟨M1,k'⟩:=R;simp only at *;subst h1;have g:∀d j,d≠115->M1 d j=M d j:=λd j hd=>by
  rw[h2 d j hd];erw[wr,upd,cS];rw[if_neg (by lia)]
 have hn:((n+1:Nat):Int)-1=n:=by lia
 have h5:M1 115 0=0 ↔ yX (2^w) M 99 (n+1)=0:=by
  rw[h4,zd8 hW (n+1) hc];constructor
  .rintro⟨_,b⟩ i hi
   have:=b i hi;simpa [wr,upd] using this
  .intro b;exact⟨by simp[wr,upd],λi hi=>by simpa [wr,upd] using b i hi⟩
 have ht:=zeY (by lia) hc;have hb:bi (!(M1 115 0==0))=1-bi (yX (2^w) M 99 (n+1)==0):=by
  by_cases hv:yX (2^w) M 99 (n+1)=0
  .rw[h5.2 hv,hv];rfl
  .have:¬M1 115 0=0:=λz=>hv (h5.1 z);rw[beq_eq_false_iff_ne.2 this,beq_eq_false_iff_ne.2 hv];rfl
 have hbr:=zez (yX (2^w) M 99 (n+1)==0);rw[hn];erw[yK,stepM,rd,wr,upd,cS,cT,cZ];rw[hb];generalize bi (yX (2^w) M 99 (n+1)==0)=v at *;have hm:bi (decide ((1:Int)-0-(1-v)<0))=0:=by
  rw[decide_eq_false (by lia)];rfl
 have hm2:(1-0-(1-v))%(2:Int)^w=v:=by
  rw[show 1-0-(1-v)=v by lia];exact BM (by lia) (by lia)
 have hT:(2*M 99 n+0)/2^w=bi (decide ((2^w:Int)^(n+1)<=2*yX (2^w) M 99 (n+1))):=by
  rw[Do];show tb w (M 99 n)=_;rw[ht]
  by_cases q:(2^w:Int)^(n+1)<=2*yX (2^w) M 99 (n+1)
  .rw[if_pos q,decide_eq_true q];rfl
  .rw[if_neg q,decide_eq_false q];rfl
 have hTr:=zez (decide ((2^w:Int)^(n+1)<=2*yX (2^w) M 99 (n+1)));erw[GS,false_and,if_false,Int.reduceEq,and_false,and_self,if_true,g _ _ (show (99:Nat)≠115 by decide),g _ _ (show (109:Nat)≠115 by decide),g _ _ (show (122:Nat)≠115 by decide),hz,hm,hm2,hT];refine⟨λj=>trivial,trivial,trivial,trivial,?_⟩;rw[show (0:Int)+0+bi (decide ((2^w:Int)^(n+1)<=2*yX (2^w) M 99 (n+1)))=bi (decide ((2^w:Int)^(n+1)<=2*yX (2^w) M 99 (n+1)))by lia];exact BM (by lia) (by lia)
theorem zbq{c d:Nat}(h:d≠c)(j:Int):∀(vs:List Int) (i:Nat) (M:Mem),yax c i vs M d j=M d j
 |[],_,_=>rfl
 |v::vs,i,M=>by
  rw[yax,zbq h j vs,upd,if_neg (by lia)]
theorem zct{c:Nat}(j:Int):∀(vs:List Int) (i:Nat) (M:Mem),j<i->yax c i vs M c j=M c j
 |[],_,_,_=>rfl
 |v::vs,i,M,h=>by
  rw[yax,zct j vs (i+1) _ (by lia),upd,if_neg (by lia)]
theorem zfk{c:Nat}:∀(vs:List Int) (i:Nat) (M:Mem) (k:Nat),k<vs.length->yax c i vs M c ((i+k:Nat):Int)=vs.getD k 0
 |[],_,_,_,h=>by simp at h
 |v::vs,i,M,0,h=>by
  rw[yax,zct _ vs (i+1) _ (by lia),upd,if_pos ⟨rfl,by simp⟩];rfl
 |v::vs,i,M,k+1,h=>by
  rw[yax,show i+(k+1)=i+1+k by lia,zfk vs (i+1) _ k (by simpa using h)];rfl
theorem zeI{W:Int}(hW:0<W):∀(n:Nat) (x:Int) (k:Nat),k<n->(yh W n x).getD k 0=x/W^k%W
 |0,_,_,h=>by lia
 |n+1,x,0,h=>by simp[yh]
 |n+1,x,k+1,h=>by
  rw[yh];show (yh W n (x/W)).getD k 0=_;rw[zeI hW n (x/W) k (by lia),Ab,Aa (W^k),BI (by lia)]
theorem zdN{W x:Int}(hW:0<W)(n:Nat):x%W^(n+1)=x%W^n+x/W^n%W*W^n:=by
 have hp:0<W^n:=Ad hW;rw[Ab];generalize W^n=P at *;have e1:=BH x P;have e2:=BH (x/P) W;have a0:=BD x (show P≠0 by lia);have a1:=Al x hp;have b0:=BD (x/P) (show W≠0 by lia);have b1:=Al (x/P) hW;generalize x%P=r at *;generalize x/P=q at *;generalize q%W=s at *;generalize q/W=t at *;subst e2;have e3:x=r+s*P+P*W*t:=by
  rw[<-e1,HK,Aa P s,CD P W t];lia
 have c1:s*P<=(W-1)*P:=B6 (by lia) (by lia);have c0:0<=s*P:=CM b0 (by lia);rw[EQ,BR]at c1;rw[e3,B1,BM (by lia) (by rw[Aa P W];lia)]
theorem zdx{W:Int}(hW:0<W){M:Mem}{c:Nat}{x:Int}:∀n,(∀i:Nat,i<n->M c i=x/W^i%W)->yX W M c n=x%W^n
 |0,_=>by simp[yX,Int.emod_one]
 |n+1,h=>by rw[yX,zdx hW n λi hi=>h i (by lia),h n (by lia),zdN hW]
section
variable {W:Int}(n:Nat)(x y:Int)
theorem znC{d:Nat}(h1:d≠97)(h2:d≠98)(j:Int):yaA W n x y d j=0:=by
 rw[yaA,zbq h2,zbq h1];rfl
variable (hW:0<W)
include hW
theorem zkt{i:Nat}(h:i<n):yaA W n x y 97 i=x/W^i%W:=by
 rw[yaA,zbq (by decide)];have:=zfk (c:=97) (yh W n x) 0 M0 i (by rw[zX];exact h);rw[B5]at this;rw[this,zeI hW n x i h]
theorem zm7:Dg W (yaA W n x y) 97 n:=λi hi=>by
 rw[zkt n x y hW hi];exact⟨BD _ (by lia),Al _ hW⟩
theorem zjH(h0:0<=x)(h1:x<W^n):yX W (yaA W n x y) 97 n=x:=by
 rw[zdx hW n λi hi=>zkt n x y hW hi,BM h0 h1]
end
theorem zlG{X:Fl}{v:PV}{st:SO}(h:ybr [] X=.ok v []):ybr st X=.ok v st:=by
 cases X with
 |rt u s=>
  erw[ybr]at h ⊢
  by_cases c:nL u=AB
  .rw[if_pos c]at h ⊢;cases h;rfl
  .rw[if_neg c]at h;cases h
 |nx ρ s=>erw[ybr]at h ⊢;cases h;rfl
 |_=>cases h
theorem zbn{k f:Nat}{fn:IC.Fn}{args:List PV}{v:PV}(hT:T f=AA fn)(hp:fn.pure=AB)(hl:args.length=fn.np)(hn:nLs args=AB)(h:yc T (k+1) f args []=.ok v [])(st:SO):yc T (k+1) f args st=.ok v st:=by
 rw[zc hT hp hl hn]at h ⊢;exact zlG h
def ybd(W:Int):List Rw->Mem->Int->Prop
 |[],_,_=>True
 |r::rs,M,k=>(∀t x,r=.half t x->0<=rd M x/\rd M x<W/\0<=k/\k<2)/\ybd W rs (stepM W M k r).1 (stepM W M k r).2
noncomputable def rnA:Css:=match yt.body with
 |.cons (.for _ _ b) _=>b
 |x=>x
noncomputable def rnB:Css:=match yt.body with
 |.cons _ (.cons (.for _ _ b) _)=>b
 |x=>x
theorem rnS:yt.body=.cons (.for (.n 2) (.seq (.var 1)) rnA) (.cons (.for (.n 2) (.seq (.var 1)) rnB) .nil):=rfl
theorem ziM(r:Rw):nLs [yZ r]=true:=by cases r<;>rfl
section
variable {m l n:Nat}
theorem zcU(k:Nat){v:Option PV}(st:SO):∀(rs:List Rw),(∀r∈rs,yc T (k+1) zP [yZ r] []=.ok .non [])->∀p2,∃q2,yay (yc T (k+1)) (.n 2) rnA (rs.map yZ) [AA (.loc m),v,p2] st=.nx [AA (.loc m),v,q2] st
 |[],h,p2=>⟨p2,by rw[Ac,zr]⟩
 |r::rs,h,p2=>by
  let⟨q2,e⟩:=zcU k (v:=v) st rs (λq hq=>h q (AY _ hq)) (AA (yZ r));have e1:=zbn (f:=zP) (fn:=z8) rfl rfl rfl (ziM r) (h r (by simp)) st;refine⟨q2,?_⟩;rw[AL,zk (ρ1:=[AA (.loc m),v,AA (yZ r)]) rfl];generalize yZ r=row at *;have hb:exs (yc T (k+1)) [AA (.loc m),v,AA row] st rnA=.nx [AA (.loc m),v,AA row] st:=by
   simp! [rnA,yt,e1]
  rw[hb];exact e
theorem zhH(k:Nat)(hn:n<=100)(hn1:1<=n){v:Option PV}:∀(rs:List Rw) (M:Mem) (mk:Int) (st:SO) (L:Nat) (p2:Option PV),MM st m l n M mk L->L+rs.length<999999->ybd (2^n) rs M mk ->
  ∃st' q2,MM st' m l n (yK (2^n) rs M mk).1 (yK (2^n) rs M mk).2 (L+rs.length)/\(∀q,q≠m->q≠l->st'[q]?=st[q]?)/\st'.length=st.length/\yay (yc T (k+6)) (.n 2) rnB (rs.map yZ) [AA (.loc m),v,p2] st=.nx [AA (.loc m),v,q2] st'
 |[],M,mk,st,L,p2,h,hL,hh=>⟨st,p2,h,λ_ _ _=>rfl,rfl,by rw[Ac,zr]⟩
 |r::rs,M,mk,st,L,p2,h,hL,hh=>by
  erw[AS]at hL;let⟨s1,h1,o1,l1,e1⟩:=zne k h (by lia) hn hn1 r hh.1;let⟨s2,q2,h2,o2,l2,e2⟩:=zhH k hn hn1 (v:=v) rs _ _ s1 (L+1) (AA (yZ r)) h1 (by lia) hh.2;refine⟨s2,q2,?_,λq a b=>(o2 q a b).trans (o1 q a b),l2.trans l1,?_⟩
  .rw[yK,AS,show L+(rs.length+1)=L+1+rs.length by lia];exact h2
  .have ih:=h.ins (AG "go_row");rw[AL,zk (ρ1:=[AA (.loc m),v,AA (yZ r)]) rfl];generalize yZ r=row at *;have hb:exs (yc T (k+6)) [AA (.loc m),v,AA row] st rnB=.nx [AA (.loc m),v,AA row] s1:=by
    simp! [rnB,yt,ih,e1,IC.ve37]
   rw[hb];exact e2
theorem ziW(k:Nat)(hn:n<=100)(hn1:1<=n){rs:List Rw}{M:Mem}{mk:Int}{st:SO}{L:Nat}(h:MM st m l n M mk L)(hL:L+rs.length<999999)(hh:ybd (2^n) rs M mk)(hA:∀r∈rs,yc T (k+6) zP [yZ r] []=.ok .non []):
  okM (yc T (k+7) zaD [.loc m,.tp AC (rs.map yZ)] st) st m l n (yK (2^n) rs M mk).1 (yK (2^n) rs M mk).2 (L+rs.length):=by
 have hT:T zaD=AA ⟨2,3,AC,yt.body⟩:=rfl;let⟨q2,e1⟩:=zcU (m:=m) (k+5) (v:=AA (.tp AC (rs.map yZ))) st rs hA AD;let⟨s2,q3,h2,o2,l2,e2⟩:=zhH k hn hn1 (v:=AA (.tp AC (rs.map yZ))) rs M mk st L q2 h hL hh;refine⟨s2,h2,o2,l2,?_⟩;rw[zn hT rfl rfl];show outI (exs (yc T (k+6)) [AA (.loc m),AA (.tp AC (rs.map yZ)),AD] st yt.body)=_;rw[rnS,xs_cons,x_for];generalize rs.map yZ=rows at *;simp! [e1,e2];rfl
theorem zho:([97,98,99,100,109].all λc=>(CU 9).all λi=>isOk (yc T 8 zaL [.str ⟨#[c]⟩,.int (i:Nat)] []) (yJ c (i:Nat)))=true:=by decide +kernel
theorem known(k:Nat){c i:Nat}(hc:c∈[97,98,99,100,109])(hi:i<9)(st:SO):yc T (8+k) zaL [.str ⟨#[c]⟩,.int (i:Int)] st=.ok (yJ c i) st:=by
 have h:=BQ.1 zho c hc;have h:=BQ.1 h i (by simpa using hi);have h:=zag (zdT h) k;rw[show 8+k=7+k+1 by lia]at h ⊢;exact zbn (f:=zaL) (fn:=zaS) rfl rfl rfl rfl h st
theorem ydX(k:Nat){st:SO}{L:Nat}{w mk:Int}{M:Mem}(h:MM st m l w M mk L){c i:Nat}(hc:c∈[97,98,99,100,109])(hi:i<9):yc T (9+k) zO [.loc m,.str ⟨#[c]⟩,.int (i:Int)] st=.ok (.int (M c i)) st:=by
 have hT:T zO=AA z4:=rfl;have e1:=known k hc hi st;have e2:yc T (8+k) zu [.loc m,yJ c i] st=.ok (.int (M c i)) st:=by
  rw[show 8+k=7+k+1 by lia];exact zdL (7+k) h (c,(i:Int))
 have ih:=h.ins (AG "held_in");rw[show 9+k=8+k+1 by lia,zn hT rfl rfl];generalize yJ c i=q at *;simp! [z4,ih,e1,e2,zbg,IC.ve37]
theorem zet(k:Nat)(v lo hi:Int)(h1:lo<=v)(h2:v<=hi)(st:SO):yc T (k+1) zaw [.int v,.int lo,.int hi] st=.ok (.bl AB) st:=by
 have hT:T zaw=AA zal:=rfl;rw[zc hT rfl rfl rfl];have e1:yaD (.int v) [.int]=AA (.bl AB):=rfl;have e2:yaD (.int v) [.bool]=AA (.bl AC):=rfl;simp! [zal,e1,e2,decide_eq_true h1,decide_eq_true h2];rfl
theorem ygL(k:Nat)(hn:n<=100){st:SO}{L:Nat}{mk:Int}{M:Mem}(h:MM st m l n M mk L)(hL:L<999999){c i:Nat}(hc:c∈[97,98,99,100,109])(hi:i<9){v:Int}(v0:0<=v)(v1:v<2^n):
  okM (yc T (9+k) zby [.loc m,.str ⟨#[c]⟩,.int (i:Int),.int v] st) st m l n (upd M c i v) mk (L+1):=by
 have hT:T zby=AA zaj:=rfl;have e1:=known k hc hi st;have e2:yc T (8+k) zcI [.int n] st=.ok (.int (2^n-1)) st:=by rw[show 8+k=7+k+1 by lia];exact highest (7+k) n hn st
 have e3:yc T (8+k) zaw [.int v,.int 0,.int (2^n-1)] st=.ok (.bl AB) st:=by rw[show 8+k=7+k+1 by lia];exact zet (7+k) v 0 (2^n-1) v0 (by lia) st
 let⟨s1,d1,⟨o,ho⟩,h1⟩:=h.sd hL (c,(i:Int)) v;refine⟨s1,h1,λq a b=>by rw[ho,AO (BK b)],by simp[ho],?_⟩;have d1:ya7 st (.loc l) (yJ c i) (.int v)=AA s1:=d1;rw[show 9+k=8+k+1 by lia,zn hT rfl rfl];generalize yJ c i=q at *;simp! [zaj,e1,h.fw,e2,e3,h.fd,zha,d1,zak,IC.ve32];rfl
end
theorem ydY{v:PV}:ybD sw v []=[(sw,v)]:=rfl
theorem yeE{a v:PV}:ybD sws v [(sw,a)]=[(sw,a),(sws,v)]:=by ac_rfl
theorem yee{a b v:PV}:ybD smk v [(sw,a),(sws,b)]=[(sw,a),(sws,b),(smk,v)]:=by ac_rfl
theorem yeg(k:Nat)(w:Int)(st:SO):yc T (k+1) zV [.loc st.length,.int w] (st++[.ins cM []])=.ok .non (st++[mob w (st.length+1) 0]++[.dct AB []]):=by
 have hT:T zV=AA zE:=rfl;have g0:(st++[Ob.ins cM []])[st.length]?=AA (.ins cM []):=by simp
 have s1:yaT cM (st++[Ob.ins cM []]) (.loc st.length) sw (.int w)=AA (st++[.ins cM [(sw,.int w)]]):=by
  erw[yaT,g0];rw[if_pos ⟨trivial,by simp⟩,ydY];simp
 have g1:(st++[Ob.ins cM [(sw,.int w)]]++[Ob.dct AB []])[st.length]?=AA (.ins cM [(sw,.int w)]):=by simp
 have s2:yaT cM (st++[Ob.ins cM [(sw,.int w)]]++[Ob.dct AB []]) (.loc st.length) sws (.loc (st.length+1))=AA (st++[.ins cM [(sw,.int w),(sws,.loc (st.length+1))]]++[.dct AB []]):=by
  erw[yaT,g1];rw[if_pos ⟨trivial,by simp⟩,yeE];simp
 have g2:(st++[Ob.ins cM [(sw,.int w),(sws,.loc (st.length+1))]]++[Ob.dct AB []])[st.length]?=AA (.ins cM [(sw,.int w),(sws,.loc (st.length+1))]):=by simp
 have s3:yaT cM (st++[Ob.ins cM [(sw,.int w),(sws,.loc (st.length+1))]]++[Ob.dct AB []]) (.loc st.length) smk (.int 0)=AA (st++[mob w (st.length+1) 0]++[.dct AB []]):=by
  erw[yaT,g2];rw[if_pos ⟨trivial,by simp⟩,yee];simp[mob]
 have hd:∀(ρ:IC.Env),ev (yc T k) ρ (st++[Ob.ins cM [(sw,.int w)]]) (.dict0 AB)=.ok (.loc (st.length+1)) (st++[Ob.ins cM [(sw,.int w)]]++[.dct AB []]):=λρ=>by
  erw[ev,A9,DO]
 rw[zn hT rfl rfl];erw[zE,xs_cons,ze3,hd];have hlen:(st++[Ob.ins cM [(sw,.int w)]]).length=st.length+1:=by simp
 simp! [s1,zak,hlen,s2,s3];rfl
theorem zew(W:Int)(hW:0<W)(x:Int):∀(n a:Nat),(yo n (a:Int) 1).map (λp=>match p with | .int j=>PV.int (x/W^j.toNat%W)|q=>q)=(yh W n (x/W^a)).map .int
 |0,a=>rfl
 |n+1,a=>by
  have h:=zew W hW x n (a+1);rw[yo,AL,yh,AL]
  congr 1
  .rw[show ((a:Int)+1)=((a+1:Nat):Int)by lia,h,Ab,BI (DN (Ad hW))]
theorem zkw(n:Nat)(hn:n<=1000):yq .shl (.int 1) (.int (n:Int))=AA (.int (2^n)):=by
 erw[yq,binI];rw[if_pos ⟨by lia,by lia,by decide⟩];simp
theorem zbp(a b:Nat)(ha:a<=1000):yq .mul (.int (a:Int)) (.int (b:Int))=AA (.int ((a*b:Nat):Int)):=by
 have h:yat (a:Int) (b:Int)=true:=by
  erw[yat,DA,decide_eq_true_eq];exact .inl (by simp;lia)
 erw[yq,binI,h,if_true];simp
theorem lowest(k:Nat)(x:Int)(w n:Nat)(hw:w<=16)(hn:n<=8)(st:SO):yc T (k+1) zo [.int x,.int w,.int n] st=.ok (.tp AC ((yh (2^w) n x).map .int)) st:=by
 have hT:T zo=AA z7:=rfl;have e1:=zkw w (by lia);have hr:=za8 n (by lia);have hc:yae (yc T k) [AD,AA (.int (2^w-1)),AA (.int x),AA (.int w)] (.n 0) (.cst (.bl AB)) (.bin .band (.bin .shr (.var 2) (.bin .mul (.var 3) (.var 0))) (.var 1)) (yo n 0 1) []=.ok ((yh (2^w) n x).map .int) []:=by
  have h:=zew (2^w) (Ad (by decide)) x n 0;rw[Cc,Dl]at h;rw[<-h];refine zeE _ λp hp=>?_;obtain⟨j,hj,rfl⟩:∃j:Nat,j<n/\p=.int (j:Int):=by
   have:∀(n a:Nat) (p:PV),p∈yo n (a:Int) 1->∃j:Nat,a<=j/\j<a+n/\p=.int (j:Int):=by
    intro n
    induction n with
    |zero=>intro a p h;cases h
    |succ n ih=>
     intro a p h;rw[yo]at h;rcases A3.1 h with rfl|h
     .exact⟨a,AT _,by lia,rfl⟩
     .let⟨j,h1,h2,h3⟩:=ih (a+1) p (by rw[show ((a+1:Nat):Int)=(a:Int)+1 by lia];exact h);exact⟨j,by lia,by lia,h3⟩
   let⟨j,_,h2,h3⟩:=this n 0 p hp;exact⟨j,by lia,h3⟩
  have m1:=zbp w j (by lia);have s1:yq .shr (.int x) (.int ((w*j:Nat):Int))=AA (.int (x/2^(w*j))):=by
   erw[yq,binI];rw[if_pos (by lia),CQ]
  have b1:=band (x/2^(w*j)) (2^w-1);rw[zeT (n:=w) (x/2^(w*j))]at b1;simp! [yba,m1,s1,b1];rw[CQ,<-ER]
 rw[zc hT rfl rfl rfl];simp! [z7,e1,hr,hc];rw[zb3 _ (by simp[zX];lia)];have ht:yah .tuple [] [.lst ((yh (2^w) n x).map .int)]=AA (.tp AC ((yh (2^w) n x).map .int)):=rfl;simp! [ht];simp[ybr,nL,noLocs_ints]
theorem zam{W:Int}(hW:0<W):∀(n:Nat) (x:Int),∀v∈yh W n x,0<=v/\v<W
 |0,x,v,h=>by cases h
 |n+1,x,v,h=>by
  rw[yh]at h;rcases A3.1 h with rfl|h
  .exact⟨BD _ (by lia),Al _ hW⟩
  .exact zam hW n _ v h
noncomputable def mwB:Css:=match yp.body with
 |.cons _ (.cons (.for _ _ b) _)=>b
 |x=>x
noncomputable def mwC:Css:=match mwB with
 |.cons (.for _ _ b) _=>b
 |x=>x
section
variable {m l n:Nat}
theorem zeZ(k:Nat)(hn:n<=100){c:Nat}(hc:c∈[97,98,99,100,109]){p0 p1 p2 p3 p6:Option PV}:∀(ws:List Int) (i:Nat) (M:Mem) (st:SO) (L:Nat) (p7 p8:Option PV),(∀v∈ws,0<=v/\v<2^n)->i+ws.length<=9->MM st m l n M 0 L->L+ws.length<999999 ->
  ∃st' q7 q8,MM st' m l n (yax c i ws M) 0 (L+ws.length)/\(∀q,q≠m->q≠l->st'[q]?=st[q]?)/\st'.length=st.length /\
   yay (yc T (9+k)) (.t [7,8]) mwC (yP i (ws.map .int)) [p0,p1,p2,p3,AA (.loc m),AA (.str ⟨#[c]⟩),p6,p7,p8] st=.nx [p0,p1,p2,p3,AA (.loc m),AA (.str ⟨#[c]⟩),p6,q7,q8] st'
 |[],i,M,st,L,p7,p8,hv,hi,h,hL=>⟨st,p7,p8,h,λ_ _ _=>rfl,rfl,by rw[Ac,yP,zr]⟩
 |v::ws,i,M,st,L,p7,p8,hv,hi,h,hL=>by
  erw[AS]at hi hL;let⟨v0,v1⟩:=hv v (by simp);let⟨s1,h1,o1,l1,e1⟩:=ygL k hn h (by lia) hc (i:=i) (by lia) v0 v1;let⟨s2,q7,q8,h2,o2,l2,e2⟩:=zeZ k hn hc (p0:=p0) (p1:=p1) (p2:=p2) (p3:=p3) (p6:=p6) ws (i+1) (upd M c i v) s1 (L+1) (AA (.int i)) (AA (.int v)) (λu hu=>hv u (AY _ hu)) (by lia) h1 (by lia);refine⟨s2,q7,q8,?_,λq a b=>(o2 q a b).trans (o1 q a b),l2.trans l1,?_⟩
  .rw[yax,AS,show L+(ws.length+1)=L+1+ws.length by lia];exact h2
  .have ih:=h.ins (AG "put");have bt:yC (.t [7,8]) (.tup [.int (i:Int),.int v]) [p0,p1,p2,p3,AA (.loc m),AA (.str ⟨#[c]⟩),p6,p7,p8]=AA [p0,p1,p2,p3,AA (.loc m),AA (.str ⟨#[c]⟩),p6,AA (.int i),AA (.int v)]:=rfl;rw[AL,yP,zk bt];have hb:exs (yc T (9+k)) [p0,p1,p2,p3,AA (.loc m),AA (.str ⟨#[c]⟩),p6,AA (.int i),AA (.int v)] st mwC=.nx [p0,p1,p2,p3,AA (.loc m),AA (.str ⟨#[c]⟩),p6,AA (.int i),AA (.int v)] s1:=by
    simp! [mwC,mwB,yp,ih,e1,IC.ve37]
   rw[hb];exact e2
end
theorem zeA(k:Nat)(w n:Nat)(hw:w<=16)(hn:n<=8)(x y:Int)(st:SO):
  ∃st' m l,st.length<=m/\st.length<=l/\MM st' m l w (yaA (2^w) n x y) 0 (2*n)/\(∀q,q<st.length->st'[q]?=st[q]?)/\yc T (10+k) zav [.int w,.int n,.int x,.int y] st=.ok (.loc m) st':=by
 have hT:T zav=AA ⟨4,9,AC,yp.body⟩:=rfl;have e1:yc T (9+k) zV [.loc st.length,.int w] (st++[.ins cM []])=.ok .non (st++[mob w (st.length+1) 0]++[.dct AB []]):=by rw[show 9+k=8+k+1 by lia];exact yeg (8+k) w st
 obtain⟨s1,hs1⟩:∃s1,s1=st++[mob w (st.length+1) 0]++[.dct AB []]:=⟨_,rfl⟩;rw[<-hs1]at e1;have h1:MM s1 st.length (st.length+1) w M0 0 0:=by
  rw[hs1];exact⟨by simp,⟨[],by simp,λp hp=>(by cases hp),λc i=>rfl,by simp⟩,by lia⟩
 have eA:∀s,yc T (9+k) zo [.int x,.int w,.int n] s=.ok (.tp AC ((yh (2^w) n x).map .int)) s:=λs=>by rw[show 9+k=8+k+1 by lia];exact lowest (8+k) x w n hw hn s
 have eB:∀s,yc T (9+k) zo [.int y,.int w,.int n] s=.ok (.tp AC ((yh (2^w) n y).map .int)) s:=λs=>by rw[show 9+k=8+k+1 by lia];exact lowest (8+k) y w n hw hn s
 have lA:=zX (2^w) n x;have lB:=zX (2^w) n y;let⟨s2,q7,q8,h2,o2,l2,f2⟩:=zeZ k (by lia) (c:=97) (by simp) (p0:=AA (.int w)) (p1:=AA (.int n)) (p2:=AA (.int x)) (p3:=AA (.int y)) (p6:=AA (.int x)) (yh (2^w) n x) 0 M0 s1 0 AD AD (zam (Ad (by decide)) n x) (by lia) h1 (by lia);let⟨s3,r7,r8,h3,o3,l3,f3⟩:=zeZ k (by lia) (c:=98) (by simp) (p0:=AA (.int w)) (p1:=AA (.int n)) (p2:=AA (.int x)) (p3:=AA (.int y)) (p6:=AA (.int y)) (yh (2^w) n y) 0 _ s2 _ q7 q8 (zam (Ad (by decide)) n y) (by lia) h2 (by lia);refine⟨s3,st.length,st.length+1,AT _,by lia,?_,λq hq=>?_,?_⟩
 .rw[show 2*n=0+(yh (2^w) n x).length+(yh (2^w) n y).length by lia];exact h3
 .rw[o3 q (by lia) (by lia),o2 q (by lia) (by lia),hs1,Bp,Ag hq]
 .have hb:yp.body=(match yp.body with
   |.cons a (.cons (.for t i _) r)=>.cons a (.cons (.for t i mwB) r)
   |x=>x):=rfl
  have hc:mwB=(match mwB with
   |.cons (.for t i _) r=>.cons (.for t i mwC) r
   |x=>x):=rfl
  have bt:∀(a b:PV) (p4 p5 p6 p7 p8:Option PV),yC (.t [5,6]) (.tp AC [a,b]) [AA (.int w),AA (.int n),AA (.int x),AA (.int y),p4,p5,p6,p7,p8]=AA [AA (.int w),AA (.int n),AA (.int x),AA (.int y),p4,AA a,AA b,p7,p8]:=λ_ _ _ _ _ _ _=>rfl;have cA:(AG "a")=⟨#[97]⟩:=by ac_rfl
  have cB:(AG "b")=⟨#[98]⟩:=by ac_rfl
  have g1:exs (yc T (9+k)) [AA (.int w),AA (.int n),AA (.int x),AA (.int y),AA (.loc st.length),AA (.str ⟨#[97]⟩),AA (.int x),AD,AD] s1 mwB=.nx [AA (.int w),AA (.int n),AA (.int x),AA (.int y),AA (.loc st.length),AA (.str ⟨#[97]⟩),AA (.int x),q7,q8] s2:=by
   rw[hc];simp! [mwB,yp,eA,f2]
  have g2:exs (yc T (9+k)) [AA (.int w),AA (.int n),AA (.int x),AA (.int y),AA (.loc st.length),AA (.str ⟨#[98]⟩),AA (.int y),q7,q8] s2 mwB=.nx [AA (.int w),AA (.int n),AA (.int x),AA (.int y),AA (.loc st.length),AA (.str ⟨#[98]⟩),AA (.int y),r7,r8] s3:=by
   rw[hc];simp! [mwB,yp,eB,f3]
  have ag:∀(ρ:IC.Env) (s:SO) (k:IC.Env->SO->Fl),yak (.nx ρ s) k=k ρ s:=λ_ _ _=>rfl;rw[show 10+k=9+k+1 by lia,zn hT rfl rfl];dsimp only;rw[hb];simp! [yp,e1,ybn,newV,hs1.symm,cA,cB,zk (bt _ _ _ _ _ _ _),zr,g1,g2,ag,zbg,IC.ve33]
noncomputable def getM(M:Mem)(c:Nat):Nat->Nat->List Int
 |_,0=>[]
 |a,n+1=>M c a::getM M c (a+1) n
theorem zcE(k:Nat){m l L:Nat}{w mk:Int}{M:Mem}{st:SO}(h:MM st m l w M mk L){c:Nat}(hc:c∈[97,98,99,100,109])(n:Nat)(hn:n<=8):
  yc T (10+k) zap [.loc m,.str ⟨#[c]⟩,.int n] st=.ok (.tp AC ((getM M c 0 n).map .int)) st:=by
 have hT:T zap=AA ⟨3,3,AC,yaj.body⟩:=rfl;have hr:=za8 n (by lia);have ih:=h.ins (AG "word");have hl:∀(n a:Nat),(getM M c a n).length=n:=by
  intro n
  induction n with
  |zero=>intro a;rfl
  |succ n ihn=>intro a;simp[getM,ihn]
 have hcm:∀(n a:Nat),a+n<=9->yae (yc T (9+k)) [AD,AA (.str ⟨#[c]⟩),AA (.loc m)] (.n 0) (.cst (.bl AB)) (.mcl cM zO (AG "word") (.var 2) (.cons (.var 1) (.cons (.var 0) .nil))) (yo n (a:Int) 1) st=.ok ((getM M c a n).map .int) st:=by
  intro n
  induction n with
  |zero=>intro a _;rw[yo,zaO];rfl
  |succ n ihn=>
   intro a ha;have e:=ydX k h hc (i:=a) (by lia);have one:yba (yc T (9+k)) [AD,AA (.str ⟨#[c]⟩),AA (.loc m)] (.n 0) (.cst (.bl AB)) (.mcl cM zO (AG "word") (.var 2) (.cons (.var 1) (.cons (.var 0) .nil))) (.int (a:Int)) st=.ok (AA (.int (M c a))) st:=by
    simp! [yba,ih,e,IC.ve37]
   have q:=ihn (a+1) (by lia);rw[yo,zW,one,bd_ok,show ((a:Int)+1)=((a+1:Nat):Int)by lia,q,bd_ok];rfl
 have hcm:=hcm n 0 (by lia);have ht:yah .tuple st [.lst ((getM M c 0 n).map .int)]=AA (.tp AC ((getM M c 0 n).map .int)):=rfl;rw[show 10+k=9+k+1 by lia,zn hT rfl rfl];have hcm:yae (yc T (9+k)) [AD,AA (.str ⟨#[c]⟩),AA (.loc m)] (.n 0) (.cst (.bl AB)) (.mcl cM zO (AG "word") (.var 2) (.cons (.var 1) (.cons (.var 0) .nil))) (yo n 0 1) st=_:=hcm;simp! [yaj,hr,hcm];rw[zb3 _ (by simp[hl];lia)];simp! [ht,zbg]
theorem zfE(k:Nat)(x:Int)(w n:Nat)(hw:w<=16)(hn:n<=8)(x0:0<=x)(x1:x<2^(w*n))(st:SO):yc T (k+2) zaW [.int x,.int w,.int n] st=.ok (.tp AC ((yh (2^w) n x).map .int)) st:=by
 have hT:T zaW=AA za6:=rfl;have hwn:w*n<=1000:=by
  have:w*n<=16*8:=Av hw hn;lia
 have m1:=zbp w n (by lia);have s1:=zkw (w*n) hwn;have e1:∀s,yc T (k+1) zo [.int x,.int w,.int n] s=_:=λs=>lowest k x w n hw hn s;have c1:decide (x<0)=false:=decide_eq_false (by lia);have c2:decide ((2:Int)^(w*n)<=x)=false:=decide_eq_false (by lia);rw[zc hT rfl rfl rfl];generalize hL:yh (2^w) n x=ws at *;simp! [za6,c1,m1,s1,c2,e1];simp[ybr,nL,noLocs_ints]
structure ydV(pr:Prop)(deed:PV)(w n na:Nat)(rs:List Rw):Prop where
 nl:nL deed=AB
 isd:yc T 20 zeU [deed] []=.ok (.bl AB) []
 isp:pr->False
 quo:∀st,(idxV st deed (.int 0)).bind (λv=>yw .isin v zat)=AA (.bl AC)
 rows:yc T 20 zaz [deed,.int w,.int n] []=.ok (.tp AC (rs.map yZ)) []
 ref:∀r∈rs,yc T 20 zP [yZ r] []=.ok .non []
 ans:yc T 20 zt [deed,.int n] []=.ok (.int na) []
 rest:yc T 20 zS [deed,.int n] []=.ok (.int 0) []
theorem zcB(k:Nat){pr:Prop}{deed:PV}{w n na:Nat}{rs:List Rw}(D:ydV pr deed w n na rs)(hw:w<=16)(hn:n<=8){x y:Int}(x0:0<=x)(x1:x<2^(w*n))(y0:0<=y)(y1:y<2^(w*n))(hp:y≠0->pr)(st:SO):
  yc T (21+k) zaB [deed,.int w,.int n,.int x,.int y] st=.ok .non st:=by
 have hT:T zaB=AA zaf:=rfl;have hnl:nLs [deed,.int w,.int n,.int x,.int y]=true:=by simp[nLs,D.nl,nL]
 have e1:=zag D.isd k;have e3:∀s,yc T (20+k) zaW [.int x,.int w,.int n] s=.ok (.tp AC ((yh (2^w) n x).map .int)) s:=λs=>by rw[show 20+k=18+k+2 by lia];exact zfE (18+k) x w n hw hn x0 x1 s
 have e4:∀s,yc T (20+k) zaW [.int y,.int w,.int n] s=.ok (.tp AC ((yh (2^w) n y).map .int)) s:=λs=>by rw[show 20+k=18+k+2 by lia];exact zfE (18+k) y w n hw hn y0 y1 s
 rw[show 21+k=20+k+1 by lia,zc hT rfl rfl hnl];have q:=D.quo []
 cases hi:idxV [] deed (.int 0)with
 |none=>rw[hi]at q;cases q
 |some v=>
  rw[hi,Bk]at q;generalize yh (2^w) n x=xs at *;generalize yh (2^w) n y=ys at *
  cases hy:(y==0)with
  |true=>simp! [zaf,e1,e3,e4,hy,hi,q];rfl
  |false=>
   exact(D.isp (hp (by intro h;rw[h]at hy;exact absurd hy (by decide)))).elim
theorem ran(k:Nat){pr:Prop}{deed:PV}{w n na:Nat}{rs:List Rw}(D:ydV pr deed w n na rs)(hw:w<=16)(hw1:1<=w)(hn:n<=4)(hna:na<=8)(hrs:rs.length<5000){x y:Int}(x0:0<=x)(x1:x<2^(w*n))(y0:0<=y)(y1:y<2^(w*n))(hp:y≠0->pr)(hh:ybd (2^w) rs (yaA (2^w) n x y) 0)(st:SO):
  yc T (22+k) zjp [deed,.int w,.int n,.int x,.int y] st=.ok (.tp AC [.tp AC ((getM (yK (2^w) rs (yaA (2^w) n x y) 0).1 99 0 na).map .int),.tp AC [],.tp AC ((getM (yK (2^w) rs (yaA (2^w) n x y) 0).1 109 0 4).map .int)]) st:=by
 have hT:T zjp=AA ⟨5,7,AB,yb9.body⟩:=rfl;have hnl:nLs [deed,.int w,.int n,.int x,.int y]=true:=by simp[nLs,D.nl,nL]
 have e1:=zcB k D hw (by lia) x0 x1 y0 y1 hp [];let⟨s2,m,l,_,_,h2,_,e2⟩:=zeA (11+k) w n hw (by lia) x y [];have e2:yc T (21+k) zav [.int w,.int n,.int x,.int y] []=.ok (.loc m) s2:=by rw[show 21+k=10+(11+k)by lia];exact e2
 have nl3:nLs [deed,.int w,.int n]=true:=by simp[nLs,D.nl,nL]
 have nl2:nLs [deed,.int n]=true:=by simp[nLs,D.nl,nL]
 have up:∀{f:Nat} {fn:IC.Fn} {args:List PV} {v:PV},T f=AA fn->fn.pure=AB->args.length=fn.np->nLs args=AB->yc T 20 f args []=.ok v []->∀s,yc T (21+k) f args s=.ok v s:=λ{f fn args v} a b c d e s=>by
  have:=zag e (1+k);rw[show 20+(1+k)=20+k+1 by lia]at this;rw[show 21+k=20+k+1 by lia];exact zbn a b c d this s
 have e3:=up (f:=zaz) (fn:=zaq) rfl rfl rfl nl3 D.rows s2;let⟨s4,h4,_,_,e4⟩:=ziW (14+k) (n:=w) (by lia) hw1 h2 (rs:=rs) (by lia) hh (λr hr=>by
  have:=zag (D.ref r hr) k;rw[show 20+k=14+k+6 by lia]at this;exact this)
 have e4:yc T (21+k) zaD [.loc m,.tp AC (rs.map yZ)] s2=.ok .non s4:=by rw[show 21+k=14+k+7 by lia];exact e4
 have e5:=up (f:=zt) (fn:=zy) rfl rfl rfl nl2 D.ans s4;have e6:=up (f:=zS) (fn:=zT) rfl rfl rfl nl2 D.rest s4;have n1:yc T (21+k) zap [.loc m,.str ⟨#[99]⟩,.int na] s4=.ok (.tp AC ((getM (yK (2^w) rs (yaA (2^w) n x y) 0).1 99 0 na).map .int)) s4:=by
  have:=zcE (11+k) h4 (c:=99) (by simp) na hna;rw[show 10+(11+k)=21+k by lia]at this;exact this
 have n2:yc T (21+k) zap [.loc m,.str ⟨#[100]⟩,.int 0] s4=.ok (.tp AC []) s4:=by
  have:=zcE (11+k) h4 (c:=100) (by simp) 0 (by lia);rw[show 10+(11+k)=21+k by lia]at this;exact this
 have n3:yc T (21+k) zap [.loc m,.str ⟨#[109]⟩,.int 4] s4=.ok (.tp AC ((getM (yK (2^w) rs (yaA (2^w) n x y) 0).1 109 0 4).map .int)) s4:=by
  have:=zcE (11+k) h4 (c:=109) (by simp) 4 (by lia);rw[show 10+(11+k)=21+k by lia]at this;exact this
 have ih:=h2.ins (AG "run");have cC:(AG "c")=⟨#[99]⟩:=by ac_rfl
 have cD:(AG "d")=⟨#[100]⟩:=by ac_rfl
 have cE:(AG "m")=⟨#[109]⟩:=by ac_rfl
 have vM:zb5=.int 4:=rfl;rw[show 22+k=21+k+1 by lia,zc hT rfl rfl hnl];dsimp only;generalize rs.map yZ=rows at *;generalize getM (yK (2^w) rs (yaA (2^w) n x y) 0).1 99 0 na=A at *;generalize getM (yK (2^w) rs (yaA (2^w) n x y) 0).1 109 0 4=B at *;simp! [yb9,e1,e2,ih,e3,e4,e5,e6,cC,cD,cE,vM,n1,n2,n3,IC.ve37];simp[ybr,nL,nLs,noLocs_ints]
theorem letters:((CU 26).all λj=>isOk (yc T 2 zbl [.str (chS (97+j))] []) (.bl AB))=true:=by decide +kernel
theorem zf5(k:Nat){c:Nat}(h1:97<=c)(h2:c<=122)(s:SO):yc T (k+2) zbl [.str (chS c)] s=.ok (.bl AB) s:=by
 have h:=BQ.1 letters (c-97) (by simp;lia);rw[show 97+(c-97)=c by lia]at h;have h:=zag (zdT h) k;rw[show 2+k=k+1+1 by lia]at h;exact zbn (f:=zbl) (fn:=zbi) rfl rfl rfl rfl h s
theorem zeh(k:Nat){i a b:Int}(h1:a<=i)(h2:i<=b)(s:SO):yc T (k+1) zaw [.int i,.int a,.int b] s=.ok (.bl AB) s:=by
 have hT:T zaw=AA zal:=rfl;have e1:yaD (.int i) [.int]=AA (.bl AB):=rfl;have e2:yaD (.int i) [.bool]=AA (.bl AC):=rfl;have c1:decide (a<=i)=true:=decide_eq_true h1;have c2:decide (i<=b)=true:=decide_eq_true h2;rw[zc hT rfl rfl rfl];simp! [zal,e1,e2,c1,c2,IC.ve9];rfl
theorem zjD(k:Nat){x:Cel}(h1:97<=x.1)(h2:x.1<=122)(h3:0<=x.2)(h4:x.2<=99)(s:SO):yc T (k+4) zes [yF x] s=.ok (.bl AB) s:=by
 have hT:T zes=AA zbA:=rfl;have hT2:T zbO=AA zah:=rfl;have el:∀s,yc T (k+3) zbO [yF x] s=.ok (.bl AB) s:=λs=>by
  have e:=λs=>zf5 k h1 h2 s;rw[zc hT2 rfl rfl rfl];have e1:yaD (yF x) [.tuple]=AA (.bl AB):=rfl;have e2:∀st,yah .len st [yF x]=AA (.int 2):=λ_=>rfl;have e3:∀st,idxV st (yF x) (.int 0)=AA (.str (chS x.1)):=λ_=>rfl;generalize yF x=v at *;simp! [zah,e1,e2,e3,e];rfl
 have ew:=λs=>zeh (k+2) h3 h4 s;have e3:∀st,idxV st (yF x) (.int 1)=AA (.int x.2):=λ_=>rfl;rw[zc hT rfl rfl rfl];generalize yF x=v at *;simp! [zbA,el,e3,ew];rfl
noncomputable abbrev kC:PV:=.str "cell"
noncomputable abbrev kF:PV:=.str "figure"
theorem zln(k:Nat){x:Cel}(h1:97<=x.1)(h2:x.1<=122)(h3:0<=x.2)(h4:x.2<=99)(s:SO):yc T (k+5) zB [kC,yF x,.bl AC] s=.ok (.bl AB) s:=by
 have hT:T zB=AA zQ:=rfl;have e:=λs=>zjD k h1 h2 h3 h4 s;have c:yw .eq kC kF=AA (.bl AC):=by ac_rfl
 have hnl:nLs [kC,yF x,.bl AC]=true:=rfl;rw[zc hT rfl rfl hnl];generalize yF x=v at *;simp! [zQ,c,e];rfl
theorem zjM(k:Nat){d:Int}(h1:0<=d)(h2:d<=1)(s:SO):yc T (k+5) zB [kF,.int d,.bl AC] s=.ok (.bl AB) s:=by
 have hT:T zB=AA zQ:=rfl;have e:=λs=>zeh (k+3) h1 h2 s;have c:yw .eq kF kF=AA (.bl AB):=by ac_rfl
 rw[zc hT rfl rfl rfl];simp! [zQ,c,e];rfl
noncomputable def hfB:Css:=match yM.body with
 |.cons _ (.cons (.for _ _ b) _)=>b
 |x=>x
theorem zgR(k:Nat){p0 p1:PV}(hp1:p1=.bl AC){st:SO}:∀(l:List (PV×PV)) (p2 p3:Option PV),(∀x∈l,∀s,yc T k zB [x.1,x.2,.bl AC] s=.ok (.bl AB) s) ->
  ∃q2 q3,yay (yc T k) (.t [2,3]) hfB (l.map λx=>.tp AC [x.1,x.2]) [AA p0,AA p1,p2,p3] st=.nx [AA p0,AA p1,q2,q3] st
 |[],p2,p3,_=>⟨p2,p3,zr⟩
 |(a,b)::l,p2,p3,h=>by
  subst hp1;let⟨q2,q3,e⟩:=zgR k (p0:=p0) rfl (st:=st) l (AA a) (AA b) (λx hx=>h x (by simp[hx]));refine⟨q2,q3,?_⟩;have e1:=h (a,b) (by simp) st;have one:exs (yc T k) [AA p0,AA (.bl AC),AA a,AA b] st hfB=.nx [AA p0,AA (.bl AC),AA a,AA b] st:=by
   simp only at e1;simp! [hfB,yM,e1]
  rw[AL,zk (ρ1:=[AA p0,AA (.bl AC),AA a,AA b]) rfl,one];exact e
theorem zgv(k:Nat){nm:AR}{ops:List PV}(ho:nLs ops=AB)(hl:0<(.str nm::ops:List PV).length)(hd:yce zac (.str nm)=AA (.bl AB))(s:SO):yc T (k+1) zb0 [.tp AC (.str nm::ops)] s=.ok (.bl AB) s:=by
 have hT:T zb0=AA za9:=rfl;have hnl:nLs [.tp AC (.str nm::ops)]=true:=by simp[nLs,nL,ho]
 have e1:yaD (.tp AC (.str nm::ops)) [.tuple]=AA (.bl AB):=rfl;have e2:∀st,yah .len st [.tp AC (.str nm::ops)]=AA (.int ((.str nm::ops:List PV).length:Nat)):=λ_=>rfl;have e3:∀st,idxV st (.tp AC (.str nm::ops)) (.int 0)=AA (.str nm):=λ_=>ix0;have e4:yaD (.str nm) [.str]=AA (.bl AB):=rfl;have c:decide (((.str nm::ops:List PV).length:Int) > 0)=true:=decide_eq_true (by lia);rw[zc hT rfl rfl hnl];generalize (PV.str nm::ops).length=L at *;generalize PV.tp AC (.str nm::ops)=v at *;simp! [za9,e1,e2,e3,e4,c,hd,IC.ve29];rfl
theorem zfq:∀l:List (PV×PV),yaL (l.map (·.1)) (l.map (·.2))=l.map λx=>.tp AC [x.1,x.2]
 |[]=>rfl
 |(a,b)::l=>by erw[AL,yaL,zfq l,PV.tup]
theorem zhI(k:Nat){nm:AR}(l:List (PV×PV))(hd:yce zac (.str nm)=AA (.bl AB))(hr:ycz zac (.str nm)=AA (.tp AB (l.map (·.1))))(ho:∀x∈l,∀s,yc T (k+1) zB [x.1,x.2,.bl AC] s=.ok (.bl AB) s)(hnl:nLs (l.map (·.2))=AB)
  (ht:yw .ne (.str nm) (.str "times")=AA (.bl AB)) (s:SO):yc T (k+2) zbX [.tp AC (.str nm::l.map (·.2)),.bl AC] s=.ok (.bl AB) s:=by
 have hT:T zbX=AA yM:=rfl;have hn2:nLs [.tp AC (.str nm::l.map (·.2)),.bl AC]=true:=by simp[nLs,nL,hnl]
 have e0:∀st,yc T (k+1) zb0 [.tp AC (.str nm::l.map (·.2))] st=.ok (.bl AB) st:=λst=>zgv k hnl (by simp) hd st;have e1:∀st,yah .len st [.tp AC (.str nm::l.map (·.2))]=AA (.int ((l.length+1:Nat):Int)):=λst=>by
  show AA (PV.int (((PV.str nm::l.map (·.2)).length:Nat):Int))=_;simp
 have e2:∀st,idxV st (.tp AC (.str nm::l.map (·.2))) (.int 0)=AA (.str nm):=λ_=>ix0;have e3:∀st,yah .len st [.tp AB (l.map (·.1))]=AA (.int (l.length:Nat)):=λst=>by
  show AA (PV.int (((l.map (·.1)).length:Nat):Int))=_;simp
 have c1:((((l.length+1:Nat):Int)==(l.length:Int)+1):Bool)=true:=by simp
 have o1:ybQ (.int 1)=AA (AA 1):=rfl;have e5:ycf (.tp AC (.str nm::l.map (·.2))) (AA 1) .non=AA (.tp AC (l.map (·.2))):=by
  have hc:ybb (l.length+1) 1=1:=by simp[ybb]
  erw[ycf,ybQ,ycm,cut,ycp,ycN,AS,BC,hc,List.drop_succ_cons,Ge]
  first
  |(rw[Ep (by simp)];done)
  |(simp;done)
  |(simp[Ep])
 have e6:ydF (.tp AB (l.map (·.1))) (.tp AC (l.map (·.2)))=AA (l.map λx=>.tp AC [x.1,x.2]):=by
  simp[ydF,zfq]
 let⟨q2,q3,e7⟩:=zgR (k+1) (p0:=.tp AC (.str nm::l.map (·.2))) (p1:=.bl AC) rfl (st:=[]) l AD AD ho
 have hb:yM.body=(match yM.body with
  |.cons a (.cons (.for t i _) r)=>.cons a (.cons (.for t i hfB) r)
  |x=>x):=rfl
 rw[zc hT rfl rfl hn2];rw[hb];generalize hv:PV.tp AC (.str nm::l.map (·.2))=v at *;generalize hz:(l.map λx=>PV.tp AC [x.1,x.2])=zs at *;generalize PV.tp AB (l.map (·.1))=ks at *;simp! [yM,e0,e1,e2,hr,e3,c1,e5,e6,e7,ht,o1,onP];rfl
def yW(x:Cel):Prop:=97<=x.1/\x.1<=122/\0<=x.2/\x.2<=99
def ybx:Rw->Prop
 |.mark d=>0<=d/\d<=1
 |.ask x=>yW x
 |.set t d=>yW t/\0<=d/\d<=1
 |.move t x | .bare t x | .twice t x | .half t x=>yW t/\yW x
 |.sum t x y | .less t x y | .both t x y | .any t x y | .odd t x y=>yW t/\yW x/\yW y
theorem zbJ{r:PV}{nm:AR}(l:List (PV×PV))(hr:r=.tp AC (.str nm::l.map (·.2)))(hd:yce zac (.str nm)=AA (.bl AB))(hx:ycz zac (.str nm)=AA (.tp AB (l.map (·.1))))(ho:∀x∈l,∀k s,yc T (k+5) zB [x.1,x.2,.bl AC] s=.ok (.bl AB) s)(hnl:nLs (l.map (·.2))=AB)
  (ht:yw .ne (.str nm) (.str "times")=AA (.bl AB)):ybm r:=λk s=>by
 have hT:T za0=AA zcf:=rfl;have e:∀s,yc T (9+k) zbX [r,.bl AC] s=.ok (.bl AB) s:=λs=>by
  subst hr;rw[show 9+k=7+k+2 by lia];exact zhI (7+k) l hd hx (λx hx s=>by rw[show 7+k+1=3+k+5 by lia];exact ho x hx (3+k) s) hnl ht s
 have hn2:nLs [r]=true:=by subst hr;simp[nLs,nL,hnl]
 rw[show 10+k=9+k+1 by lia,zc hT rfl rfl hn2];simp! [zcf,e];rfl
theorem oC{x:Cel}(h:yW x)(k:Nat)(s:SO):yc T (k+5) zB [kC,yF x,.bl AC] s=.ok (.bl AB) s:=zln k h.1 h.2.1 h.2.2.1 h.2.2.2 s
theorem ygp{nm:AR}{x:Cel}(h:yW x)(hd:yce zac (.str nm)=AA (.bl AB))(hx:ycz zac (.str nm)=AA (.tp AB [kC]))(ht:yw .ne (.str nm) (.str "times")=AA (.bl AB)):ybm (.tp AC [.str nm,yF x]):=
 zbJ [(kC,yF x)] rfl hd hx (λa ha=>by erw[A3,BB,or_false]at ha;subst ha;exact oC h) rfl ht
theorem row2{nm:AR}{t x:Cel}(h0:yW t)(h:yW x)(hd:yce zac (.str nm)=AA (.bl AB))(hx:ycz zac (.str nm)=AA (.tp AB [kC,kC]))(ht:yw .ne (.str nm) (.str "times")=AA (.bl AB)):ybm (.tp AC [.str nm,yF t,yF x]):=
 zbJ [(kC,yF t),(kC,yF x)] rfl hd hx (λa ha=>by erw[A3,BB,or_false]at ha;rcases ha with rfl|rfl;exact oC h0;exact oC h) rfl ht
theorem yda{nm:AR}{t x y:Cel}(h0:yW t)(h:yW x)(h2:yW y)(hd:yce zac (.str nm)=AA (.bl AB))(hx:ycz zac (.str nm)=AA (.tp AB [kC,kC,kC]))(ht:yw .ne (.str nm) (.str "times")=AA (.bl AB)):ybm (.tp AC [.str nm,yF t,yF x,yF y]):=
 zbJ [(kC,yF t),(kC,yF x),(kC,yF y)] rfl hd hx (λa ha=>by erw[A3,BB,or_false]at ha;rcases ha with rfl|rfl|rfl;exact oC h0;exact oC h;exact oC h2) rfl ht
theorem zfP:∀r,ybx r->ybm (yZ r)
 |.mark d,h=>zbJ [(kF,.int d)] rfl (by ac_rfl) (by ac_rfl) (λa ha=>by erw[A3,BB,or_false]at ha;subst ha;exact λk s=>zjM k h.1 h.2 s) rfl (by ac_rfl)
 |.ask x,h=>ygp h (by ac_rfl) (by ac_rfl) (by ac_rfl)
 |.set t d,h=>zbJ [(kC,yF t),(kF,.int d)] rfl (by ac_rfl) (by ac_rfl) (λa ha=>by erw[A3,BB,or_false]at ha;rcases ha with rfl|rfl;exact oC h.1;exact λk s=>zjM k h.2.1 h.2.2 s) rfl (by ac_rfl)
 |.move t x,h=>row2 h.1 h.2 (by ac_rfl) (by ac_rfl) (by ac_rfl)
 |.bare t x,h=>row2 h.1 h.2 (by ac_rfl) (by ac_rfl) (by ac_rfl)
 |.twice t x,h=>row2 h.1 h.2 (by ac_rfl) (by ac_rfl) (by ac_rfl)
 |.half t x,h=>row2 h.1 h.2 (by ac_rfl) (by ac_rfl) (by ac_rfl)
 |.sum t x y,h=>yda h.1 h.2.1 h.2.2 (by ac_rfl) (by ac_rfl) (by ac_rfl)
 |.less t x y,h=>yda h.1 h.2.1 h.2.2 (by ac_rfl) (by ac_rfl) (by ac_rfl)
 |.both t x y,h=>yda h.1 h.2.1 h.2.2 (by ac_rfl) (by ac_rfl) (by ac_rfl)
 |.any t x y,h=>yda h.1 h.2.1 h.2.2 (by ac_rfl) (by ac_rfl) (by ac_rfl)
 |.odd t x y,h=>yda h.1 h.2.1 h.2.2 (by ac_rfl) (by ac_rfl) (by ac_rfl)
theorem zlo{v:PV}(hn:nL v=AB)(h:ybm v)(k:Nat)(s:SO):yc T (11+k) zP [v] s=.ok .non s:=by
 have hT:T zP=AA z8:=rfl;have e:=λs=>h k s;rw[show 11+k=10+k+1 by lia,zc hT rfl rfl (by simp[nLs,hn])];simp! [z8,e];rfl
theorem zjv{c:Cl}{N acc lo:Int}{st:SO}:exs c [AA (.int N),AA (.int acc),AA (.int lo)] st (.cons (.asg (.n 1) (.bin .mul (.cst (.int 2)) (.var 1))) .nil)=.nx [AA (.int N),AA (.int (2*acc)),AA (.int lo)] st:=by
 erw[xs_nil,xs_cons,x_asg,yap,nxO,IC.ve1,IC.ve2,IC.ve3,R.bind,R.fl,yC,yq,binI,yat,toR,A7,A8,AN,AM];simp
theorem zbV(k n:Nat)(hn:n<1000)(st:SO):yc T (k+1) zao [.int n] st=.ok (.int (2^n)) st:=by
 let⟨ρ',st',h,u,e1,e2⟩:=zdE (call:=yc T k) (t:=.n 2) (b:=.cons (.asg (.n 1) (.bin .mul (.cst (.int 2)) (.var 1))) .nil) (λi ρ st=>∃u,ρ=[AA (.int n),AA (.int (2^i)),u]/\st=[]) (yo n 0 1) 0 [AA (.int n),AA (.int 1),AD] [] ⟨_,rfl,rfl⟩ (by
  rintro j x ρ st hx ⟨u,rfl,rfl⟩
  have hx:∃i,x=.int i:=by
   have:∀(n:Nat) (a d:Int) (j:Nat) x,(yo n a d)[j]?=AA x->∃i,x=.int i:=by
    intro n
    induction n with
    |zero=>intro a d j x h;simp[yo]at h
    |succ n ih=>
     intro a d j x h
     cases j with
     |zero=>simp[yo]at h;exact⟨a,h.symm⟩
     |succ j=>simp[yo]at h;exact ih _ _ _ _ h
   exact this _ _ _ _ _ hx
  let⟨i,rfl⟩:=hx;exact⟨_,_,_,rfl,zjv,_,by rw[Ab,Aa],rfl⟩)
 have hl:(yo n 0 1).length=n:=by
  have:∀(n:Nat) (a d:Int),(yo n a d).length=n:=by
   intro n
   induction n with
   |zero=>intro a d;rfl
   |succ n ih=>intro a d;simp[yo,ih]
  exact this _ _ _
 rw[hl,B5]at e1;subst e1 e2;rw[yc,show T zao=AA zbE from rfl];erw[zbE,AS,Am,if_true,nLs,nL,Cg,AL,Ac,Bm,Af,Ae,Aq,xs_cons,xs_nil,x_asg,x_for,x_ret,yap,nxO,IC.ve1,IC.ve2,R.fl,yC,A7,A8,evi,R.bind,AN,ybE,toL];erw[show (n:Int).natAbs<1000000000 by lia,if_true,CQ,h];simp[nL]
def ybT(W:Int)(M:Mem):Prop:=∀c i,0<=M c i/\M c i<W
noncomputable def rwD:Rw->Prop
 |.mark d | .set _ d=>0<=d/\d<=1
 |_=>True
theorem zaM{W:Int}{M:Mem}(h:ybT W M){t:Cel}{v:Int}(h0:0<=v)(h1:v<W):ybT W (wr M t v):=λc i=>by
 erw[wr,upd];split
 .exact⟨h0,h1⟩
 .exact h c i
theorem zh9{W s:Int}(hW:0<W)(h0:0<=s)(h1:s<2*W):(0<=s%W/\s%W<W)/\0<=s/W/\s/W<=1:=
 ⟨⟨BD _ (by lia),Al _ hW⟩,Bq h0 (by lia),by have:=BP hW (show s<2*W from h1);lia⟩
theorem zja{w:Nat}(hw:1<=w){M:Mem}{k:Int}(h:ybT (2^w) M)(k0:0<=k)(k1:k<=1):∀r,rwD r->ybT (2^w) (stepM (2^w) M k r).1/\0<=(stepM (2^w) M k r).2/\(stepM (2^w) M k r).2<=1:=by
 obtain⟨H,hH⟩:∃H:Int,(2:Int)^w=2*H:=⟨2^(w-1),by obtain⟨v,rfl⟩:∃v,w=v+1:=⟨w-1,by lia⟩;rw[Ab,Aa];rfl⟩;have hW:(0:Int)<2^w:=Ad (by lia);have R:∀x:Cel,0<=rd M x/\rd M x<2^w:=λx=>h x.1 x.2;intro r hr
 cases r with
 |mark d=>exact⟨h,hr⟩
 |ask x=>exact⟨h,zez _⟩
 |set t d=>exact⟨zaM h hr.1 (by have:=hr.2;lia),k0,k1⟩
 |move t x=>exact⟨zaM h (R x).1 (R x).2,k0,k1⟩
 |bare t x=>exact⟨zaM h (by have:=(R x).2;lia) (by have:=(R x).1;lia),k0,k1⟩
 |twice t x=>
  let⟨a,b⟩:=zh9 hW (s:=2*rd M x+k) (by have:=(R x).1;lia) (by have:=(R x).2;lia);exact⟨zaM h a.1 a.2,b⟩
 |half t x=>
  let⟨a,b⟩:=R x;have e:(2:Int)^w/2=H:=by lia
  refine⟨zaM h ?_ ?_,by show 0<=rd M x%2;lia,by show rd M x%2<=1;lia⟩
  .rw[e];rcases (by lia:k=0 \/ k=1)with rfl|rfl<;>lia
  .rw[e];rcases (by lia:k=0 \/ k=1)with rfl|rfl<;>lia
 |sum t x y=>
  let⟨a,b⟩:=zh9 hW (s:=rd M x+rd M y+k) (by have:=(R x).1;have:=(R y).1;lia) (by have:=(R x).2;have:=(R y).2;lia);exact⟨zaM h a.1 a.2,b⟩
 |less t x y=>exact⟨zaM h (BD _ (by lia)) (Al _ hW),zez _⟩
 |both t x y=>
  let⟨a,b⟩:=znX (w:=w) (R x).1 (R y).1 (R y).2;exact⟨zaM h a b,k0,k1⟩
 |any t x y=>
  let⟨a,b⟩:=zmE (w:=w) (R x).1 (R x).2 (R y).1 (R y).2;exact⟨zaM h a b,k0,k1⟩
 |odd t x y=>
  let⟨a,b⟩:=zn7 (w:=w) (R x).1 (R x).2 (R y).1 (R y).2;exact⟨zaM h a b,k0,k1⟩
theorem zgW{w:Nat}(hw:1<=w):∀(rs:List Rw) (M:Mem) (k:Int),(∀r∈rs,rwD r)->ybT (2^w) M->0<=k->k<=1->ybT (2^w) (yK (2^w) rs M k).1
 |[],M,k,_,h,_,_=>h
 |r::rs,M,k,hr,h,k0,k1=>by
  let⟨a,b,c⟩:=zja hw h k0 k1 r (hr r (by simp));exact zgW hw rs _ _ (λx hx=>hr x (by simp[hx])) a b c
noncomputable def ybK(W:Int)(M:Mem)(c:Nat):Nat->Nat->Int
 |_,0=>0
 |a,n+1=>ybK W M c (a+1) n*W+M c a
theorem zfG(W:Int)(M:Mem)(c:Nat):∀(n a:Nat),ybK W M c a (n+1)=ybK W M c a n+M c ((a+n:Nat):Int)*W^n
 |0,a=>by simp[ybK]
 |n+1,a=>by
  have h:=zfG W M c n (a+1);rw[ybK,h,ybK,show a+1+n=a+(n+1)by lia,Ab,HI,CD];lia
theorem zj7(W:Int)(M:Mem)(c:Nat):∀n,ybK W M c 0 n=yX W M c n
 |0=>rfl
 |n+1=>by rw[zfG,zj7 W M c n,yX,B5]
theorem zgU{W:Int}(hW:0<W){M:Mem}(h:ybT W M)(c:Nat):∀n a,yh W n (ybK W M c a n)=getM M c a n
 |0,a=>rfl
 |n+1,a=>by
  let⟨h0,h1⟩:=h c a;have e1:(ybK W M c (a+1) n*W+M c a)%W=M c a:=by
   rw[En,Int.add_mul_emod_self_right];exact BM h0 h1
  have e2:(ybK W M c (a+1) n*W+M c a)/W=ybK W M c (a+1) n:=by
   rw[En,Int.add_mul_ediv_right _ _ (by lia),BT h0 h1,Fy]
  rw[ybK,yh,e1,e2,zgU hW h c n (a+1),getM]
theorem zlM{W:Int}(hW:0<W){M:Mem}(h:ybT W M)(c n:Nat){v:Int}(hv:yX W M c n=v):getM M c 0 n=yh W n v:=by
 rw[<-zgU hW h c n 0,zj7,hv]
def sgd(T x:Int):Int:=if T<=2*x then x-T else x
def ybg(T s:Int):Bool:=decide (0-T<=2*s)&&decide (2*s<T)
theorem zfm{W:Int}(M:Mem)(k:Int)(f:Int->Rw)(g:Int->Int)(hf:∀(M1:Mem) (i:Int),(∀d j,d≠99->M1 d j=M d j)->stepM W M1 k (f i)=(wr M1 (99,i) (g i),k)):∀n:Nat,
  (yK W (yE f n) M k).2=k/\(∀d j,d≠99->(yK W (yE f n) M k).1 d j=M d j)/\∀i:Nat,i<n->(yK W (yE f n) M k).1 99 i=g i
 |0=>⟨rfl,λ_ _ _=>rfl,λi hi=>by lia⟩
 |n+1=>by
  let⟨h1,h2,h3⟩:=zfm M k f g hf n;rw[yE,zU];generalize yK W (yE f n) M k=R at *;let⟨M1,k'⟩:=R;simp only at *;subst h1;erw[yK,hf M1 n h2];refine⟨trivial,λd j hd=>?_,λi hi=>?_⟩
  .simp only[wr,upd];rw[if_neg (by lia),h2 d j hd]
  .simp only[wr,upd]
   by_cases hin:i=n
   .subst hin;rw[if_pos ⟨trivial,rfl⟩]
   .rw[if_neg (by lia)];exact h3 i (by lia)
def yaG(n:Nat):List Rw:=yE (λi=>.move (99,i) (97,i)) n
structure Shf(W:Int)(n:Nat)(M0 M:Mem)(v:Int):Prop where
 dg:Dg W M 99 n
 val:yX W M 99 n=v
 keep:∀d j,d≠99->d≠116->M d j=M0 d j
noncomputable def cx(l:Nat)(c i j m:Int):Op:=.cel ⟨l,c,i,j,m⟩
noncomputable def rS(nm:String)(ops:List Op):Rs:=⟨AG nm,ops⟩
def oZ:Op:=cx 122 0 0 0 0
def oS:Op:=cx 115 0 0 0 0
def oT:Op:=cx 116 0 0 0 0
def oM(i:Int):Op:=cx 109 i 0 0 0
def ycv(c m:Int):List T1:=[.row (rS "set" [oS,.fig 0]),.rounds c m 0 [.row (rS "any" [oS,oS,cx 99 0 1 0 0])],.row (rS "ask" [oS]),.row (rS "set" [oM 2,.fig 1]),.row (rS "less" [oM 2,oM 2,oZ]),.row (rS "twice" [oT,cx 99 (c-1) 0 0 m]),.row (rS "sum" [oM 3,oZ,oZ])]
theorem zb9{g:Nat->List PV}{f:Int->Rw}(h:∀I:Nat,g I=[yZ (f I)]):∀n,upTo g n=(yE f n).map yZ
 |0=>rfl
 |n+1=>by rw[upTo,yE,zb9 h n,h n,De];rfl
theorem zmR(w:Int)(n:Nat):cnt 0 1 0 w n=n:=by simp[cnt]
theorem zm5(I:Nat)(n:Int):(rS "any" [oS,oS,cx 99 0 1 0 0]).pv I 0 n=yZ (.any cS cS (99,I)):=by simp[Rs.pv,rS,Op.pv,oS,cx,Cx.at,yZ,yF]
theorem zan(w n:Int)(a b:List T1):yx w n (a++b)=yx w n a++yx w n b:=by simp[yx]
theorem zaE(w n:Int)(a b:List T1):yaU w n (a++b)=yaU w n a+yaU w n b:=by simp[yaU]
theorem ze5(f:Int->Rw)(m:Nat):(yE f m).length=m:=by
 induction m with
 |zero=>rfl
 |succ m ih=>simp[yE,ih]
noncomputable abbrev cF:Cel:=(102,0)
noncomputable abbrev cG:Cel:=(103,0)
noncomputable abbrev cH:Cel:=(104,0)
def yav(to last:Cel)(sg:Bool):List Rw:=[if sg=AB then .twice cT last else .mark 0,.less to cZ cZ]
def yaq(N:Nat)(k:Nat):List Rw:=upTo (λi=>[.odd cT (97,(N:Int)+i) cG,.any cH cH cT]) k
def yaX(n e:Nat):List Rw:=yE (λi=>.move (99,(n:Int)+i) cF) e
def ybi(sr sm:Bool)(n N:Nat):List Rw:=yaG (min n N)++(yav cF (97,(n:Int)-1) sr++(yaX n (N-n)++(yav cG (99,(N:Int)-1) sm++(.odd cH cF cG::(yaq N (n-N)++(.ask cH :: .sum (109,1) cZ cZ::yI N))))))
theorem zjd{P C t kG:Int}{sm:Bool}(c0:0<=C)(c1:C<P)(hk:kG=if sm=AB/\P<=2*C then 1 else 0):(if sm=AB then ybg P (C+P*t)else decide (0<=C+P*t)&&decide (C+P*t<P))=decide (t=-kG):=by
 have hP:0<P:=by lia
 rcases (by lia:t<=-2 \/ t=-1 \/ t=0 \/ 1<=t)with h|rfl|rfl|h
 .have h1:P*t<=P*(-2):=C8 h (by lia);rw[decide_eq_false (by split at hk<;>lia:¬t=-kG)];generalize P*t=Q at *
  cases sm<;>simp[ybg]<;>lia
 .cases sm
  .rw[if_neg (by simp)]at hk ⊢;subst hk;simp;lia
  .by_cases q:P<=2*C
   .rw[if_pos ⟨rfl,q⟩]at hk;subst hk;simp[ybg];lia
   .rw[if_neg (by simp[q])]at hk;subst hk;simp[ybg];lia
 .cases sm
  .rw[if_neg (by simp)]at hk ⊢;subst hk;simp;lia
  .by_cases q:P<=2*C
   .rw[if_pos ⟨rfl,q⟩]at hk;subst hk;simp[ybg];lia
   .rw[if_neg (by simp[q])]at hk;subst hk;simp[ybg];lia
 .have h1:P*1<=P*t:=C8 h (by lia);rw[decide_eq_false (by split at hk<;>lia:¬t=-kG)];generalize P*t=Q at *
  cases sm<;>simp[ybg]<;>lia
theorem zeL{W:Int}(hW:0<W):∀(k:Nat) (D:Int),0<=D->D<W^k->((∀i:Nat,i<k->D/W^i%W=0) ↔ D=0)
 |0,D,h0,h1=>⟨λ_=>by simp at h1;lia,λ_ i hi=>by lia⟩
 |k+1,D,h0,h1=>by
  have hd:D/W<W^k:=BP hW (by rw[<-Ab];exact h1);have ih:=zeL hW k (D/W) (Bq h0 (by lia)) hd;have e:=BH D W;constructor
  .intro h;have a:=h 0 (by lia);rw[Cc,Dl]at a;have b:=ih.1 λi hi=>by
    have:=h (i+1) (by lia);rw[Ab,Aa (W^i),<-BI (by lia)]at this;exact this
   rw[a,b]at e;simp at e;exact e.symm
  .rintro rfl i _
   simp
theorem zeo{W:Int}(hW:0<W):∀(k:Nat) (D:Int),0<=D->D<W^k->((∀i:Nat,i<k->D/W^i%W=W-1) ↔ D=W^k-1)
 |0,D,h0,h1=>⟨λ_=>by simp at h1;rw[Cc];lia,λ_ i hi=>by lia⟩
 |k+1,D,h0,h1=>by
  have hd:D/W<W^k:=BP hW (by rw[<-Ab];exact h1);have ih:=zeo hW k (D/W) (Bq h0 (by lia)) hd;have e:=BH D W;have hs:∀i:Nat,D/W^(i+1)%W=D/W/W^i%W:=λi=>by
   rw[Ab,Aa (W^i),<-BI (by lia)]
  constructor
  .intro h;have a:=h 0 (by lia);rw[Cc,Dl]at a;have b:=ih.1 λi hi=>by rw[<-hs];exact h (i+1) (by lia)
   rw[a,b,D4]at e;rw[Ab,Aa];generalize W*W^k=Q at *;lia
  .intro h;have e2:D=(W-1)+W*(W^k-1):=by
    rw[h,Ab,Aa,D4];generalize W*W^k=Q at *;lia
   have e3:D%W=W-1:=by
    rw[e2,B1];exact BM (by lia) (by lia)
   have e4:D/W=W^k-1:=by
    rw[e2,FB _ _ (by lia),BT (by lia) (by lia),Fy]
   intro i hi
   cases i with
   |zero=>rw[Cc,Dl];exact e3
   |succ i=>rw[hs];exact ih.2 e4 i (by lia)
theorem zey{w:Nat}(hw:1<w)(M:Mem){k:Int}(k0:0<=k)(k1:k<=1)(to last:Cel)(sg:Bool)(ht:to.1≠116)(hl:last.1≠116)(hz:M 122 0=0)(l0:0<=rd M last)(l1:rd M last<2^w):
  ∃M' k',yK (2^w) (yav to last sg) M k=(M',k')/\0<=k'/\k'<=1/\k'=(if sg=AB then tb w (rd M last)else 0)/\M' to.1 to.2=k' * (2^w-1)/\∀d j,d≠116->(d≠to.1 \/ j≠to.2)->M' d j=M d j:=by
 have hW4:(4:Int)<=2^w:=by
  have h:(2:Nat)^2<=2^w:=An (by lia) (by lia);have h2:=pw w;lia
 have hv:∀q:Int,0<=q->q<=1->(0-0-q)%(2:Int)^w=q*(2^w-1)/\bi (decide (0-0-q<0))=q:=λq q0 q1=>by
  rcases (by lia:q=0 \/ q=1)with rfl|rfl
  .simp;rfl
  .refine⟨?_,rfl⟩;rw[show (0:Int)-0-1=(2^w-1)+2^w*(-1)by lia,B1,BM (by lia) (by lia),BR]
 cases sg
 .simp only[yav,yK,stepM,BO,if_false,rd,cZ,hz];let⟨a,b⟩:=hv 0 (by lia) (by lia);refine⟨_,_,rfl,?_,?_,?_,?_,λd j h1 h2=>?_⟩
  .rw[b];lia
  .rw[b];lia
  .rw[b]
  .rw[b];simp[wr,upd]
  .simp only[wr,upd];rw[if_neg (by lia)]
 .have hm:(2*rd M last+k)/2^w=tb w (rd M last):=by
   have hH:(2:Int)^w=2*2^(w-1):=by
    obtain⟨v,rfl⟩:∃v,w=v+1:=⟨w-1,by lia⟩;rw[show v+1-1=v by lia,Ab,Aa]
   unfold tb;rw[hH,<-BI (by lia),<-BI (by lia),show (2*rd M last+k)/2=rd M last by lia,show 2*rd M last/2=rd M last by lia]
  have hq:0<=tb w (rd M last)/\tb w (rd M last)<=1:=by
   rw[zjL (by lia) l0 l1];split<;>lia
  let⟨a,b⟩:=hv _ hq.1 hq.2;have hz2:∀v:Int,wr M cT v 122 0=0:=λv=>by simp[wr,upd,hz]
  erw[yav,yK,stepM,if_true,hm];refine⟨_,_,rfl,?_,?_,?_,?_,λd j h1 h2=>?_⟩<;>erw[rd,cZ,hz2]
  .rw[show bi (decide (0-0-tb w (M last.1 last.2)<0))=tb w (M last.1 last.2)from b];exact hq.1
  .rw[show bi (decide (0-0-tb w (M last.1 last.2)<0))=tb w (M last.1 last.2)from b];exact hq.2
  .exact b
  .rw[show bi (decide (0-0-tb w (M last.1 last.2)<0))=tb w (M last.1 last.2)from b,show (0-0-tb w (M last.1 last.2))%2^w=tb w (M last.1 last.2)*(2^w-1)from a];simp[wr,upd]
  .simp only[wr,upd,cT];rw[if_neg (by lia),if_neg (by lia)]
theorem zex{W:Int}(M:Mem)(k:Int)(n:Nat):∀e:Nat,(yK W (yaX n e) M k).2=k/\(∀(d:Nat) (j:Int),(d≠99 \/ j<n)->(yK W (yaX n e) M k).1 d j=M d j)/\∀i:Nat,i<e->(yK W (yaX n e) M k).1 99 ((n+i:Nat):Int)=M 102 0
 |0=>⟨rfl,λ_ _ _=>rfl,λi hi=>by lia⟩
 |e+1=>by
  let⟨h1,h2,h3⟩:=zex (W:=W) M k n e;have ee:yaX n (e+1)=yaX n e++[.move (99,(n:Int)+e) cF]:=rfl;rw[ee,zU];generalize yK W (yaX n e) M k=R at *;let⟨M1,k'⟩:=R;simp only at *;subst h1;erw[yK,stepM,wr,rd,cF];refine⟨trivial,λd j hd=>?_,λi hi=>?_⟩
  .unfold upd;rw[if_neg (by lia),h2 d j hd]
  .unfold upd
   by_cases hin:i=e
   .subst hin;rw[if_pos ⟨rfl,by lia⟩,h2 102 0 (.inl (by decide))]
   .rw[if_neg (by lia)];exact h3 i (by lia)
theorem zid{a b:Int}(a0:0<=a)(b0:0<=b):0<=Ay a b/\(Ay a b=0 ↔ a=b):=by
 obtain⟨x,rfl⟩:∃x:Nat,a=x:=⟨a.toNat,by lia⟩;obtain⟨y,rfl⟩:∃y:Nat,b=y:=⟨b.toNat,by lia⟩;rw[zjV];refine⟨by lia,?_⟩;have:x ^^^ y=0 ↔ x=y:=⟨λh=>by
  have e:(x ^^^ y) ^^^ y=x:=by rw[Nat.xor_assoc,HB,Nat.xor_zero]
  rw[h,Nat.zero_xor]at e;exact e.symm,λh=>by rw[h,HB]⟩
 lia
theorem zoQ{a b:Int}(a0:0<=a)(b0:0<=b):0<=B2 a b:=by
 obtain⟨x,rfl⟩:∃x:Nat,a=x:=⟨a.toNat,by lia⟩;obtain⟨y,rfl⟩:∃y:Nat,b=y:=⟨b.toNat,by lia⟩;rw[zdg];lia
theorem zeV{W:Int}(M:Mem)(k:Int)(N:Nat)(hH:0<=M 104 0)(hG:0<=M 103 0):∀e:Nat,(∀i:Nat,i<e->0<=M 97 ((N+i:Nat):Int)) ->
  (yK W (yaq N e) M k).2=k/\(∀d j,d≠116->d≠104->(yK W (yaq N e) M k).1 d j=M d j)/\0<=(yK W (yaq N e) M k).1 104 0/\((yK W (yaq N e) M k).1 104 0=0 ↔ M 104 0=0/\∀i:Nat,i<e->M 97 ((N+i:Nat):Int)=M 103 0)
 |0,_=>⟨rfl,λ_ _ _ _=>rfl,hH,by simp[yaq,upTo,yK]⟩
 |e+1,h=>by
  let⟨h1,h2,h3,h4⟩:=zeV (W:=W) M k N hH hG e λi hi=>h i (by lia);have ee:yaq N (e+1)=yaq N e++[.odd cT (97,(N:Int)+e) cG,.any cH cH cT]:=rfl;rw[ee,zU];generalize yK W (yaq N e) M k=R at *;let⟨M1,k'⟩:=R;simp only at *;subst h1;have hb:=h e (by lia);let⟨x0,x1⟩:=zid hb hG;have z0:=zoQ h3 x0;have z1:=zhr h3 x0;have hc:(N:Int)+(e:Int)=((N+e:Nat):Int):=by lia
  erw[yK,stepM,wr,rd,cT,cG,cH,hc,h2 97 _ (by decide) (by decide),h2 103 _ (by decide) (by decide)];erw[upd,GS,false_and,if_false,and_self,if_true];refine⟨trivial,λd j a b=>?_,z0,?_⟩
  .rw[if_neg (by lia),if_neg (by lia),h2 d j a b]
  .rw[z1,h4,x1];constructor
   .rintro⟨⟨a,b⟩,c⟩
    refine⟨a,λi hi=>?_⟩;rcases CS i e with z|z
    .exact b i z
    .rw[show i=e by lia];exact c
   .rintro⟨a,b⟩
    exact⟨⟨a,λi hi=>b i (by lia)⟩,b e (by lia)⟩
theorem zel{W:Int}{M:Mem}{n:Nat}{v q:Int}(hq:q=0 \/ q=1)(h1:yX W M 99 n=v):∀e:Nat,(∀i:Nat,i<e->M 99 ((n+i:Nat):Int)=q*(W-1))->yX W M 99 (n+e)=v+q*(W^(n+e)-W^n)
 |0,_=>by rw[Nat.add_zero,h1,Int.sub_self,HC,Do]
 |e+1,h=>by
  rw[show n+(e+1)=n+e+1 by lia,yX,zel hq h1 e λi hi=>h i (by lia),h e (by lia),Ab];generalize W^(n+e)=P;generalize W^n=R;rcases hq with rfl|rfl
  .simp
  .rw[BR,BR,BR,EQ,Aa P W,BR];lia
theorem zks{W x xr k3:Int}{n N:Nat}{A M3:Mem}(hW:0<W)(x0:0<=x)(x1:x<W^(n+1))(hxk:xr=x-k3*W^(n+1))(hq:k3=0 \/ k3=1)(hVa:yX W A 97 (n+1)=x)(hAd:∀i:Nat,i<n+1->A 97 i=x/W^i%W)
  (c3:∀i:Nat,i<n+1->i<N+1->M3 99 i=A 97 i) (w3:∀i:Nat,i<N+1-(n+1)->M3 99 ((n+1+i:Nat):Int)=k3*(W-1)):
  ∃t:Int,xr=yX W M3 99 (N+1)+W^(N+1)*t/\∀kG:Int,(kG=0 \/ kG=1)->((k3=kG/\∀i:Nat,i<n+1-(N+1)->A 97 ((N+1+i:Nat):Int)=kG*(W-1)) ↔ t=-kG):=by
 by_cases hle:n+1<=N+1
 .obtain⟨e,he⟩:∃e,N+1=n+1+e:=⟨N-n,by lia⟩;have hv0:yX W M3 99 (n+1)=x:=(zbc (M':=A) (c':=97) (n+1) λi hi=>c3 i hi (by lia)).trans hVa;have hv:=zel hq hv0 e λi hi=>w3 i (by lia);rw[<-he]at hv;refine⟨-k3,?_,λkG hk=>?_⟩
  .rw[hxk,hv,HJ,Aa (W^(N+1)),D4];lia
  .constructor
   .rintro⟨rfl,_⟩;rfl
   .intro h;exact⟨by lia,λi hi=>by lia⟩
 .obtain⟨e,he⟩:∃e,n+1=N+1+e:=⟨n-N,by lia⟩;have hP:0<W^(N+1):=Ad hW;have hQ:0<W^e:=Ad hW;have hv:yX W M3 99 (N+1)=x%W^(N+1):=zdx hW (N+1) λi hi=>by rw[c3 i (by lia) hi,hAd i (by lia)]
  have hD0:0<=x/W^(N+1):=Bq x0 (by lia);have hD1:x/W^(N+1)<W^e:=BP hP (by rw[Aa,<-GV,<-he];exact x1);have hdg:∀i:Nat,i<e->A 97 ((N+1+i:Nat):Int)=x/W^(N+1)/W^i%W:=λi hi=>by
   rw[hAd _ (by lia),GV,BI (by lia)]
  have hm:=BH x (W^(N+1));have hz:=zeL hW e _ hD0 hD1;have hf:=zeo hW e _ hD0 hD1;refine⟨x/W^(N+1)-k3*W^e,?_,λkG hk=>?_⟩
  .rw[hxk,hv,he,GV,D4,Int.mul_left_comm (W^(N+1)) k3];generalize k3*(W^(N+1)*W^e)=Y;lia
  .rw[show n+1-(N+1)=e by lia];rcases hk with rfl|rfl
   .have:(∀i:Nat,i<e->A 97 ((N+1+i:Nat):Int)=0*(W-1)) ↔ x/W^(N+1)=0:=by
     rw[<-hz];exact⟨λh i hi=>by rw[<-hdg i hi,h i hi,CT],λh i hi=>by rw[hdg i hi,h i hi,CT]⟩
    rw[this];generalize x/W^(N+1)=D at *;rcases hq with rfl|rfl
    .rw[CT];lia
    .rw[BR];lia
   .have:(∀i:Nat,i<e->A 97 ((N+1+i:Nat):Int)=1*(W-1)) ↔ x/W^(N+1)=W^e-1:=by
     rw[<-hf];exact⟨λh i hi=>by rw[<-hdg i hi,h i hi,BR],λh i hi=>by rw[hdg i hi,h i hi,BR]⟩
    rw[this];generalize x/W^(N+1)=D at *;rcases hq with rfl|rfl
    .rw[CT];lia
    .rw[BR];lia
theorem zis{w:Nat}(hw:1<w)(sm:Bool){n N:Nat}{A M3:Mem}{k3 xr t:Int}(hW:(0:Int)<2^w)(hW4:(4:Int)<=2^w)(f0:0<=k3)(f1:k3<=1)(hq:k3=0 \/ k3=1)(da:Dg (2^w) A 97 (n+1))(o3:∀d j,d≠99->d≠116->(d≠102 \/ j≠0)->M3 d j=A d j)(hZ0:A 122 0=0)(hM0:∀i,A 109 i=0)(d3:Dg (2^w) M3 99 (N+1))(hF3:M3 102 0=k3*(2^w-1))(hFr:0<=k3*((2:Int)^w-1)/\k3*((2:Int)^w-1)<2^w)(ht:xr=yX (2^w) M3 99 (N+1)+(2^w:Int)^(N+1)*t)
  (htk:∀kG:Int,(kG=0 \/ kG=1)->((k3=kG/\∀i:Nat,i<n+1-(N+1)->A 97 ((N+1+i:Nat):Int)=kG*(2^w-1)) ↔ t=-kG)) (hr3:0<=yX (2^w) M3 99 (N+1)/\yX (2^w) M3 99 (N+1)<(2^w:Int)^(N+1)) (hmod:xr%(2^w:Int)^(N+1)=yX (2^w) M3 99 (N+1)):
  yX (2^w) (yK (2^w) (yav cG (99,(N:Int)) sm++Rw.odd cH cF cG::(yaq (N+1) (n+1-(N+1))++Rw.ask cH::Rw.sum (109,1) cZ cZ::yI (N+1))) M3 k3).1 99 (N+1)=xr%(2^w:Int)^(N+1)/\(yK (2^w) (yav cG (99,(N:Int)) sm++Rw.odd cH cF cG::(yaq (N+1) (n+1-(N+1))++Rw.ask cH::Rw.sum (109,1) cZ cZ::yI (N+1))) M3 k3).1 109 0=0/\(yK (2^w) (yav cG (99,(N:Int)) sm++Rw.odd cH cF cG::(yaq (N+1) (n+1-(N+1))++Rw.ask cH::Rw.sum (109,1) cZ cZ::yI (N+1))) M3 k3).1 109 1=bi (!(if sm=AB then ybg ((2^w:Int)^(N+1)) xr else decide (0<=xr)&&decide (xr<(2^w:Int)^(N+1))))/\(yK (2^w) (yav cG (99,(N:Int)) sm++Rw.odd cH cF cG::(yaq (N+1) (n+1-(N+1))++Rw.ask cH::Rw.sum (109,1) cZ cZ::yI (N+1))) M3 k3).1 109 2=bi (xr%(2^w:Int)^(N+1)==0)/\(yK (2^w) (yav cG (99,(N:Int)) sm++Rw.odd cH cF cG::(yaq (N+1) (n+1-(N+1))++Rw.ask cH::Rw.sum (109,1) cZ cZ::yI (N+1))) M3 k3).1 109 3=bi (decide ((2^w:Int)^(N+1)<=2*(xr%(2^w:Int)^(N+1)))):=by
 let⟨M4,kG,r4,g0,g1,g2,g3,g4⟩:=zey hw M3 (k:=k3) f0 f1 cG (99,N) sm (by decide) (by simp) (by rw[o3 122 0 (by decide) (by decide) (.inl (by decide))];exact hZ0) (d3 N (by lia)).1 (d3 N (by lia)).2;rw[zU,r4];have hkG:kG=if sm=AB/\(2^w:Int)^(N+1)<=2*yX (2^w) M3 99 (N+1)then 1 else 0:=by
  rw[g2,rd]
  cases sm
  .simp
  .simp only[if_true,true_and];exact zeY (by lia) d3
 have hkk:kG=0 \/ kG=1:=by lia
 have hfit:=zjd (t:=t) hr3.1 hr3.2 hkG;rw[<-ht]at hfit;have hGr:0<=kG*((2:Int)^w-1):=by rcases hkk with rfl|rfl<;>lia
 simp only at g3 g4;have hF4:M4 102 0=k3*(2^w-1):=by rw[g4 102 0 (by decide) (.inl (by decide))];exact hF3
 have hx:=zid (a:=k3*(2^w-1)) (b:=kG*(2^w-1)) hFr.1 hGr;have hst:stepM (2^w) M4 kG (.odd cH cF cG)=(wr M4 cH (Ay (k3*(2^w-1)) (kG*(2^w-1))),kG):=by
  erw[stepM,rd];rw[show M4 103 0=kG*(2^w-1)from g3,hF4]
 simp only;rw[zbF,hst];simp only;have h5:∀d j,(d≠104 \/ j≠0)->wr M4 cH (Ay (k3*(2^w-1)) (kG*(2^w-1))) d j=M4 d j:=λd j h=>by
  erw[wr,upd,cH];rw[if_neg (by lia)]
 have h5b:wr M4 cH (Ay (k3*(2^w-1)) (kG*(2^w-1))) 104 0=Ay (k3*(2^w-1)) (kG*(2^w-1)):=by simp[wr,upd]
 generalize wr M4 cH (Ay (k3*(2^w-1)) (kG*(2^w-1)))=M5 at *;have o5:∀d j,d≠116->d≠102->d≠103->d≠104->M5 d j=M3 d j:=λd j a b c e=>by
  rw[h5 d j (.inl e),g4 d j a (.inl c)]
 have a5:∀j,M5 97 j=A 97 j:=λj=>by rw[o5 97 j (by decide) (by decide) (by decide) (by decide),o3 97 j (by decide) (by decide) (.inl (by decide))]
 have hG5:M5 103 0=kG*(2^w-1):=by rw[h5 103 0 (.inl (by decide))];exact g3
 let⟨q1,q2,q3,q4⟩:=zeV (W:=2^w) M5 kG (N+1) (by rw[h5b];exact hx.1) (by rw[hG5];exact hGr) (n+1-(N+1)) (λi hi=>by rw[a5];exact(da _ (by lia)).1);rw[zU];generalize yK (2^w) (yaq (N+1) (n+1-(N+1))) M5 kG=R6 at *;let⟨M6,k6⟩:=R6;simp only at q1 q2 q3 q4 ⊢;subst q1;have hH:M6 104 0=0 ↔ t=-k6:=by
  rw[q4,h5b,hx.2,<-htk k6 hkk,hG5];constructor
  .rintro⟨a,b⟩
   refine⟨?_,λi hi=>by rw[<-a5];exact b i hi⟩;rcases hq with rfl|rfl<;>rcases hkk with rfl|rfl<;>lia
  .rintro⟨rfl,b⟩
   exact⟨rfl,λi hi=>by rw[a5];exact b i hi⟩
 have z6:M6 122 0=0:=by rw[q2 122 0 (by decide) (by decide),o5 122 0 (by decide) (by decide) (by decide) (by decide),o3 122 0 (by decide) (by decide) (.inl (by decide))];exact hZ0
 have m6:∀i,M6 109 i=0:=λi=>by rw[q2 109 i (by decide) (by decide),o5 109 i (by decide) (by decide) (by decide) (by decide),o3 109 i (by decide) (by decide) (.inl (by decide))];exact hM0 i
 have c6:∀i,M6 99 i=M3 99 i:=λi=>by rw[q2 99 i (by decide) (by decide),o5 99 i (by decide) (by decide) (by decide) (by decide)]
 have hb:bi (!(M6 104 0==0))=bi (!(decide (t=-k6))):=by
  by_cases z:t=-k6
  .rw[hH.2 z,decide_eq_true z];rfl
  .rw[decide_eq_false z,beq_eq_false_iff_ne.2 λy=>z (hH.1 y)]
 have hs1:stepM (2^w) M6 k6 (.ask cH)=(M6,bi (!(decide (t=-k6)))):=by
  erw[stepM,rd];rw[hb]
 rw[zbF,hs1];have hbr:=zez (!(decide (t=-k6)));generalize hbv:bi (!(decide (t=-k6)))=v at *;have hs2:stepM (2^w) M6 v (.sum (109,1) cZ cZ)=(wr M6 (109,1) v,0):=by
  erw[stepM,rd,cZ,z6];rw[show (0:Int)+0+v=v by lia,BM hbr.1 (by lia),BT hbr.1 (by lia)]
 simp only;rw[zbF,hs2];simp only;have j1:∀d j,(d≠109 \/ j≠1)->wr M6 (109,1) v d j=M6 d j:=λd j h=>by
  erw[wr,upd];rw[if_neg (by lia)]
 have j2:wr M6 (109,1) v 109 1=v:=by simp[wr,upd]
 generalize wr M6 (109,1) v=M7 at *;have c7:∀i:Nat,i<N+1->M7 99 i=M3 99 i:=λi _=>by rw[j1 99 i (.inl (by decide)),c6]
 have d7:Dg (2^w) M7 99 (N+1):=λi hi=>by rw[c7 i hi];exact d3 i hi
 let⟨e1,e2,e3,e4,e5⟩:=ziz hw M7 0 d7 (by rw[j1 122 0 (.inl (by decide)),z6]);have v7:yX (2^w) M7 99 (N+1)=yX (2^w) M3 99 (N+1):=zbc _ c7;rw[zbc (M':=M7) (c':=99) _ λi hi=>e1 i,e2,e3,e4,e5,v7,j2,j1 109 0 (.inr (by decide)),m6,hmod,hfit,hbv];exact⟨rfl,rfl,rfl,rfl,rfl⟩
theorem ziX{w:Nat}(hw:1<w)(sr sm:Bool){n N:Nat}{x:Int}(x0:0<=x)(x1:x<(2^w:Int)^(n+1)){xr:Int}(hxr:xr=if sr=AB then sgd ((2^w:Int)^(n+1)) x else x):
  yX (2^w) (yK (2^w) (ybi sr sm (n+1) (N+1)) (yaA (2^w) (n+1) x 0) 0).1 99 (N+1)=xr%(2^w:Int)^(N+1) /\
  (yK (2^w) (ybi sr sm (n+1) (N+1)) (yaA (2^w) (n+1) x 0) 0).1 109 0=0 /\
  (yK (2^w) (ybi sr sm (n+1) (N+1)) (yaA (2^w) (n+1) x 0) 0).1 109 1=bi (!(if sm=AB then ybg ((2^w:Int)^(N+1)) xr else decide (0<=xr)&&decide (xr<(2^w:Int)^(N+1)))) /\
  (yK (2^w) (ybi sr sm (n+1) (N+1)) (yaA (2^w) (n+1) x 0) 0).1 109 2=bi (xr%(2^w:Int)^(N+1)==0) /\
  (yK (2^w) (ybi sr sm (n+1) (N+1)) (yaA (2^w) (n+1) x 0) 0).1 109 3=bi (decide ((2^w:Int)^(N+1)<=2*(xr%(2^w:Int)^(N+1)))):=by
 have hW:(0:Int)<2^w:=Ad (by lia);have hW4:(4:Int)<=2^w:=by
  have h:(2:Nat)^2<=2^w:=An (by lia) (by lia);have h2:=pw w;lia
 have da:=zm7 (n+1) x 0 hW;have hZ0:yaA (2^w) (n+1) x 0 122 0=0:=znC _ _ _ (by decide) (by decide) _;have hM0:∀i,yaA (2^w) (n+1) x 0 109 i=0:=λi=>znC _ _ _ (by decide) (by decide) _;have hAt:tb w (yaA (2^w) (n+1) x 0 97 n)=if (2^w:Int)^(n+1)<=2*x then 1 else 0:=by
  rw[zeY (by lia) da,zjH _ _ _ hW x0 x1]
 have hAd:∀i:Nat,i<n+1->yaA (2^w) (n+1) x 0 97 i=x/(2^w)^i%2^w:=λi hi=>zkt _ _ _ hW hi;have hVa:=zjH (n+1) x 0 hW x0 x1;generalize yaA (2^w) (n+1) x 0=A at *;let⟨p1,p2,p3⟩:=zfm (W:=2^w) A 0 (λi=>.move (99,i) (97,i)) (λi=>A 97 i) (λM1 i h=>by erw[stepM,rd,h 97 i (by decide)]) (min (n+1) (N+1));have e0:yaG (min (n+1) (N+1))=yE (λi=>.move (99,i) (97,i)) (min (n+1) (N+1)):=rfl;rw[ybi,e0,zU];generalize yK (2^w) (yE (λi=>.move (99,i) (97,i)) (min (n+1) (N+1))) A 0=R1 at *;let⟨M1,k1⟩:=R1;simp only at p1 p2 p3 ⊢;subst p1;have hn1:((n+1:Nat):Int)-1=n:=by lia
 have hN1:((N+1:Nat):Int)-1=N:=by lia
 rw[hn1,hN1];let⟨M2,kF,r2,f0,f1,f2,f3,f4⟩:=zey hw M1 (k:=0) (by lia) (by lia) cF (97,n) sr (by decide) (by simp) (by rw[p2 122 0 (by decide)];exact hZ0) (by rw[rd,p2 97 n (by decide)];exact(da n (by lia)).1) (by rw[rd,p2 97 n (by decide)];exact(da n (by lia)).2);have f2:kF=if sr=AB then tb w (A 97 n)else 0:=by rw[f2,rd,p2 97 n (by decide)]
 rw[zU,r2];simp only at f3 f4 ⊢;let⟨w1,w2,w3⟩:=zex (W:=2^w) M2 kF (n+1) (N+1-(n+1));rw[zU];generalize yK (2^w) (yaX (n+1) (N+1-(n+1))) M2 kF=R3 at *;let⟨M3,k3⟩:=R3;simp only at w1 w2 w3 ⊢;subst w1;have c3:∀i:Nat,i<n+1->i<N+1->M3 99 i=A 97 i:=λi h1 h2=>by
  rw[w2 99 i (.inr (by lia)),f4 99 i (by decide) (.inl (by decide)),p3 i (by lia)]
 have o3:∀d j,d≠99->d≠116->(d≠102 \/ j≠0)->M3 d j=A d j:=λd j h1 h2 h3=>by
  rw[w2 d j (.inl h1),f4 d j h2 h3,p2 d j h1]
 have hF3:M3 102 0=k3*(2^w-1):=by rw[w2 102 0 (.inl (by decide))];exact f3
 have hq:k3=0 \/ k3=1:=by lia
 have hFr:0<=k3*((2:Int)^w-1)/\k3*((2:Int)^w-1)<2^w:=by
  rcases hq with rfl|rfl<;>lia
 have d3:Dg (2^w) M3 99 (N+1):=λi hi=>by
  by_cases h:i<n+1
  .rw[c3 i h hi];exact da i h
  .have:=w3 (i-(n+1)) (by lia);rw[show n+1+(i-(n+1))=i by lia]at this;rw[this,f3];exact hFr
 have hC:=zks (n:=n) (N:=N) hW x0 x1 (by
   rw[hxr,f2,hAt];unfold sgd
   cases sr
   .simp
   .simp only[if_true]
    by_cases q:(2^w:Int)^(n+1)<=2*x
    .rw[if_pos q,if_pos q,BR]
    .rw[if_neg q,if_neg q,CT,Int.sub_zero]:xr=x-k3*(2^w:Int)^(n+1)) hq hVa hAd c3 (λi hi=>by rw[w3 i hi,f3])
 let⟨t,ht,htk⟩:=hC;have hr3:=zck hW (N+1) d3;have hmod:xr%(2^w:Int)^(N+1)=yX (2^w) M3 99 (N+1):=by
  rw[ht,B1];exact BM hr3.1 hr3.2
 exact zis hw sm hW hW4 f0 f1 hq da o3 hZ0 hM0 d3 hF3 hFr ht htk hr3 hmod
def oF:Op:=cx 102 0 0 0 0
def oG:Op:=cx 103 0 0 0 0
def oH:Op:=cx 104 0 0 0 0
def ya4(to last:Op)(sg:Bool):List T1:=[.row (if sg=AB then rS "twice" [oT,last]else rS "mark" [.fig 0]),.row (rS "less" [to,oZ,oZ])]
def yck(sr sm:Bool)(e:Int):List T1:=
 [.rounds (if e<0 then e else 0) 1 0 [.row (rS "move" [cx 99 0 1 0 0,cx 97 0 1 0 0])]]++ya4 oF (cx 97 (-1) 0 0 1) sr ++
 (if 0<e then [.rounds e 0 0 [.row (rS "move" [cx 99 0 1 0 1,oF])]]else [])++ya4 oG (cx 99 (e-1) 0 0 1) sm++[.row (rS "odd" [oH,oF,oG])] ++
 (if e<0 then [.rounds (-e) 0 0 [.row (rS "odd" [oT,cx 97 e 1 0 1,oG]),.row (rS "any" [oH,oH,oT])]]else []) ++
 [.row (rS "ask" [oH]),.row (rS "sum" [oM 1,oZ,oZ])]++ycv e 1
theorem zkx(w:Int){n N:Nat}{e:Int}(h:e=N-n):cnt e 1 0 w n=N:=by simp[cnt];lia
theorem zeg(w:Int)(n:Nat)(e:Int):cnt e 0 0 w n=e.toNat:=by simp[cnt]
theorem zkY(w:Int){n N:Nat}{e:Int}(h:e=N-n):yx w n (ycv e 1)=(yI N).map yZ:=by
 have hh:=zb9 (g:=λI=>yan w n I [.row (rS "any" [oS,oS,cx 99 0 1 0 0])]) (f:=λi=>.any cS cS (99,i)) (λI=>by simp[yan,T2.rows,zm5]) N;have hl:e-1+1*(n:Int)=(N:Int)-1:=by lia
 erw[yx,ycv,B9,CG,T1.rows,zkx w h,hh,yI,De,AL,Ac,Ax];erw[Rs.pv,rS,Op.pv,oS,oT,oZ,oM,cx,Cx.at,yZ,yF,hl,AL,Ac,Ae,Aq,CT,Do]
theorem zhY(w:Int)(n:Nat)(to last:Op)(t l:Cel)(h1:Op.pv 0 0 n to=yF t)(h2:Op.pv 0 0 n last=yF l)(sg:Bool):yx w n (ya4 to last sg)=(yav t l sg).map yZ:=by
 have hT:Op.pv 0 0 n oT=yF cT:=by simp[oT,Op.pv,cx,Cx.at,yF]
 have hZ:Op.pv 0 0 n oZ=yF cZ:=by simp[oZ,Op.pv,cx,Cx.at,yF]
 cases sg<;>erw[ya4,yav,yx,B9,CG,Ax,T1.rows,Rs.pv,rS,AL,Ac,h1,h2,hT,hZ,if_true,BO,if_false,Ae,Aq,yZ]<;>rfl
theorem zfn{g:Nat->List PV}{f:Nat->List Rw}(h:∀I:Nat,g I=(f I).map yZ):∀n,upTo g n=(upTo f n).map yZ
 |0=>rfl
 |n+1=>by rw[upTo,upTo,zfn h n,h n,De]
theorem znx(w:Int)(sr sm:Bool){n N:Nat}{e:Int}(h:e=N-n):yx w n (yck sr sm e)=(ybi sr sm n N).map yZ:=by
 have p1:yx w n [.rounds (if e<0 then e else 0) 1 0 [.row (rS "move" [cx 99 0 1 0 0,cx 97 0 1 0 0])]]=(yaG (min n N)).map yZ:=by
  have hc:cnt (if e<0 then e else 0) 1 0 w n=min n N:=by
   erw[cnt];split<;>lia
  erw[yx,B9,CG,Ax,T1.rows,hc];exact zb9 (λI=>by simp[yan,T2.rows,Rs.pv,rS,Op.pv,cx,Cx.at,yZ,yF]) _
 have p2:=zhY w n oF (cx 97 (-1) 0 0 1) cF (97,(n:Int)-1) (by simp[oF,Op.pv,cx,Cx.at,yF]) (by show yJ _ (-1+0*0+0*0+1*(n:Int))=yJ _ _;congr 1;lia) sr;have p4:=zhY w n oG (cx 99 (e-1) 0 0 1) cG (99,(N:Int)-1) (by simp[oG,Op.pv,cx,Cx.at,yF]) (by show yJ _ (e-1+0*0+0*0+1*(n:Int))=yJ _ _;congr 1;lia) sm;have p3:yx w n (if 0<e then [.rounds e 0 0 [.row (rS "move" [cx 99 0 1 0 1,oF])]]else [])=(yaX n (N-n)).map yZ:=by
  by_cases q:0<e
  .rw[if_pos q];erw[yx,B9,CG,Ax,T1.rows,zeg];rw[show e.toNat=N-n by lia];exact zb9 (λI=>by
    have:(0:Int)+1*(I:Int)+1*(n:Int)=(n:Int)+I:=by lia
    erw[yan,B9,CG,Ax,T2.rows,Rs.pv,rS,oF,Op.pv,cx,Cx.at,yZ,yF,AL,Ac,this,CT,Do]) _
  .rw[if_neg q,show N-n=0 by lia];rfl
 have p5:yx w n (if e<0 then [.rounds (-e) 0 0 [.row (rS "odd" [oT,cx 97 e 1 0 1,oG]),.row (rS "any" [oH,oH,oT])]]else [])=(yaq N (n-N)).map yZ:=by
  by_cases q:e<0
  .rw[if_pos q];erw[yx,B9,CG,Ax,T1.rows,zeg];rw[show (-e).toNat=n-N by lia];exact zfn (λI=>by
    have:e+1*(I:Int)+1*(n:Int)=(N:Int)+I:=by lia
    erw[yan,B9,CG,Ax,T2.rows,Rs.pv,rS,oT,oG,oH,Op.pv,cx,Cx.at,yZ,yF,AL,Ac,this,CT,Do,Ae,Aq]) _
  .rw[if_neg q,show n-N=0 by lia];rfl
 have p6:yx w n [.row (rS "odd" [oH,oF,oG])]=[yZ (.odd cH cF cG)]:=by simp[yx,T1.rows,Rs.pv,rS,oF,oG,oH,Op.pv,cx,Cx.at,yZ,yF]
 have p7:yx w n [.row (rS "ask" [oH]),.row (rS "sum" [oM 1,oZ,oZ])]=[yZ (.ask cH),yZ (.sum (109,1) cZ cZ)]:=by simp[yx,T1.rows,Rs.pv,rS,oH,oM,oZ,Op.pv,cx,Cx.at,yZ,yF]
 rw[yck,zan,zan,zan,zan,zan,zan,zan,p1,p2,p3,p4,p5,p6,p7,zkY w h];erw[ybi,De,AL,Bp,Ae,Aq]
theorem ziF(w:Int){n N:Nat}{e:Int}(h:e=N-n):yaU w n (ycv e 1)=N:=by simp[yaU,ycv,T1.rnd,zkx w h,ybk,T2.rnd]
theorem zlR(w:Int)(sr sm:Bool){n N:Nat}{e:Int}(h:e=N-n):yaU w n (yck sr sm e)<=n+N+N+n:=by
 have hc:cnt (if e<0 then e else 0) 1 0 w n=min n N:=by
  erw[cnt];split<;>lia
 rw[yck,zaE,zaE,zaE,zaE,zaE,zaE,zaE,ziF w h]
 by_cases q:0<e
 .rw[if_pos q,if_neg (by lia:¬e<0),if_neg (by lia:¬e<0)];simp[yaU,ya4,T1.rnd,ybk,T2.rnd,zeg,zmR];lia
 .by_cases q2:e<0
  .simp only[yaU,ya4,T1.rnd,ybk,T2.rnd,zeg,hc,if_neg q,if_pos q2]at hc ⊢;simp[T1.rnd,ybk,T2.rnd,zeg,hc];lia
  .rw[if_neg q,if_neg q2,if_neg q2];simp[yaU,ya4,T1.rnd,ybk,T2.rnd,zeg,zmR];lia
theorem zeP{f:Nat->List Rw}{c:Nat}(h:∀i,(f i).length=c):∀k,(upTo f k).length=k*c
 |0=>by simp[upTo]
 |k+1=>by rw[upTo,A9,zeP h k,h,Fx]
theorem zhD(sr sm:Bool)(n N:Nat):(ybi sr sm n N).length<=3*n+3*N+20:=by
 have h1:(yaq N (n-N)).length=(n-N)*2:=zeP (f:=λi=>[.odd cT (97,(N:Int)+i) cG,.any cH cH cT]) (c:=2) (λ_=>rfl) _;simp[ybi,yaG,yav,yaX,yI,ze5,h1];lia
def yag(b:Bool):Str:=if b=AB then AG "signed" else AG "plain"
noncomputable abbrev ybY:PV:=.str "led"
def yQ(sr sm:Bool)(e:Int):PV:=.tp AC [ybY,.str (yag sr),.str (yag sm),.int e]
def yel(sr sm:Bool)(i:Nat):Bool:=match yc T 18 zbH [yQ sr sm ((i:Int)-3)] []with
 |.ok (.tp b vs) []=>decide (yaI vs=AA (yck sr sm ((i:Int)-3)))&&nLs vs&&isOk (yc T 16 zR [.tp b vs] []) (.bl AB)&&isOk (yc T 20 zeU [yQ sr sm ((i:Int)-3)] []) (.bl AB)
 |_=>AC
theorem yfI:([AC,AB].all λa=>[AC,AB].all λb=>(CU 8).all (yel a b))=true:=by decide +kernel
theorem zlH(sr sm:Bool){e:Int}(h1:-3<=e)(h2:e<=4):∃i:Nat,e=(i:Int)-3/\yel sr sm i=true:=by
 refine⟨(e+3).toNat,by lia,?_⟩;have h:=BQ.1 yfI sr (by cases sr<;>simp);have h:=BQ.1 h sm (by cases sm<;>simp);exact BQ.1 h _ (by simp;lia)
theorem za1{f:Int->Rw}{r:Rw}:∀{n:Nat},r∈yE f n->∃i:Nat,i<n/\r=f i
 |0,h=>by simp[yE]at h
 |n+1,h=>by
  rw[yE,Bd]at h;rcases h with h|h
  .let⟨i,hi,e⟩:=za1 h;exact⟨i,by lia,e⟩
  .simp at h;exact⟨n,by lia,h⟩
theorem zfH{f:Nat->List Rw}{r:Rw}:∀{n:Nat},r∈upTo f n->∃i:Nat,i<n/\r∈f i
 |0,h=>by simp[upTo]at h
 |n+1,h=>by
  rw[upTo,Bd]at h;rcases h with h|h
  .let⟨i,hi,e⟩:=zfH h;exact⟨i,by lia,e⟩
  .exact⟨n,by lia,h⟩
def rwN(r:Rw):Prop:=ybx r/\∀t x,r ≠ .half t x
theorem zl4{n:Nat}(hn:1<=n)(hn2:n<=8):∀r∈yI n,rwN r:=by
 intro r hr;erw[yI,Bd,A3,BB,or_false]at hr;rcases hr with (rfl|hr)|rfl|rfl|rfl|rfl|rfl
 case inl.inr=>let⟨i,hi,rfl⟩:=za1 hr;erw[rwN,ybx,yW];refine⟨by lia,by simp⟩
 all_goals erw[rwN,ybx,yW];refine⟨by lia,by simp⟩
theorem zjT{n N:Nat}(hn:1<=n)(hn2:n<=8)(hN:1<=N)(hN2:N<=8)(sr sm:Bool):∀r∈ybi sr sm n N,rwN r:=by
 intro r hr;erw[ybi,Bd,A3,yav,BB,or_false]at hr;rcases hr with hr|(hr|hr)|hr|(hr|hr)|hr|hr|hr|hr|hr
 .let⟨i,hi,rfl⟩:=za1 hr;erw[rwN,ybx,yW];refine⟨by lia,by simp⟩
 .subst hr;cases sr<;>erw[if_true,BO,if_false,rwN,ybx,yW]<;>refine⟨by lia,by simp⟩
 .subst hr;erw[rwN,ybx,yW];refine⟨by lia,by simp⟩
 .let⟨i,hi,rfl⟩:=za1 hr;erw[rwN,ybx,yW];refine⟨by lia,by simp⟩
 .subst hr;cases sm<;>erw[if_true,BO,if_false,rwN,ybx,yW]<;>refine⟨by lia,by simp⟩
 .subst hr;erw[rwN,ybx,yW];refine⟨by lia,by simp⟩
 .subst hr;erw[rwN,ybx,yW];refine⟨by lia,by simp⟩
 .let⟨i,hi,hr⟩:=zfH hr;erw[A3,BB,or_false]at hr;rcases hr with rfl|rfl<;>erw[rwN,ybx,yW]<;>refine⟨by lia,by simp⟩
 .subst hr;erw[rwN,ybx,yW];refine⟨by lia,by simp⟩
 .subst hr;erw[rwN,ybx,yW];refine⟨by lia,by simp⟩
 .exact zl4 hN hN2 r hr
theorem zbj(w n:Int)(a b:List T1):ak1 w n (a++b)=ak1 w n a+ak1 w n b:=by simp[ak1]
theorem zmF(w:Int)(sr sm:Bool){n N:Nat}{e:Int}(h:e=N-n):ak1 w n (yck sr sm e)<=n+N+N+n+10:=by
 have hc:cnt (if e<0 then e else 0) 1 0 w n=min n N:=by
  erw[cnt];split<;>lia
 have he:ak1 w n (ycv e 1)=N+1:=by simp[ak1,ycv,T1.ak,zkx w h,ak2,T2.ak]
 have f1:∀a b s,ak1 w n (ya4 a b s)=0:=λa b s=>by cases s<;>simp[ak1,ya4,T1.ak]
 rw[yck,zbj,zbj,zbj,zbj,zbj,zbj,zbj,he,f1,f1];have p1:ak1 w n [.rounds (if e<0 then e else 0) 1 0 [.row (rS "move" [cx 99 0 1 0 0,cx 97 0 1 0 0])]]=min n N+1:=by erw[ak1,T1.ak,hc,AL,Ac,F3,Fz,ak2,T2.ak];lia
 have p2:∀a,ak1 w n (if 0<e then [.rounds e 0 0 [.row a]]else [])<=N+1:=λa=>by
  split
  .simp only[ak1,T1.ak,zeg,AL,Ac,F3,Fz,ak2,T2.ak];lia
  .simp[ak1]
 have p3:∀a b,ak1 w n (if e<0 then [.rounds (-e) 0 0 [.row a,.row b]]else [])<=n+1:=λa b=>by
  split
  .simp only[ak1,T1.ak,zeg,AL,Ac,F3,Fz,ak2,T2.ak];lia
  .simp[ak1]
 have q2:=p2 (rS "move" [cx 99 0 1 0 1,oF]);have q3:=p3 (rS "odd" [oT,cx 97 e 1 0 1,oG]) (rS "any" [oH,oH,oT]);have p4:∀a,ak1 w n [.row a]=0:=λa=>rfl;have p5:∀a b,ak1 w n [.row a,.row b]=0:=λa b=>rfl;rw[p1,p4,p5];lia
theorem zhz{W:Int}:∀(rs:List Rw) (M:Mem) (k:Int),(∀r∈rs,∀t x,r ≠ .half t x)->ybd W rs M k
 |[],_,_,_=>trivial
 |r::rs,M,k,h=>⟨(λt x e=>absurd e (h r (by simp) t x)),zhz rs _ _ λa ha=>h a (by simp[ha])⟩
theorem ybX(sr sm:Bool){e:Int}(h1:-3<=e)(h2:e<=4){w n N:Nat}(hw:w<=16)(he:e=N-n)(hn:1<=n)(hn2:n<=4)(hN:1<=N)(hN2:N<=8):ydV False (yQ sr sm e) w n N (ybi sr sm n N):=by
 let⟨i,hi,hc⟩:=zlH sr sm h1 h2;unfold yel at hc;rw[<-hi]at hc;split at hc
 .rename_i b vs e0;erw[AK,decide_eq_true_eq]at hc;let⟨⟨⟨c1,c2⟩,c3⟩,c4⟩:=hc;have nl:nL (yQ sr sm e)=true:=by cases sr<;>cases sm<;>rfl
  have nl1:nLs [yQ sr sm e]=true:=by rw[nLs,nl];rfl
  have ok:=zjT hn (by lia:n<=8) hN (by lia:N<=8) sr sm;have pv:=znx (w:Int) sr sm he;have rw':∀x∈yx w n (yck sr sm e),ybm x:=λx hx=>by
   rw[pv,Fw]at hx;let⟨r,hr,rfl⟩:=hx;exact zfP r (ok r hr).1
  have ht:∀s,yc T (1+18) zbH [yQ sr sm e] s=.ok (.tp b vs) s:=λs=>by
   have:=zag e0 1;rw[show 18+1=18+0+1 by lia]at this;exact zbn (f:=zbH) (fn:=zcw) rfl rfl rfl nl1 this s
  have hit:∀s,yc T (1+16) zR [.tp b vs] s=.ok (.bl AB) s:=λs=>by
   have:=zag (zdT c3) 1;exact zbn (f:=zR) (fn:=zaJ) rfl rfl rfl (by simp[nLs,nL,c2]) this s
  have hlen:(ybi sr sm n N).length<=4000:=by have:=zhD sr sm n N;lia
  have rows:=zhg 1 (w:=w) (n:=n) nl ht c2 c1 (by lia) (by lia) (by lia) (by lia) (by rw[pv,BC];exact hlen) (by have:=zlR w sr sm he;lia) (by have:=zmF w sr sm he;lia) rw' hit [];rw[pv]at rows;have i0:∀st,idxV st (yQ sr sm e) (.int 0)=AA ybY:=λ_=>rfl;have i3:∀st,idxV st (yQ sr sm e) (.int 3)=AA (.int e):=λ_=>rfl;have q1:yw .eq ybY (.str "compare")=AA (.bl AC):=by ac_rfl
  have q2:yw .eq ybY ybY=AA (.bl AB):=by ac_rfl
  have q3:yw .isin ybY zat=AA (.bl AC):=by ac_rfl
  have hT1:T zt=AA zy:=rfl;have hT2:T zS=AA zT:=rfl;have nl2:nLs [yQ sr sm e,.int n]=true:=by simp[nLs,nl,nL]
  refine⟨nl,zdT c4,Be,λst=>by rw[i0,Bk,q3],rows,λr hr=>?_,?_,?_⟩
  .have hv:nL (yZ r)=true:=by cases r<;>rfl
   exact zlo hv (zfP r (ok r hr).1) 9 []
  .rw[show (20:Nat)=19+1 from rfl,zc hT1 rfl rfl nl2];generalize yQ sr sm e=d at *;simp! [zy,i0,i3,q1,q2];rw[show (n:Int)+e=N by lia];rfl
  .rw[show (20:Nat)=19+1 from rfl,zc hT2 rfl rfl nl2];generalize yQ sr sm e=d at *;simp! [zT,i0,q3,IC.ve9];rfl
 .cases hc
theorem zls{i:Int}{j:Nat}:yq .shr (.int i) (.int (j:Int))=AA (.int (i/2^j)):=by
 erw[yq,binI];rw[if_pos (by lia)];simp
theorem zoe{i:Int}{j:Nat}(h:i.natAbs<18446744073709551616)(hj:j<=1000):yq .shl (.int i) (.int (j:Int))=AA (.int (i*2^j)):=by
 have hc:(0:Int)<=j/\(j:Int)<=1000000/\i.natAbs<18446744073709551616:=⟨by lia,by lia,h⟩;show (if (0:Int)<=j/\(j:Int)<=1000000/\i.natAbs<18446744073709551616 then AA (PV.int (i*2^(j:Int).toNat))else AD)=_;rw[if_pos hc];rfl
theorem znp(k:Nat){x a b u v r:Int}(hs:a-1=b)(q1:yq .shr (.int x) (.int b)=AA (.int u))(q2:yq .shl (.int u) (.int a)=AA (.int v))(q3:x-v=r)(st:SO):yc T (k+1) zZ [.int x,.int a] st=.ok (.int r) st:=by
 have hT:T zZ=AA z5:=rfl;rw[zc hT rfl rfl rfl];simp! [z5,hs,q1,q2,q3];rfl
theorem znV(k:Nat){s a b h:Int}{f:Bool}(hs:a-1=b)(q1:yq .shl (.int 1) (.int b)=AA (.int h))(q2:(decide (-h<=s)&&decide (s<h))=f)(st:SO):yc T (k+1) zdD [.int s,.int a] st=.ok (.int (bi (!f))) st:=by
 have hT:T zdD=AA zcp:=rfl;rw[zc hT rfl rfl rfl]
 cases e1:decide (-h<=s)with
 |false=>
  rw[e1,Dt]at q2;subst q2;simp! [zcp,hs,q1,e1,blO];rfl
 |true=>
  rw[e1,CY]at q2;subst q2
  cases e2:decide (s<h)<;>simp! [zcp,hs,q1,e1,e2,blO]<;>rfl
theorem zeb(k:Nat){K:Nat}(hK:1<=K)(hK2:K<=64){x:Int}(x0:0<=x)(x1:x<2^K)(st:SO):yc T (k+1) zZ [.int x,.int K] st=.ok (.int (sgd (2^K) x)) st:=by
 obtain⟨j,rfl⟩:∃j,K=j+1:=⟨K-1,by lia⟩;have p:(0:Int)<2^j:=Ad (by lia);have e:(2:Int)^(j+1)=2*2^j:=by rw[Ab,Aa]
 have hd:x/2^j=if 2*2^j<=2*x then 1 else 0:=by
  rw[e]at x1;split
  .have h1:1<=x/2^j:=DR p (by lia);have h2:x/2^j<2:=BP p (by lia);lia
  .exact BT x0 (by lia)
 refine znp k (b:=(j:Int)) (by lia) zls (zoe (by rw[hd];split<;>lia) (by lia)) ?_ st;rw[hd,e];unfold sgd;split
 .rw[BR]
 .lia
theorem yd1(k:Nat){K:Nat}(hK:1<=K)(hK2:K<=200)(s:Int)(st:SO):yc T (k+1) zdD [.int s,.int K] st=.ok (.int (bi (!ybg (2^K) s))) st:=by
 obtain⟨j,rfl⟩:∃j,K=j+1:=⟨K-1,by lia⟩;have e:(2:Int)^(j+1)=2*2^j:=by rw[Ab,Aa]
 refine znV k (b:=(j:Int)) (by lia) (zkw j (by lia)) ?_ st;unfold ybg;rw[e]
 congr 1
 .exact decide_eq_decide.2 (by lia)
 .exact decide_eq_decide.2 (by lia)
theorem zee{W:Int}(hW:0<W):∀(n:Nat) (v:Int),yh W n (v%W^n)=yh W n v
 |0,v=>rfl
 |n+1,v=>by
  have hp:0<W^n:=Ad hW;have e1:v%W^(n+1)%W=v%W:=Int.emod_emod_of_dvd v ⟨W^n,by rw[Ab,Aa]⟩;have e2:v%W^(n+1)/W=v/W%W^n:=by
   have h1:=BH v W;have h2:=BH (v/W) (W^n);have r0:=BD v (show W≠0 by lia);have r1:=Al v hW;have s0:=BD (v/W) (show W^n≠0 by lia);have s1:=Al (v/W) hp;have e:v=v%W+W*(v/W%W^n)+W^(n+1)*(v/W/W^n):=by
    have:W^(n+1)*(v/W/W^n)=W*(W^n*(v/W/W^n)):=by rw[Ab,Aa (W^n) W,CD]
    rw[this];have h3:W*(v/W)=W*(v/W%W^n)+W*(W^n*(v/W/W^n)):=by rw[<-HK,h2]
    lia
   have hb:v%W+W*(v/W%W^n)<W^(n+1):=by
    have:=C8 (show v/W%W^n<=W^n-1 by lia) (show 0<=W by lia);rw[D4,Cj]at this;rw[Ab,Aa (W^n) W];lia
   have hb0:0<=W*(v/W%W^n):=CM (by lia) s0;have q:v%W^(n+1)=v%W+W*(v/W%W^n):=by
    rw[e,B1];rw[<-e];exact BM (by lia) hb
   rw[q,FB _ _ (by lia),BT r0 r1,Fy]
  rw[yh,yh,e1,e2,zee hW n]
theorem zec{W:Int}(hW:0<W):∀(n:Nat) (v:Int),0<=v->v<W^n->(yh W n v).any (· != 0)=!(v==0)
 |0,v,h0,h1=>by
  have:v=0:=by rw[Cc]at h1;lia
  subst this;rfl
 |n+1,v,h0,h1=>by
  have h2:=Bq h0 (show 0<=W by lia);have h3:v/W<W^n:=BP hW (by rw[Ab]at h1;exact h1);have h4:=BH v W;rw[yh,BN,zec hW n _ h2 h3]
  by_cases q:v=0
  .subst q;simp
  .rw[beq_eq_false_iff_ne.2 q]
   by_cases a:v%W=0
   .have b:v/W≠0:=λz=>q (by rw[a,z]at h4;lia);rw[beq_eq_false_iff_ne.2 b,Bool.not_false,HA]
   .rw[bne_iff_ne.2 a,El];rfl
theorem zdl{W:Int}(hW:0<W):∀(n:Nat) (v:Int),(yh W (n+1) v)[n]?=AA (v/W^n%W)
 |0,v=>by simp[yh]
 |n+1,v=>by
  rw[yh,AM,zdl hW n,BI (by lia),Ab,Aa W]
theorem zg6(ws:List Int):anyI (ws.map .int)=AA (ws.any (· != 0)):=by
 induction ws with
 |nil=>rfl
 |cons a ws ih=>rw[AL,anyI,ih];rfl
theorem zje(k:Nat){ws:List Int}{w b l r:Int}(hs:w-1=b)(hi:∀st,idxV st (.tp AC (ws.map .int)) (.int (-1))=AA (.int l))(q:yq .shr (.int l) (.int b)=AA (.int r))(st:SO):yc T (k+1) zaN [.tp AC (ws.map .int),.int w] st=.ok (.int r) st:=by
 have hT:T zaN=AA zbK:=rfl;rw[zc hT rfl rfl (by simp[nLs,nL,noLocs_ints])];generalize PV.tp AC (ws.map .int)=v at *;simp! [zbK,hi,hs,q];rfl
theorem zf6(k:Nat){w n:Nat}(hw:1<=w){v:Int}(v0:0<=v)(v1:v<(2^w:Int)^(n+1))(st:SO):yc T (k+1) zaN [.tp AC ((yh (2^w) (n+1) v).map .int),.int w] st=.ok (.int (bi (decide ((2^w:Int)^(n+1)<=2*v)))) st:=by
 obtain⟨j,rfl⟩:∃j,w=j+1:=⟨w-1,by lia⟩;have hW:(0:Int)<2^(j+1):=Ad (by lia);have hp:(0:Int)<(2^(j+1):Int)^n:=Ad hW;have hj:(0:Int)<2^j:=Ad (by lia);have e:(2:Int)^(j+1)=2^j*2:=Ab 2 j;have hl:=zdl hW n v;have hd1:v/(2^(j+1):Int)^n<2^(j+1):=BP hp (by rw[Ab,Aa]at v1;exact v1);have hdA:=Bq v0 (DN hp);rw[BM hdA hd1]at hl;have hi:∀st,idxV st (.tp AC ((yh (2^(j+1)) (n+1) v).map .int)) (.int (-1))=AA (.int (v/(2^(j+1):Int)^n)):=λst=>by
  have hlen:=zX (2^(j+1)) (n+1) v;erw[idxV,yaZ,at?,ixI,BC,hlen];rw[if_neg (by lia),if_pos (by lia)];rw[show ((-1:Int)+((n+1:Nat):Int)).toNat=n by lia];simp[hl]
 refine zje k (b:=(j:Int)) (by lia) hi ?_ st;rw[zls]
 congr 2
 have P:(2^(j+1):Int)^(n+1)=(2^(j+1):Int)^n*2^j*2:=by rw[Ab,CD,<-e]
 rw[BI (DN hp)];have hq:0<(2^(j+1):Int)^n*2^j:=Int.mul_pos hp hj;rw[P]at v1 ⊢;generalize (2^(j+1):Int)^n*2^j=H at *
 by_cases h:H*2<=2*v
 .have h1:1<=v/H:=DR hq (by lia);have h2:v/H<2:=BP hq (by lia);rw[decide_eq_true h];show _=(1:Int);lia
 .rw[decide_eq_false h];exact BT v0 (by lia)
theorem zdH{W:Int}(c:Nat):∀(ws:List Int) (i:Nat) (M:Mem),(∀v∈ws,0<=v/\v<W)->ybT W M->ybT W (yax c i ws M)
 |[],i,M,_,h=>h
 |v::ws,i,M,hv,h=>zdH c ws (i+1) _ (λu hu=>hv u (by simp[hu])) (zaM (t:=(c,(i:Int))) h (hv v (by simp)).1 (hv v (by simp)).2)
theorem zkC{W:Int}(hW:0<W)(n:Nat)(x y:Int):ybT W (yaA W n x y):=
 zdH 98 _ _ _ (zam hW n y) (zdH 97 _ _ _ (zam hW n x) λ_ _=>⟨by simp[M0],by simpa [M0] using hW⟩)
noncomputable abbrev dv(ws:List Int)(a b c d:Int):PV:=.tp AC [.tp AC (ws.map .int),.tp AC [],.tp AC [.int a,.int b,.int c,.int d]]
theorem zky(k:Nat){d:PV}(hd:nL d=AB){s:AR}{w n N x y a b c t r z:Int}{ws:List Int}{g:Bool}(i0:∀st,idxV st d (.int 0)=AA (.str s))(c0:yw .eq (.str s) (.str "compare")=AA (.bl AC))(E0:∀st,yc T k zaB [d,.int w,.int n,.int x,.int y] st=.ok .non st)(E1:∀st,yc T k zb2 [d,.int w,.int n,.int x,.int y] st=.ok (.tp AC [.int a,.int b,.int c]) st)
  (E2:∀st,yc T k zt [d,.int n] st=.ok (.int N) st) (E3:∀st,yc T k zo [.int a,.int w,.int N] st=.ok (.tp AC (ws.map .int)) st) (m1:yq .mul (.int y) (.int a)=AA (.int t)) (E4:∀st,yc T k zS [d,.int n] st=.ok (.int 0) st) (E5:∀st,yc T k zo [.int (x-t),.int w,.int 0] st=.ok (.tp AC []) st)
  (E6:∀st,yah .any st [.tp AC (ws.map .int)]=AA (.bl g)) (hz:(bif g then(0:Int)else 1)=z) (E7:∀st,yc T k zaN [.tp AC (ws.map .int),.int w] st=.ok (.int r) st) (st:SO):
  yc T (k+1) zdv [d,.int w,.int n,.int x,.int y] st=.ok (dv ws b c z r) st:=by
 have hT:T zdv=AA ⟨5,10,AB,ya6.body⟩:=rfl;have bt:∀(a b c:PV) (ρ:IC.Env),yC (.t [5,6,7]) (.tp AC [a,b,c]) ρ=AA (((ρ.set 5 (AA a)).set 6 (AA b)).set 7 (AA c)):=λ_ _ _ _=>rfl;rw[zc hT rfl rfl (by simp[nLs,nL,hd])];dsimp only;have nl:nL (.tp AC (ws.map .int))=true:=by simp[nL,noLocs_ints]
 unfold dv;generalize PV.tp AC (ws.map .int)=A at *
 cases g<;>subst hz<;>simp! [ya6,E0,i0,c0,E1,bt,E2,E3,m1,E4,E5,E6,E7]<;>simp[ybr,nL,nLs,nl]
def xrd(sr:Bool)(T x:Int):Int:=if sr=AB then sgd T x else x
def ovr(sm:Bool)(T x:Int):Int:=bi (!(if sm=AB then ybg T x else decide (0<=x)&&decide (x<T)))
def ycs(sr sm:Bool)(w n N:Nat)(x:Int):PV:=dv (yh (2^w) N (xrd sr (2^(w*n)) x%2^(w*N))) 0 (ovr sm (2^(w*N)) (xrd sr (2^(w*n)) x)) (bi (xrd sr (2^(w*n)) x%2^(w*N)==0)) (bi (decide ((2:Int)^(w*N)<=2*(xrd sr (2^(w*n)) x%2^(w*N)))))
section
variable (k:Nat)(sr sm:Bool){e:Int}(h1:-3<=e)(h2:e<=4){w n N:Nat}(hw:4<=w)(hw2:w<=16)(he:e=N-n)(hn:1<=n)(hn2:n<=4)(hN:1<=N)(hN2:N<=8){x:Int}(x0:0<=x)(x1:x<2^(w*n))(st:SO)
include h1 h2 hw hw2 he hn hn2 hN hN2 x0 x1
theorem ygt:yc T (22+k) zjp [yQ sr sm e,.int w,.int n,.int x,.int 0] st=.ok (ycs sr sm w n N x) st:=by
 have D:=ybX sr sm h1 h2 hw2 he hn hn2 hN hN2;obtain⟨n,rfl⟩:∃m,n=m+1:=⟨n-1,by lia⟩;obtain⟨N,rfl⟩:∃m,N=m+1:=⟨N-1,by lia⟩;have hp:(2:Int)^(w*(n+1))=(2^w:Int)^(n+1):=ER;have hpN:(2:Int)^(w*(N+1))=(2^w:Int)^(N+1):=ER;have hW:(0:Int)<2^w:=Ad (by lia);have ok:=zjT hn (by lia:n+1<=8) hN hN2 sr sm;have rd:∀r∈ybi sr sm (n+1) (N+1),rwD r:=λr hr=>by
  have:=(ok r hr).1
  cases r<;>first|trivial|exact this|exact this.2
 have bg:=zkC hW (n+1) x 0;have q:=ran k D hw2 (by lia) hn2 hN2 (by have:=zhD sr sm (n+1) (N+1);lia) x0 x1 (HL 0) (Ad (by decide)) (λh=>absurd rfl h) (zhz _ _ _ λr hr=>(ok r hr).2) st;have R:=zgW (w:=w) (by lia) (ybi sr sm (n+1) (N+1)) (yaA (2^w) (n+1) x 0) 0 rd bg (by lia) (by lia);have mm:=ziX (w:=w) (by lia) sr sm (n:=n) (N:=N) (x:=x) x0 (by rw[<-hp];exact x1) rfl;rw[<-hp,<-hpN]at mm;let⟨m1,m2,m3,m4,m5⟩:=mm;have hm:∀M:Mem,(getM M 109 0 4).map PV.int=[.int (M 109 0),.int (M 109 1),.int (M 109 2),.int (M 109 3)]:=λ_=>rfl;rw[q,hm,zlM hW R 99 (N+1) m1,m2,m3,m4,m5];rfl
omit h1 h2 x0 x1 in
theorem zkG{d:PV}(hd:nL d=AB){K P X:Int}{sr sm g:Bool}(i1:∀st,idxV st d (.int 1)=AA (.str (yag sr)))(i2:∀st,idxV st d (.int 2)=AA (.str (yag sm)))(m1:yq .mul (.int w) (.int n)=AA (.int K))(hX:sr=AC->X=x)(E1:sr=AB->∀st,yc T k zZ [.int x,.int K] st=.ok (.int X) st)(E2:∀st,yc T k zt [d,.int n] st=.ok (.int N) st)(m2:yq .mul (.int w) (.int N)=AA (.int P))(E3:sm=AB->∀st,yc T k zdD [.int X,.int P] st=.ok (.int (bi (!g))) st)(m3:sm=AC->∃v,yq .shr (.int X) (.int P)=AA (.int v)/\(v==0)=g):
  yc T (k+1) zk4 [d,.int w,.int n,.int x] st=.ok (.tp AC [.int X,.int 0,.int (bi (!g))]) st:=by
 have hT:T zk4=AA zfi:=rfl;have w1:∀b,yw .eq (.str (yag b)) (.str "signed")=AA (.bl b):=λb=>by cases b<;>ac_rfl
 rw[zc hT rfl rfl (by simp[nLs,nL,hd])]
 cases sr<;>cases sm
 .have hX:=hX rfl;let⟨v,a,b⟩:=m3 rfl;subst hX
  cases g<;>simp! [zfi,i1,i2,w1,m1,E2,m2,a,b]<;>rfl
 .have hX:=hX rfl;have E3:=E3 rfl;subst hX;simp! [zfi,i1,i2,w1,m1,E2,m2,E3];rfl
 .have E1:=E1 rfl;let⟨v,a,b⟩:=m3 rfl
  cases g<;>simp! [zfi,i1,i2,w1,m1,E1,E2,m2,a,b]<;>rfl
 .have E1:=E1 rfl;have E3:=E3 rfl;simp! [zfi,i1,i2,w1,m1,E1,E2,m2,E3];rfl
theorem ydm:yc T (23+k) zdv [yQ sr sm e,.int w,.int n,.int x,.int 0] st=.ok (ycs sr sm w n N x) st:=by
 have D:=ybX sr sm h1 h2 hw2 he hn hn2 hN hN2;have hW:(0:Int)<2^w:=Ad (by lia);have hP0:(0:Int)<2^(w*N):=Ad (by decide);have hp:(2:Int)^(w*N)=(2^w:Int)^N:=ER;have hK:1<=w*n:=by have:=Av hw hn;lia
 have hK2:w*n<=64:=Av hw2 hn2;have hQ:1<=w*N:=by have:=Av hw hN;lia
 have hQ2:w*N<=128:=Av hw2 hN2;have nd:nL (yQ sr sm e)=true:=by cases sr<;>cases sm<;>rfl
 have E0:=λs=>zcB (k+1) D hw2 (by lia) x0 x1 (HL 0) (Ad (by decide)) (λh=>absurd rfl h) s;rw[show 21+(k+1)=22+k by lia]at E0;have up':∀{f:Nat} {fn:IC.Fn} {args:List PV} {v:PV} (j:Nat),T f=AA fn->fn.pure=AB->args.length=fn.np->nLs args=AB->yc T 20 f args []=.ok v []->∀s,yc T (20+j) f args s=.ok v s:=λ{f fn args v} j a b c d e s=>by
  have:=zag e j;rw[show 20+j=19+j+1 by lia]at this ⊢;exact zbn a b c d this s
 have nl2:nLs [yQ sr sm e,.int (n:Int)]=true:=by simp[nLs,nd,nL]
 have i1:∀st,idxV st (yQ sr sm e) (.int 1)=AA (.str (yag sr)):=λ_=>rfl;have i2:∀st,idxV st (yQ sr sm e) (.int 2)=AA (.str (yag sm)):=λ_=>rfl;have i0:∀st,idxV st (yQ sr sm e) (.int 0)=AA ybY:=λ_=>rfl;obtain⟨X,hX⟩:∃X,X=xrd sr (2^(w*n)) x:=⟨_,rfl⟩;have eL:∀s,yc T (21+k) zk4 [yQ sr sm e,.int w,.int n,.int x] s=.ok (.tp AC [.int X,.int 0,.int (ovr sm (2^(w*N)) X)]) s:=λs=>by
  have h:=zkG (20+k) hw hw2 he hn hn2 hN hN2 (x:=x) s nd (X:=X) (g:=if sm=AB then ybg (2^(w*N)) X else decide (0<=X)&&decide (X<2^(w*N))) i1 i2 (zbp w n (by lia)) (λhs=>by rw[hX,hs];rfl) (λhs s=>by rw[hX,hs,show 20+k=19+k+1 by lia];exact zeb (19+k) hK hK2 x0 x1 s)
   (λs=>up' (f:=zt) (fn:=zy) k rfl rfl rfl nl2 D.ans s)
   (zbp w N (by lia)) (λhs s=>by rw[hs,show 20+k=19+k+1 by lia];exact yd1 (19+k) hQ (by lia) X s) (λhs=>⟨_,zls,by
    rw[hs];show (X/2^(w*N)==0)=(decide (0<=X)&&decide (X<2^(w*N)))
    by_cases g:0<=X/\X<2^(w*N)
    .rw[decide_eq_true g.1,decide_eq_true g.2,BT g.1 g.2];rfl
    .have:X/2^(w*N)≠0:=λz=>g (by
      have e1:=BH X (2^(w*N));have e2:=BD X (show (2:Int)^(w*N)≠0 by lia);have e3:=Al X hP0;rw[z,HC]at e1;lia)
     rw[beq_eq_false_iff_ne.2 this]
     by_cases g1:0<=X
     .rw[decide_eq_true g1,decide_eq_false (λh=>g ⟨g1,h⟩)];rfl
     .rw[decide_eq_false g1];rfl⟩)
  rw[show 20+k+1=21+k by lia]at h;exact h
 have hTr:T zb2=AA zbb:=rfl;have E1:∀s,yc T (22+k) zb2 [yQ sr sm e,.int w,.int n,.int x,.int 0] s=.ok (.tp AC [.int X,.int 0,.int (ovr sm (2^(w*N)) X)]) s:=λs=>by
  have q2:yw .eq ybY ybY=AA (.bl AB):=by ac_rfl
  rw[show 22+k=21+k+1 by lia,zc hTr rfl rfl (by simp[nLs,nL,nd])];generalize yQ sr sm e=d at *;generalize ovr sm (2^(w*N)) X=o at *;simp! [zbb,i0,q2,eL];rfl
 have E2:∀s,yc T (22+k) zt [yQ sr sm e,.int (n:Int)] s=.ok (.int N) s:=λs=>by
  rw[show 22+k=20+(2+k)by lia];exact up' (f:=zt) (fn:=zy) (2+k) rfl rfl rfl nl2 D.ans s
 have E4:∀s,yc T (22+k) zS [yQ sr sm e,.int (n:Int)] s=.ok (.int 0) s:=λs=>by
  rw[show 22+k=20+(2+k)by lia];exact up' (f:=zS) (fn:=zT) (2+k) rfl rfl rfl nl2 D.rest s
 have E3:∀t,yc T (22+k) zo [.int X,.int w,.int (N:Int)] t=.ok (.tp AC ((yh (2^w) N (X%2^(w*N))).map .int)) t:=λt=>by
  rw[hp,zee hW,show 22+k=21+k+1 by lia];exact lowest (21+k) _ w N hw2 (by lia) t
 have r2:=BD X (show (2:Int)^(w*N)≠0 by lia);have r3:=Al X hP0;have E5:∀t,yc T (22+k) zo [.int (x-0),.int w,.int 0] t=.ok (.tp AC []) t:=λt=>by
  rw[show 22+k=21+k+1 by lia];exact lowest (21+k) _ w 0 hw2 (by lia) t
 have m1:yq .mul (.int 0) (.int X)=AA (.int 0):=by rw[zaI (by decide),CT]
 have E6:∀t,yah .any t [.tp AC ((yh (2^w) N (X%2^(w*N))).map .int)]=AA (.bl (!(X%2^(w*N)==0))):=λt=>by
  show (anyI _).map PV.bl=_;rw[zg6,zec hW _ _ r2 (by rw[<-hp];exact r3)];rfl
 have E7:∀t,yc T (22+k) zaN [.tp AC ((yh (2^w) N (X%2^(w*N))).map .int),.int w] t=.ok (.int (bi (decide ((2:Int)^(w*N)<=2*(X%2^(w*N)))))) t:=λt=>by
  obtain⟨m,rfl⟩:∃m,N=m+1:=⟨N-1,by lia⟩;rw[hp]at r3 ⊢;rw[hp]at r2;rw[show 22+k=21+k+1 by lia];exact zf6 (21+k) (w:=w) (n:=m) (by lia) r2 r3 t
 have c0:yw .eq ybY (.str "compare")=AA (.bl AC):=by ac_rfl
 rw[show 23+k=22+k+1 by lia];have h:=zky (22+k) (d:=yQ sr sm e) nd (s:=AG "led") i0 c0 E0 E1 E2 E3 m1 E4 E5 E6 (by cases (X%2^(w*N)==0)<;>rfl) E7 st (z:=bi (X%2^(w*N)==0));rw[hX]at h;exact h
end
noncomputable def ybs:Ce:=match yR.body with
 |.cons _ (.cons (.while c _) _)=>c
 |_=>.nope
noncomputable def ybG:Css:=match yR.body with
 |.cons _ (.cons (.while _ b) _)=>b
 |_=>.nil
theorem zgS{c:Cl}{n:Nat}{ns:List Int}{a p m t:Int}{f:Bool}{u:Option PV}{st:SO}(h:st[n]?=AA (.lst [.lst (ns.map .int),.int a,.int p,.bl f])):
  ∃B,ev c [AA (.loc n),AA (.int m),AA (.int t),u] st ybs=.ok (.bl B) st/\(B=AB->t<64):=by
 by_cases h1:t<64
 .by_cases h2:p=0
  .refine⟨AB,?_,λ_=>h1⟩;erw[ybs,yR,IC.ve1,IC.ve2,IC.ve3,IC.ve6,IC.ve7,IC.ve8,IC.ve16,R.bind,AN,AM,h,idxV,yaZ,at?,ixI,yq,binI,yat,toR,yw,ybB,onBl];simp[h1,h2,zcq,peq]
  .have h2:(p==0)=false:=by simp[h2]
   cases f
   .refine⟨AC,?_,λ_=>h1⟩;erw[ybs,yR,IC.ve1,IC.ve2,IC.ve3,IC.ve6,IC.ve7,IC.ve8,IC.ve16,R.bind,AN,AM,h,idxV,yaZ,at?,ixI,yq,binI,yat,toR,yw,ybB,onBl];simp[h,h1,h2,zcq,peq]
   .refine⟨decide (p<m*4096),?_,λ_=>h1⟩;erw[ybs,yR,IC.ve1,IC.ve2,IC.ve3,IC.ve6,IC.ve7,IC.ve8,IC.ve16,R.bind,AN,AM,h,idxV,yaZ,at?,ixI,yq,binI,yat,toR,yw,ybB,onBl];simp[h,h1,h2,zcq,peq]
 .refine⟨AC,?_,λz=>by cases z⟩;erw[ybs,yR,IC.ve1,IC.ve2,IC.ve3,IC.ve6,IC.ve7,IC.ve8,IC.ve16,R.bind,AN,AM,h,idxV,yaZ,at?,ixI,yq,binI,yat,toR,yw,ybB,onBl];simp[h1]
theorem zgZ(k:Nat){n:Nat}{ns:List Int}(hns:ns.length<=1000){a p m t:Int}(ha:0<=a){f:Bool}{u:Option PV}{st:SO}(h:st[n]?=AA (.lst [.lst (ns.map .int),.int a,.int p,.bl f])):
  ∃p' f',exs (yc T (k+2)) [AA (.loc n),AA (.int m),AA (.int t),u] st ybG=.nx [AA (.loc n),AA (.int m),AA (.int (t+1)),u] (st.set n (.lst [.lst (ns.map .int),.int (a+1),.int p',.bl f'])):=by
 let⟨q,g,hq⟩:=fill k n ns hns a p ha f st h;have hm:(1+q%4093).natAbs<18446744073709551616:=by lia
 have hau:∀st,ex (yc T (k+2)) [AA (.loc n),AA (.int m),AA (.int t),u] st (.aug 2 .add (.cst (.int 1)))=.nx [AA (.loc n),AA (.int m),AA (.int (t+1)),u] st:=λst=>by
  rw[zoP (x:=.int t) rfl];simp[IC.ve1,R.fl,ybJ,yq,binI,nxO]
 cases g
 .refine⟨q,AC,?_⟩;erw[ybG,yR,xs_cons,xs_nil,x_expr,x_ite,x_six,hau,yap,nxO,IC.ve1,IC.ve2,IC.ve3,IC.ve6,IC.ve8,IC.ve16,IC.ve18,evs,R.fl,R.bind,hq,ybJ,yq,binI,Db,A7,A8,AN,AM,rdS h,idxV,yaZ,at?,ixI,yat,toR,yw,ybB,onBl,onF,yaF];simp[rdS h]
 .by_cases hl:q<m*4096
  .refine⟨q+m*4096*(1+q%4093),AB,?_⟩;erw[ybG,yR,xs_cons,xs_nil,x_expr,x_ite,x_six,hau,yap,nxO,IC.ve1,IC.ve2,IC.ve3,IC.ve6,IC.ve8,IC.ve16,IC.ve18,evs,R.fl,R.bind,hq,ybJ,yq,binI,Db,A7,A8,AN,AM,rdS h,idxV,yaZ,at?,ixI,yat,toR,yw,ybB,onBl,onF,yaF,stO,ybp];simp[rdS h,hl,hm]
  .refine⟨q,AB,?_⟩;erw[ybG,yR,xs_cons,xs_nil,x_expr,x_ite,x_six,hau,yap,nxO,IC.ve1,IC.ve2,IC.ve3,IC.ve6,IC.ve8,IC.ve16,IC.ve18,evs,R.fl,R.bind,hq,ybJ,yq,binI,Db,A7,A8,AN,AM,rdS h,idxV,yaZ,at?,ixI,yat,toR,yw,ybB,onBl,onF,yaF];simp[rdS h,hl]
theorem zdY(k:Nat){n:Nat}{ns:List Int}(hns:ns.length<=1000){m:Int}{u:Option PV}:∀(r N:Nat) (t a p:Int) (f:Bool) (st:SO),r<=N->64-t<=r->0<=a->st[n]?=AA (.lst [.lst (ns.map .int),.int a,.int p,.bl f]) ->
  ∃t' a' p' f',0<=a'/\yaO (yc T (k+2)) ybs ybG (N+1) [AA (.loc n),AA (.int m),AA (.int t),u] st=.nx [AA (.loc n),AA (.int m),AA (.int t'),u] (st.set n (.lst [.lst (ns.map .int),.int a',.int p',.bl f']))
 |r,N,t,a,p,f,st,hN,ht,ha,h=>by
  let⟨B,hB,hb⟩:=zgS (c:=yc T (k+2)) (m:=m) (t:=t) (u:=u) h;have hs:st.set n (.lst [.lst (ns.map .int),.int a,.int p,.bl f])=st:=by
   refine EO λi=>?_;rw[Ch];split
   .rename_i e;subst e;split
    .exact h.symm
    .rename_i z;rw[BV (by lia)]at h
     cases h
   .rfl
  cases B with
  |false=>exact⟨t,a,p,f,ha,by rw[ze1 hB rfl,hs]⟩
  |true=>
   have h64:=hb rfl
   match r,N with
   |0,_=>exact absurd ht (by lia)
   |r+1,N+1=>
    let⟨p1,f1,hx⟩:=zgZ k hns (m:=m) (t:=t) ha (u:=u) h;let⟨t',a',p',f',h0,h2⟩:=zdY k hns (m:=m) (u:=u) r N (t+1) (a+1) p1 f1 _ (by lia) (by lia) (by lia) (rdS h);refine⟨t',a',p',f',h0,?_⟩;rw[zgA hB rfl hx,h2,DM]
theorem take(k n:Nat)(ns:List Int)(hns:ns.length<=1000)(a p m:Int)(ha:0<=a)(hm:0<m)(hm2:m<10000000000000000000000000000000000000000000000000000000000000000000000)(f:Bool)(st:SO)(h:st[n]?=AA (.lst [.lst (ns.map .int),.int a,.int p,.bl f])):
  ∃d a' p' f',0<=d/\d<m/\0<=a'/\yc T (k+3) zcz [.loc n,.int m] st=.ok (.int d) (st.set n (.lst [.lst (ns.map .int),.int a',.int p',.bl f'])):=by
 let⟨t',a',p',f',h0,h2⟩:=zdY k hns (m:=m) (u:=AD) 64 99999 0 a p f st (by lia) (by lia) ha h;refine⟨p'%m,a',p'/m,f',BD _ (by lia),Al _ hm,h0,?_⟩;have hb:yR.body=.cons (.asg (.n 2) (.cst (.int 0))) (.cons (.while ybs ybG) (.cons (.asg (.n 3) (.bin .mod (.idx (.var 0) (.cst (.int 2))) (.var 1))) (.cons (.six (.var 0) (.cst (.int 2)) (.bin .fdiv (.idx (.var 0) (.cst (.int 2))) (.var 1))) (.cons (.ret (.var 3)) .nil)))):=rfl;have hT:T zcz=AA ⟨2,4,AC,yR.body⟩:=rfl;rw[yc,hT,hb];erw[AS,Am,if_true,AL,Ac,Bm,Af,Ae,Aq,xs_cons,xs_nil,x_asg,zlF,x_six,x_ret,yap,nxO,stO,IC.ve1,IC.ve2,IC.ve3,IC.ve16,R.fl,R.bind,yC,A7,A8,AN,AM,h2,rdS h,idxV,yaZ,at?,ixI,yq,binI,hm,hm2,and_self,toR,ybp];simp[rdS h,hm,hm2]
def Drw(ns:List Int)(n:Nat)(st:SO):Prop:=∃a p f,0<=a/\st[n]?=AA (.lst [.lst (ns.map .int),.int a,.int p,.bl f])
def Onl(ns:List Int)(n:Nat)(st st':SO):Prop:=∃a p f,0<=a/\st'=st.set n (.lst [.lst (ns.map .int),.int a,.int p,.bl f])
theorem Onl.drw{ns:List Int}{n:Nat}{st st':SO}(h:Drw ns n st)(o:Onl ns n st st'):Drw ns n st':=by
 let⟨a,p,f,ha,h⟩:=h;let⟨b,q,g,hb,rfl⟩:=o;exact⟨b,q,g,hb,rdS h⟩
theorem Onl.trans{ns:List Int}{n:Nat}{st st1 st2:SO}(o:Onl ns n st st1)(o2:Onl ns n st1 st2):Onl ns n st st2:=by
 let⟨b,q,g,hb,rfl⟩:=o;let⟨c,r,j,hc,rfl⟩:=o2;exact⟨c,r,j,hc,by rw[DM]⟩
theorem yaW(k:Nat){n:Nat}{ns:List Int}(hns:ns.length<=1000){m:Int}(hm:0<m)(hm2:m<10000000000000000000000000000000000000000000000000000000000000000000000){st:SO}(h:Drw ns n st):
  ∃d st',0<=d/\d<m/\Onl ns n st st'/\yc T (k+3) zcz [.loc n,.int m] st=.ok (.int d) st':=by
 let⟨a,p,f,ha,h⟩:=h;let⟨d,a',p',f',h1,h2,h3,h4⟩:=take k n ns hns a p m ha hm hm2 f st h;exact⟨d,_,h1,h2,⟨_,_,_,h3,rfl⟩,h4⟩
theorem sizes(k:Nat){n:Nat}{ns:List Int}(hns:ns.length<=1000){m:Int}(hm:0<m)(hm2:m<=100){st:SO}(h:Drw ns n st):
  ∃w z st',4<=w/\w<=16/\1<=z/\z<=m/\Onl ns n st st'/\yc T (k+4) zdz [.loc n,.int m] st=.ok (.tup [.int w,.int z]) st':=by
 let⟨d,s1,d1,d2,o1,e1⟩:=yaW k hns (m:=13) (by lia) (by lia) h;let⟨e,s2,d3,d4,o2,e2⟩:=yaW k hns (m:=m) hm (by lia) (o1.drw h);refine⟨4+d,1+e,s2,by lia,by lia,by lia,by lia,o1.trans o2,?_⟩;have hT:T zdz=AA zcb:=rfl;rw[yc,hT];erw[zcb,AS,Am,if_true,AL,Ac,Bm,Af,Ae,Aq,xs_cons,xs_nil,x_ret,yap,IC.ve1,IC.ve2,IC.ve3,IC.ve11,IC.ve18,evs,R.fl,R.bind,AN,AM,e1,e2,yq,binI,toR];simp[sizeMax]
theorem fresh(k:Nat)(ns:List Int)(h:ns.length<=63)(st:SO):∃v,yc T (k+1) zdU [.scr (ns.map .int)] st=.ok (.loc st.length) (st++[v])/\v=.lst [.lst (ns.map .int),.int 0,.int 0,.bl AC]:=by
 have hT:T zdU=AA zce:=rfl;refine⟨_,?_,rfl⟩;rw[yc,hT];erw[zce,AS,Am,if_true,AL,Ac,Bm,Af,Ae,Aq,xs_cons,xs_nil,x_ret,yap,ev,evs,R.fl,R.bind,AN,toR];have hc:ycf (.scr (ns.map PV.int)) AD (.int 63)=AA (.lst (ns.map .int)):=by
  have hk:ybb ns.length 63=ns.length:=by
   show min 63 ns.length=ns.length;lia
  simp[ycf,ybQ,ycm,cut,ycp,ycN,hk]
  try rw[<-BC (f:=PV.int),GL]
 simp[ybQ,onP,hc,sizeMax]
theorem dbl{call:Cl}{i j:Nat}(hij:i≠j):∀(N:Nat) (a:Int) (ρ:IC.Env) (v:Int) (st:SO),ρ[i]?=AA (AA (.int v)) ->
  ∃u,yay call (.n j) (.cons (.asg (.n i) (.bin .mul (.cst (.int 2)) (.var i))) .nil) (yo N a 1) ρ st=.nx ((ρ.set i (AA (.int (2^N*v)))).set j u) st/\(N=0->ρ[j]?=AA u \/ ρ.length<=j)
 |0,a,ρ,v,st,h=>by
  have hi:ρ.set i (AA (.int v))=ρ:=by
   refine EO λz=>?_;rw[Ch];split
   .rename_i e;subst e;split
    .exact h.symm
    .rw[BV (by lia)]at h
     cases h
   .rfl
  rcases CS j ρ.length with hj|hj
  .refine⟨ρ[j],?_,λ_=>.inl (Cy hj)⟩;rw[yo,zr,Cc,BR,hi,List.set_getElem_self]
  .refine⟨AD,?_,λ_=>.inr hj⟩;rw[yo,zr,Cc,BR,hi,List.set_eq_of_length_le hj]
 |N+1,a,ρ,v,st,h=>by
  have h1:(ρ.set j (AA (.int a)))[i]?=AA (AA (.int v)):=by
   rw[AO (BK hij)];exact h
  have hil:i<ρ.length:=by
   rcases CS i ρ.length with z|z
   .exact z
   .rw[BV z]at h;cases h
  have h2:exs call (ρ.set j (AA (.int a))) st (.cons (.asg (.n i) (.bin .mul (.cst (.int 2)) (.var i))) .nil)=.nx ((ρ.set j (AA (.int a))).set i (AA (.int (2*v)))) st:=by
   erw[xs_nil,xs_cons,x_asg,yap,nxO,IC.ve1,IC.ve2,IC.ve3,R.bind,R.fl,h1,yC,yq,binI,yat,toR];simp
  let⟨u,h3,_⟩:=dbl (call:=call) hij N (a+1) ((ρ.set j (AA (.int a))).set i (AA (.int (2*v)))) (2*v) st (by rw[A6 (by rw[B3];exact hil)]);refine⟨u,?_,λz=>by cases z⟩;rw[yo,zk (ρ1:=ρ.set j (AA (.int a))) rfl,h2];show yay call _ _ _ _ _=_;rw[h3,DM,Gk _ _ (BK hij),DM,Ab,CD]
theorem zdJ(K:Nat):(0:Int)<2^K:=Ad (by lia)
noncomputable def yD:Css:=match yN.body with
 |.cons _ (.cons _ (.cons _ r))=>r
 |_=>.nil
noncomputable def wT2:Css:=match yD with
 |.cons _ (.cons _ (r))=>r
 |_=>.nil
theorem wE2:yD=(match yD with
 |.cons q0 (.cons q1 (_))=>.cons q0 (.cons q1 (wT2))
 |_=>.nil):=rfl
noncomputable def wT4:Css:=match yD with
 |.cons _ (.cons _ (.cons _ (.cons _ (r))))=>r
 |_=>.nil
theorem wE4:yD=(match yD with
 |.cons q0 (.cons q1 (.cons q2 (.cons q3 (_))))=>.cons q0 (.cons q1 (.cons q2 (.cons q3 (wT4))))
 |_=>.nil):=rfl
noncomputable def wT5:Css:=match yD with
 |.cons _ (.cons _ (.cons _ (.cons _ (.cons _ (r)))))=>r
 |_=>.nil
theorem wE5:yD=(match yD with
 |.cons q0 (.cons q1 (.cons q2 (.cons q3 (.cons q4 (_)))))=>.cons q0 (.cons q1 (.cons q2 (.cons q3 (.cons q4 (wT5)))))
 |_=>.nil):=rfl
noncomputable def wT6:Css:=match yD with
 |.cons _ (.cons _ (.cons _ (.cons _ (.cons _ (.cons _ (r))))))=>r
 |_=>.nil
theorem wE6:yD=(match yD with
 |.cons q0 (.cons q1 (.cons q2 (.cons q3 (.cons q4 (.cons q5 (_))))))=>.cons q0 (.cons q1 (.cons q2 (.cons q3 (.cons q4 (.cons q5 (wT6))))))
 |_=>.nil):=rfl
theorem zgb{c:Cl}{n:Nat}{w z kd m:Int}{u5 u6 u7 u8 u9 u10 u11 u12:Option PV}{st:SO}(h0:0<=kd)(h6:kd<6)(hm:16<=m):
  ∃x,0<=x/\x<m/\exs c [AA (.loc n),AA (.int w),AA (.int z),AA (.int kd),AA (.int m),u5,u6,u7,u8,u9,u10,u11,u12] st yD=.rt (.int x) st:=by
 obtain⟨x,x0,x1,hv⟩:∃x:Int,0<=x/\x<m/\∀st,idxV st (.tup [.int 0,.int 1,.int (m-1),.int (m/2),.int (m/2-1),.int (m-2)]) (.int kd)=AA (.int x):=by
  rcases (by lia:kd=0 \/ kd=1 \/ kd=2 \/ kd=3 \/ kd=4 \/ kd=5)with rfl|rfl|rfl|rfl|rfl|rfl
  .exact⟨0,by lia,by lia,λ_=>rfl⟩
  .exact⟨1,by lia,by lia,λ_=>rfl⟩
  .exact⟨m-1,by lia,by lia,λ_=>rfl⟩
  .exact⟨m/2,by lia,by lia,λ_=>rfl⟩
  .exact⟨m/2-1,by lia,by lia,λ_=>rfl⟩
  .exact⟨m-2,by lia,by lia,λ_=>rfl⟩
 refine⟨x,x0,x1,?_⟩;rw[wE2];erw[yD,yN,AS,Am,B5,Bs,if_true,xs_cons,xs_nil,x_asg,x_ite,x_ret,IC.ve1,IC.ve2,IC.ve3,IC.ve8,IC.ve11,IC.ve16,IC.ve18,evs,AN,AM,bd_ok,fl_ok,toR_some,bT_n,nxO_some,th_nx,th_rt,A7,A8,t_bl,on_t,sizeMax,Cr,b_sub,b_div2,c_lt,c_eq,c_gt,cond_true,cond_false,hv,h6,decide_true]
theorem zgO(k:Nat){n:Nat}{ns:List Int}(hns:ns.length<=1000){w z kd m:Int}{u5 u6 u7 u8 u9 u10 u11 u12:Option PV}{st:SO}(h:Drw ns n st)(h9:9<kd)(hm:16<=m)(hm2:m<=18446744073709551616):
  ∃x st',0<=x/\x<m/\Onl ns n st st'/\exs (yc T (k+3)) [AA (.loc n),AA (.int w),AA (.int z),AA (.int kd),AA (.int m),u5,u6,u7,u8,u9,u10,u11,u12] st yD=.rt (.int x) st':=by
 let⟨d,s1,d1,d2,o1,e1⟩:=yaW k hns (m:=m) (by lia) (by lia) h;refine⟨d,s1,d1,d2,o1,?_⟩;have k1:decide (kd<6)=false:=decide_eq_false (by lia);have k2:(kd==6)=false:=beq_eq_false_iff_ne.2 (by lia);have k3:(kd==7)=false:=beq_eq_false_iff_ne.2 (by lia);rw[wE6];erw[yD,yN,AS,Am,B5,Bs,if_true,xs_cons,xs_nil,x_asg,x_ite,x_ret,IC.ve1,IC.ve2,IC.ve3,IC.ve8,IC.ve11,IC.ve16,IC.ve18,evs,AN,AM,bd_ok,fl_ok,toR_some,bT_n,nxO_some,th_nx,th_rt,A7,A8,t_bl,on_t,sizeMax,Cr,b_sub,b_div2,c_lt,c_eq,c_gt,cond_true,cond_false,e1,h9,decide_true,k1,k2,k3]
theorem zgd(k:Nat){n:Nat}{ns:List Int}(hns:ns.length<=1000){w z kd m:Int}{u5 u6 u7 u8 u9 u10 u11 u12:Option PV}{st:SO}(h:Drw ns n st)(hk:kd=6 \/ kd=7)(hw:4<=w)(hw2:w<=16)(hz:1<=z)(hz2:z<=4)(hm:m=2^(w*z).toNat):
  ∃x st',0<=x/\x<m/\Onl ns n st st'/\exs (yc T (k+3)) [AA (.loc n),AA (.int w),AA (.int z),AA (.int kd),AA (.int m),u5,u6,u7,u8,u9,u10,u11,u12] st yD=.rt (.int x) st':=by
 have hwz:4<=w*z:=by
  have:=Gg hw hz (by lia) (by lia);lia
 have hwz2:w*z<=64:=by
  have:=Gg hw2 hz2 (by lia) (by lia);lia
 have hm1:0<m:=hm ▸ zdJ _;have hm2:m<=18446744073709551616:=by
  have h64:(2:Nat)^(w*z).toNat<=2^64:=An (by lia) (by lia);have h65:((2^(w*z).toNat:Nat):Int)=2^(w*z).toNat:=by simp
  rw[hm,<-h65];lia
 let⟨d,s1,d1,d2,o1,e1⟩:=yaW k hns (m:=m) (by lia) (by lia) h;let⟨e,s2,d3,d4,o2,e2⟩:=yaW k hns (m:=w*z) (by lia) (by lia) (o1.drw h);have hj:(2:Int)^e.toNat<m:=by
  rw[hm];exact Int.pow_lt_pow_of_lt (by lia) (by lia)
 have hj1:=zdJ e.toNat;have hj2:(2:Int)^e.toNat<10000000000000000000000000000000000000000000000000000000000000000000000:=by lia
 have hj3:((2:Int)^e.toNat).natAbs<18446744073709551616:=by lia
 have hj4:(2:Nat)^e.toNat<18446744073709551616:=by
  have h65:((2^e.toNat:Nat):Int)=2^e.toNat:=by simp
  lia
 have hwa:w.natAbs<18446744073709551616:=by lia
 have hea:e.natAbs<1000000000:=by lia
 have hr:ybE (.int e)=AA (yo e.toNat 0 1):=by erw[ybE,hea,if_true]
 have q1:=zhR (i:=d) hj1 (by lia);have q2:yq .mul (.int (d/2^e.toNat)) (.int (2^e.toNat))=AA (.int (d/2^e.toNat*2^e.toNat)):=zcV hj3;have q3:yq .mul (.int w) (.int z)=AA (.int (w*z)):=zaI hwa
 clear hj2 hj4 hea hwa hj3 hwz hwz2
 rcases hk with rfl|rfl
 .let⟨u,hd,_⟩:=dbl (call:=yc T (k+3)) (i:=8) (j:=5) (by lia) e.toNat 0 [AA (.loc n),AA (.int w),AA (.int z),AA (.int 6),AA (.int m),u5,AA (.tup [.int 0,.int 1,.int (m-1),.int (m/2),.int (m/2-1),.int (m-2)]),AA (.int d),AA (.int 1),u9,u10,u11,u12] 1 s2 rfl;refine⟨d/2^e.toNat*2^e.toNat,s2,CM (Bq d1 (by lia)) (by lia),Int.lt_of_le_of_lt (G1 d (by lia)) d2,o1.trans o2,?_⟩;have k1:decide ((6:Int)<6)=false:=rfl;have k2:((6:Int)==6)=true:=rfl;rw[Cj]at hd;rw[wE4];generalize wT4=F at *;generalize (2:Int)^e.toNat=P at *;erw[IC.PV.tup]at hd;simp! [yD,yN,e1,k1,k2,q3,e2,hr,hd,q1,q2]
 .let⟨u,hd,_⟩:=dbl (call:=yc T (k+3)) (i:=8) (j:=5) (by lia) e.toNat 0 [AA (.loc n),AA (.int w),AA (.int z),AA (.int 7),AA (.int m),u5,AA (.tup [.int 0,.int 1,.int (m-1),.int (m/2),.int (m/2-1),.int (m-2)]),AA (.int d),AA (.int 1),u9,u10,u11,u12] 1 s2 rfl;refine⟨m-2^e.toNat,s2,by lia,by lia,o1.trans o2,?_⟩;have k1:decide ((7:Int)<6)=false:=rfl;have k2:((7:Int)==6)=false:=rfl;have k3:((7:Int)==7)=true:=rfl;rw[Cj]at hd;rw[wE5];generalize wT5=F at *;generalize (2:Int)^e.toNat=P at *;erw[IC.PV.tup]at hd;simp! [yD,yN,e1,k1,k2,k3,q3,e2,hr,hd]
theorem Drw.refl{ns:List Int}{n:Nat}{st:SO}(h:Drw ns n st):Onl ns n st st:=by
 let⟨a,p,f,ha,h⟩:=h;exact⟨a,p,f,ha,ziy h⟩
noncomputable def ybv:Css:=match yD with
 |.cons _ (.cons _ (.cons _ (.cons _ (.cons _ (.cons _ (.cons _ (.cons _ (.cons _ (.cons (.for _ _ b) _)))))))))=>b
 |_=>.nil
theorem zge(k:Nat){n:Nat}{ns:List Int}(hns:ns.length<=1000){p1 p2 p3 p4 p6 p8 u11 u12:Option PV}{d W acc a:Int}{st:SO}(h:Drw ns n st)(ha:0<=a)(ha2:a<1000)(hW:4<=W)(hW2:W<18446744073709551616):
  ∃e st' v11 v12,0<=e/\e<W/\Onl ns n st st'/\exs (yc T (k+3)) [AA (.loc n),p1,p2,p3,p4,AA (.int a),p6,AA (.int d),p8,AA (.int W),AA (.int acc),u11,u12] st ybv=.nx [AA (.loc n),p1,p2,p3,p4,AA (.int a),p6,AA (.int d),p8,AA (.int W),AA (.int (acc*W+e)),v11,v12] st':=by
 let⟨t,s1,d1,d2,o1,e1⟩:=yaW k hns (m:=5) (by lia) (by lia) h;have hW0:0<W:=by lia
 have hWm:W.natAbs<18446744073709551616:=by lia
 have ha3:0<a+1:=by lia
 have ha4:a+1<18446744073709551616*18446744073709551616:=by lia
 have q0:=BD (d/(a+1)) (show W≠0 by lia);have q1:=Al (d/(a+1)) hW0;obtain⟨e,x0,x1,hv⟩:∃e:Int,0<=e/\e<W/\∀st,idxV st (.tp AC [.int 0,.int 1,.int (W-1),.int (W/2),.int (d/(a+1)%W)]) (.int t)=AA (.int e):=by
  rcases (by lia:t=0 \/ t=1 \/ t=2 \/ t=3 \/ t=4)with rfl|rfl|rfl|rfl|rfl
  .exact⟨0,by lia,by lia,λ_=>rfl⟩
  .exact⟨1,by lia,by lia,λ_=>rfl⟩
  .exact⟨W-1,by lia,by lia,λ_=>rfl⟩
  .exact⟨W/2,by lia,by lia,λ_=>rfl⟩
  .exact⟨d/(a+1)%W,q0,q1,λ_=>rfl⟩
 refine⟨e,s1,AA (.int (d/(a+1)%W)),AA (.tp AC [.int 0,.int 1,.int (W-1),.int (W/2),.int (d/(a+1)%W)]),x0,x1,o1,?_⟩;erw[ybv,yD,yN,xs_cons,xs_nil,x_asg,IC.ve1,IC.ve2,IC.ve3,IC.ve11,IC.ve16,IC.ve18,evs,AN,AM,bd_ok,fl_ok,toR_some,bT_n,nxO_some,th_nx,A7,A8,b_add,b_sub,zhR ha3 ha4,zhw hW0,b_div2,zcV hWm,e1,PV.tup,hv,AS,Am,B5,Bs,sizeMax,Cr,if_true]
theorem zc9(k:Nat){n:Nat}{ns:List Int}(hns:ns.length<=1000){p1 p2 p3 p4 p6 p8:Option PV}{d W:Int}(hW:4<=W)(hW2:W<18446744073709551616):∀(r i:Nat) (a acc:Int) (u5 u11 u12:Option PV) (st:SO),0<=a->a+r<1000->0<=acc->acc<W^i->Drw ns n st ->
  ∃acc' st' v5 v11 v12,0<=acc'/\acc' < W^(i+r)/\Onl ns n st st'/\yay (yc T (k+3)) (.n 5) ybv (yo r a 1) [AA (.loc n),p1,p2,p3,p4,u5,p6,AA (.int d),p8,AA (.int W),AA (.int acc),u11,u12] st=.nx [AA (.loc n),p1,p2,p3,p4,v5,p6,AA (.int d),p8,AA (.int W),AA (.int acc'),v11,v12] st'
 |0,i,a,acc,u5,u11,u12,st,_,_,h0,h1,h=>⟨acc,st,u5,u11,u12,h0,h1,h.refl,by rw[yo,zr]⟩
 |r+1,i,a,acc,u5,u11,u12,st,ha,hr,h0,h1,h=>by
  let⟨e,s1,v11,v12,e0,e1,o1,hs⟩:=zge k hns (p1:=p1) (p2:=p2) (p3:=p3) (p4:=p4) (p6:=p6) (p8:=p8) (u11:=u11) (u12:=u12) (d:=d) (acc:=acc) h ha (by lia) hW hW2;have hb:acc*W+e<W^(i+1):=by
   have:=B6 (show acc<=W^i-1 by lia) (show 0<=W by lia);rw[EQ,BR]at this;rw[Ab];lia
  have hb0:0<=acc*W:=CM h0 (by lia);let⟨acc',s2,w5,w11,w12,f0,f1,o2,hf⟩:=zc9 k hns (p1:=p1) (p2:=p2) (p3:=p3) (p4:=p4) (p6:=p6) (p8:=p8) (d:=d) hW hW2 r (i+1) (a+1) (acc*W+e) (AA (.int a)) v11 v12 s1 (by lia) (by lia) (by lia) hb (o1.drw h);refine⟨acc',s2,w5,w11,w12,f0,by rw[show i+(r+1)=i+1+r by lia];exact f1,o1.trans o2,?_⟩;rw[yo,zk (ρ1:=[AA (.loc n),p1,p2,p3,p4,AA (.int a),p6,AA (.int d),p8,AA (.int W),AA (.int acc),u11,u12]) rfl,hs];exact hf
theorem zeX(k:Nat){n:Nat}{ns:List Int}(hns:ns.length<=1000){w z:Nat}{kd m:Int}{u5 u6 u7 u8 u9 u10 u11 u12:Option PV}{st:SO}(h:Drw ns n st)(hk:kd=8 \/ kd=9)(hw:4<=w)(hw2:w<=16)(hz:1<=z)(hz2:z<=4)(hm:m=2^(w*z)):
  ∃x st',0<=x/\x<m/\Onl ns n st st'/\exs (yc T (k+3)) [AA (.loc n),AA (.int w),AA (.int z),AA (.int kd),AA (.int m),u5,u6,u7,u8,u9,u10,u11,u12] st yD=.rt (.int x) st':=by
 have hwz2:w*z<=64:=Av hw2 hz2;have hm1:0<m:=hm ▸ zdJ _;have hm2:m<=18446744073709551616:=by
  have h64:(2:Nat)^(w*z)<=2^64:=An (by lia) hwz2;rw[hm,<-pw];lia
 let⟨d,s1,d1,d2,o1,e1⟩:=yaW k hns (m:=m) (by lia) (by lia) h;have hW4:(4:Int)<=2^w:=by
  have h:(2:Nat)^2<=2^w:=An (by lia) (by lia);have h2:=pw w;lia
 have hWl:(2:Int)^w<18446744073709551616:=by
  have h:(2:Nat)^w<=2^16:=An (by lia) hw2;have h2:=pw w;lia
 have r1:ybE (.int (w:Int))=AA (yo w 0 1):=za8 w (by lia);have r2:ybE (.int (z:Int))=AA (yo z 0 1):=za8 z (by lia);have k1:¬kd<6:=by lia
 have k2:(kd==6)=false:=by simp;lia
 have k3:(kd==7)=false:=by simp;lia
 have k4:¬9<kd:=by lia
 let⟨u,hd,_⟩:=dbl (call:=yc T (k+3)) (i:=9) (j:=5) (by lia) w 0 [AA (.loc n),AA (.int w),AA (.int z),AA (.int kd),AA (.int m),u5,AA (.tup [.int 0,.int 1,.int (m-1),.int (m/2),.int (m/2-1),.int (m-2)]),AA (.int d),u8,AA (.int 1),u10,u11,u12] 1 s1 rfl;erw[A7,A8,Cj]at hd;let⟨acc',s2,w5,w11,w12,f0,f1,o2,hf⟩:=zc9 k hns (p1:=AA (.int w)) (p2:=AA (.int z)) (p3:=AA (.int kd)) (p4:=AA (.int m)) (p6:=AA (.tup [.int 0,.int 1,.int (m-1),.int (m/2),.int (m/2-1),.int (m-2)])) (p8:=u8) (d:=d) (W:=2^w) hW4 hWl z 0 0 0 u u11 u12 s1 (by lia) (by lia) (by lia) (by simp) (o1.drw h);rw[B5,<-ER,<-hm]at f1;refine⟨acc',s2,f0,f1,o1.trans o2,?_⟩
 have hR:yD=.cons (.asg (.n 6) (.tup (.cons (.cst (.int 0)) (.cons (.cst (.int 1)) (.cons (.bin .sub (.var 4) (.cst (.int 1))) (.cons (.bin .fdiv (.var 4) (.cst (.int 2))) (.cons (.bin .sub (.bin .fdiv (.var 4) (.cst (.int 2))) (.cst (.int 1))) (.cons (.bin .sub (.var 4) (.cst (.int 2))) .nil)))))))) (match yD with
  |.cons _ (.cons a (.cons b (.cons c (.cons d (.cons e (.cons f (.cons g (.cons h (.cons (.for t i _) r)))))))))=>.cons a (.cons b (.cons c (.cons d (.cons e (.cons f (.cons g (.cons h (.cons (.for t i ybv) r))))))))
  |_=>.nil):=rfl
 rw[hR];erw[yD,yN,xs_cons,xs_nil,x_asg,x_ite,x_ret,x_for,evi,r1,r2,toL,IC.ve1,IC.ve2,IC.ve3,IC.ve8,IC.ve11,IC.ve16,IC.ve18,evs,bd_ok,fl_ok,toR_some,bT_n,nxO_some,th_nx,th_rt,A7,A8,AN,AM,b_sub,b_div2,c_lt,c_eq,c_gt,on_t,t_bl,k1,k2,k3,k4,decide_false,cond_false,e1,hd,hf,AS,Am,B5,Bs,sizeMax,Cr,if_true]
theorem worth(k:Nat){n:Nat}{ns:List Int}(hns:ns.length<=1000)(w z:Nat)(hw:4<=w)(hw2:w<=16)(hz:1<=z)(hz2:z<=4){st:SO}(h:Drw ns n st):
  ∃x st',0<=x/\x<2^(w*z)/\Onl ns n st st'/\yc T (k+4) zfC [.loc n,.int w,.int z] st=.ok (.int x) st':=by
 let⟨kd,s1,d1,d2,o1,e1⟩:=yaW k hns (m:=12) (by lia) (by lia) h;have h1:=o1.drw h;have hwz2:w*z<=64:=Av hw2 hz2;have hwz:4<=w*z:=Av hw hz;have hm:(16:Int)<=2^(w*z):=by
  have h:(2:Nat)^4<=2^(w*z):=An (by lia) hwz;have h2:=pw (w*z);lia
 have hm2:(2:Int)^(w*z)<=18446744073709551616:=by
  have h:(2:Nat)^(w*z)<=2^64:=An (by lia) hwz2;have h2:=pw (w*z);lia
 have hwa:(w:Int).natAbs<18446744073709551616:=by lia
 have hwm:(w:Int)*(z:Int)=((w*z:Nat):Int):=by simp
 have r1:ybE (.int ((w*z:Nat):Int))=AA (yo (w*z) 0 1):=za8 _ (by lia);let⟨u,hd,_⟩:=dbl (call:=yc T (k+3)) (i:=4) (j:=5) (by lia) (w*z) 0 [AA (.loc n),AA (.int w),AA (.int z),AA (.int kd),AA (.int 1),AD,AD,AD,AD,AD,AD,AD,AD] 1 s1 rfl;erw[A7,A8,Cj]at hd;have key:∃x st',0<=x/\x<2^(w*z)/\Onl ns n s1 st'/\exs (yc T (k+3)) [AA (.loc n),AA (.int w),AA (.int z),AA (.int kd),AA (.int (2^(w*z))),u,AD,AD,AD,AD,AD,AD,AD] s1 yD=.rt (.int x) st':=by
  rcases (by lia:kd<6 \/ (kd=6 \/ kd=7) \/ (kd=8 \/ kd=9) \/ 9<kd)with q|q|q|q
  .let⟨x,a,b,e⟩:=zgb (c:=yc T (k+3)) (n:=n) (w:=w) (z:=z) (st:=s1) (u5:=u) (u6:=AD) (u7:=AD) (u8:=AD) (u9:=AD) (u10:=AD) (u11:=AD) (u12:=AD) d1 q hm;exact⟨x,s1,a,b,h1.refl,e⟩
  .exact zgd k hns h1 q (by lia) (by lia) (by lia) (by lia) (by rw[hwm,CQ])
  .exact zeX k hns h1 q hw hw2 hz hz2 rfl
  .exact zgO k hns h1 q hm hm2
 let⟨x,s2,a,b,o2,e2⟩:=key;refine⟨x,s2,a,b,o1.trans o2,?_⟩;have hT:T zfC=AA ⟨3,13,AC,yN.body⟩:=rfl;have hb:yN.body=.cons (.asg (.n 3) (.call 87 (.cons (.var 0) (.cons (.cst (.int 12)) .nil)))) (.cons (.asg (.n 4) (.cst (.int 1))) (.cons (.for (.n 5) (.range1 (.bin .mul (.var 1) (.var 2))) (.cons (.asg (.n 4) (.bin .mul (.cst (.int 2)) (.var 4))) .nil)) yD)):=rfl;rw[yc,hT,hb];erw[AS,Am,B5,Bs,if_true,BO,if_false,AL,Ac,Bm,Af,Ae,Aq];rw[xs_cons,x_asg];erw[IC.ve18,IC.ve1,IC.ve2,evs,AN,AM,bd_ok,fl_ok,e1,bT_n,nxO_some,th_nx,A7,A8];rw[xs_cons,x_asg];erw[IC.ve1,bd_ok,fl_ok,bT_n,nxO_some,th_nx,A7,A8];rw[xs_cons,x_for];erw[evi,IC.ve2,IC.ve3,AN,AM,bd_ok,fl_ok,zaI hwa,hwm,r1,toL,toR_some,hd,th_nx,e2]
theorem zde{call:Cl}{W:Int}(hW:0<W)(hW2:W<18446744073709551616){p1 p2:Option PV}:∀(n:Nat) (a x:Int) (acc:List PV) (u:Option PV),acc.length+n<1000000 ->
  ∃x' u',yay call (.n 5) (.cons (.expr (.mth .append (.var 4) (.cons (.bin .mod (.var 0) (.var 3)) .nil))) (.cons (.asg (.n 0) (.bin .fdiv (.var 0) (.var 3))) .nil)) (yo n a 1) [AA (.int x),p1,p2,AA (.int W),AA (.loc 0),u] [.lst acc]=.nx [AA (.int x'),p1,p2,AA (.int W),AA (.loc 0),u'] [.lst (acc++(yh W n x).map .int)]
 |0,a,x,acc,u,_=>⟨x,u,by rw[yo,zr];simp[yh]⟩
 |n+1,a,x,acc,u,h=>by
  let⟨x',u',e⟩:=zde (call:=call) hW hW2 (p1:=p1) (p2:=p2) n (a+1) (x/W) (acc++[.int (x%W)]) (AA (.int a)) (by simp;lia);refine⟨x',u',?_⟩;have hW3:W<18446744073709551616*18446744073709551616:=by lia
  have hl:acc.length<1000000:=by lia
  rw[yo,zk (ρ1:=[AA (.int x),p1,p2,AA (.int W),AA (.loc 0),AA (.int a)]) rfl];have hm:yaE .append [Ob.lst acc] (.loc 0)=AA true:=rfl;have hap:yca .append [Ob.lst acc] (.loc 0) [.int (x%W)]=.ok .non [.lst (acc++[.int (x%W)])]:=by
   simp[yca,ydx,hl]
  erw[xs_cons,xs_nil,x_asg,x_expr,IC.ve20,IC.ve2,IC.ve3,evs,AN,AM,bd_ok,fl_ok,hm,ono,zhw hW,zhR hW hW3,toR_some,hap,bT_n,nxO_some,th_nx,A7,A8,yak];rw[e];simp[yh]
theorem words(k:Nat)(x:Int)(w n:Nat)(hw:w<=16)(hn:n<1000)(st:SO):yc T (k+2) zdS [.int x,.int w,.int n] st=.ok (.tup ((yh (2^w) n x).map .int)) st:=by
 have hW:(0:Int)<2^w:=Ad (by lia);have hW2:(2:Int)^w<18446744073709551616:=by
  have h:(2:Nat)^w<=2^16:=An (by lia) hw;have h2:((2^w:Nat):Int)=2^w:=by simp
  lia
 let⟨x',u',e⟩:=zde (call:=yc T (k+1)) hW hW2 (p1:=AA (.int w)) (p2:=AA (.int n)) n 0 x [] AD (by simp;lia);have ht:=zbV k w (by lia) [];have hT:T zdS=AA zcj:=rfl;rw[yc,hT];erw[zcj,AS,Am,B5,Bs,if_true,nLs,nL,Cg,AL,Ac,Bm,Af,Ae,Aq,xs_cons,xs_nil,x_asg,x_for,x_ret,IC.ve18,IC.ve2,IC.ve13,IC.ve19,evs,evi,AN,AM,bd_ok,fl_ok,ht,bT_n,nxO_some,th_nx,A7,A8,za8 n hn,toL,DC,sizeMax,e];simp[yah,yeb,yU,toR,fl_ok,nL,noLocs_ints,R.fl,yap]
theorem signed(k:Nat)(x:Int)(K:Nat)(hK:K<1000)(st:SO):yc T (k+2) zcM [.int x,.int K] st=.ok (.int (if 2^K<=2*x then x-2^K else x)) st:=by
 have ht:=zbV k K hK [];have hT:T zcM=AA zbT:=rfl;rw[yc,hT];erw[zbT,AS,Am,B5,Bs,if_true,nLs,nL,Cg,AL,Ac,Bm,Af,Ae,Aq,xs_cons,xs_nil,x_asg,x_ite,x_ret,IC.ve18,IC.ve1,IC.ve2,IC.ve3,IC.ve8,evs,AN,AM,bd_ok,fl_ok,ht,b_sub,b_mul2,toR_some,bT_n,nxO_some,th_nx,th_rt,A7,A8,c_ge,t_bl,on_t]
 by_cases h:2^K<=2*x<;>simp[h,R.fl,yap,nL]
theorem fits(k:Nat)(s:Int)(K:Nat)(hK:K<1000)(st:SO):yc T (k+2) zeW [.int s,.int K] st=.ok (.bl (decide (0-2^K<=2*s)&&decide (2*s<2^K))) st:=by
 have ht:=zbV k K hK [];have hT:T zeW=AA zds:=rfl;rw[yc,hT];erw[zds,AS,Am,B5,Bs,if_true,nLs,nL,Cg,AL,Ac,Bm,Af,Ae,Aq,xs_cons,xs_nil,x_asg,x_ret,IC.ve18,IC.ve1,IC.ve2,IC.ve3,IC.ve9,evs,AN,AM,bd_ok,fl_ok,ht,b_sub,b_mul2,toR_some,bT_n,nxO_some,th_nx,th_rt,A7,A8,c_le,c_lt,blO,ono]
 cases decide (0-2^K<=2*s)<;>simp[R.fl,toR,yap,nL]
theorem ends(k:Nat)(v:Int)(K:Nat)(hK:K<1000)(st:SO):yc T (k+2) zfc [.int v,.int K] st=.ok (.tup [.int (bi (v==0)),.int (bi (decide (2^K<=2*v)))]) st:=by
 have ht:=zbV k K hK [];have hT:T zfc=AA zdQ:=rfl;rw[yc,hT];erw[zdQ,AS,Am,B5,Bs,if_true,nLs,nL,Cg,AL,Ac,Bm,Af,Ae,Ax,Aq,xs_cons,xs_nil,x_asg,x_ret,IC.ve18,IC.ve1,IC.ve2,IC.ve3,IC.ve8,IC.ve11,IC.ve19,evs,AN,AM,bd_ok,fl_ok,ht,b_sub,b_mul2,toR_some,c_eq,c_ge,zk8,zmr];simp[R.fl,yap,nL,nLs,sizeMax]
theorem zd3:∀l:List Int,allB (l.map λ_=>PV.bl AB)=AA AB
 |[]=>rfl
 |a::l=>by rw[AL,allB,zd3 l];rfl
theorem zjB(l:List Int)(st:SO):yah .all st [.lst (l.map λ_=>PV.bl AB)]=AA (.bl AB):=by
 show (allB _).map PV.bl=_;rw[zd3];rfl
theorem ycg(k:Nat)(v:Int)(st:SO):yc T (k+1) zbS [.int v] st=.ok (.bl AB) st:=by
 have hT:T zbS=AA zch:=rfl;have e1:yaD (.int v) [.int]=AA (.bl AB):=rfl;have e2:yaD (.int v) [.bool]=AA (.bl AC):=rfl;rw[zc hT rfl rfl rfl];simp! [zch,e1,e2];rfl
theorem zcg{call:Cl}{ρ0:IC.Env}{t:Tg}{c e:Ce}{st:SO}:∀l:List Int,(∀x∈l,yba call ρ0 t c e (.int x) st=.ok (AA (.bl AB)) st)->yae call ρ0 t c e (l.map .int) st=.ok (l.map λ_=>.bl AB) st
 |[],_=>zaO
 |a::l,h=>by
  rw[AL,zW,h a (by simp),bd_ok,zcg l (λx hx=>h x (by simp[hx])),bd_ok];rfl
theorem ycn(k:Nat){ws:List Int}{w:Nat}(hw:w<=16)(hl:ws.length<=1000)(hr:∀v∈ws,0<=v/\v<2^w)(st:SO):yc T (k+2) zef [.tp AC (ws.map .int),.int w,.int (ws.length:Int)] st=.ok (.bl AB) st:=by
 have hT:T zef=AA zbR:=rfl;have e1:yaD (.tp AC (ws.map .int)) [.tuple]=AA (.bl AB):=rfl;have e2:∀st,yah .len st [.tp AC (ws.map .int)]=AA (.int (ws.length:Int)):=λst=>by
  show AA (PV.int (((ws.map PV.int).length:Nat):Int))=_;simp
 have q1:yae (yc T (k+1)) [AD] (.n 0) (.cst (.bl AB)) (.call zbS (.cons (.var 0) .nil)) (ws.map .int) []=.ok (ws.map λ_=>.bl AB) []:=zcg ws λx _=>by
  have e:=ycg k x [];simp! [yba,e]
 have q2:yae (yc T (k+1)) [AD,AA (.int w)] (.n 0) (.cst (.bl AB)) (.chain .le .lt (.cst (.int 0)) (.var 0) (.call zao (.cons (.var 1) .nil))) (ws.map .int) []=.ok (ws.map λ_=>.bl AB) []:=zcg ws λx hx=>by
  have e:=zbV k w (by lia) [];have c1:decide (0<=x)=true:=decide_eq_true (hr x hx).1;have c2:decide (x<2^w)=true:=decide_eq_true (hr x hx).2;simp! [yba,e,c1,c2,blO]
 have lr:=zb3 (ws.map λ_=>PV.bl AB) (by simp;lia);have ta:=zjB ws;rw[zc hT rfl rfl (by simp[nLs,nL,noLocs_ints])];simp! [zbR,e1,e2,beq_self_eq_true,q1,lr,ta,q2];rfl
theorem ycB(k:Nat){a b c d:Int}(ha:-1<=a/\a<=1)(hb:-1<=b/\b<=1)(hc:-1<=c/\c<=1)(hd:-1<=d/\d<=1)(st:SO):yc T (k+2) zep [.tp AC [.int a,.int b,.int c,.int d],.int 4,.int 1] st=.ok (.bl AB) st:=by
 have hT:T zep=AA zbu:=rfl;have e1:yaD (.tp AC [.int a,.int b,.int c,.int d]) [.tuple]=AA (.bl AB):=rfl;have e2:∀st,yah .len st [.tp AC [.int a,.int b,.int c,.int d]]=AA (.int 4):=λ_=>rfl;have q:yae (yc T (k+1)) [AD,AA (.int 1)] (.n 0) (.cst (.bl AB)) (.and (.call zbS (.cons (.var 0) .nil)) (.chain .le .le (.bin .sub (.cst (.int 0)) (.var 1)) (.var 0) (.var 1))) ([a,b,c,d].map .int) []=.ok ([a,b,c,d].map λ_=>.bl AB) []:=zcg [a,b,c,d] λx hx=>by
  have e:=ycg k x [];have hx:-1<=x/\x<=1:=by
   erw[A3,BB,or_false]at hx;rcases hx with rfl|rfl|rfl|rfl<;>assumption
  have c1:decide ((0:Int)-1<=x)=true:=decide_eq_true (by lia);have c2:decide (x<=1)=true:=decide_eq_true hx.2;simp! [yba,e,c1,c2,blO]
 have q:yae (yc T (k+1)) [AD,AA (.int 1)] (.n 0) (.cst (.bl AB)) (.and (.call zbS (.cons (.var 0) .nil)) (.chain .le .le (.bin .sub (.cst (.int 0)) (.var 1)) (.var 0) (.var 1))) [.int a,.int b,.int c,.int d] []=.ok [.bl AB,.bl AB,.bl AB,.bl AB] []:=q;have lr:∀st,yb7 (.ok [PV.bl AB,.bl AB,.bl AB,.bl AB] st)=.ok (.lst [.bl AB,.bl AB,.bl AB,.bl AB]) st:=λst=>zb3 _ (by simp) st;have ta:∀st,yah .all st [.lst [.bl AB,.bl AB,.bl AB,.bl AB]]=AA (.bl AB):=λ_=>rfl;have b4:((4:Int)==4)=true:=rfl;rw[zc hT rfl rfl rfl];simp! [zbu,e1,e2,b4,q,lr,ta];rfl
noncomputable def anB:Css:=match yV.body with
 |.cons _ (.cons (.for _ _ b) _)=>b
 |x=>x
theorem ycK(k:Nat){ws:List Int}{w:Nat}{a b c d:Int}(hw:w<=16)(hl:ws.length<=1000)(hr:∀v∈ws,0<=v/\v<2^w)(ha:-1<=a/\a<=1)(hb:-1<=b/\b<=1)(hc:-1<=c/\c<=1)(hd:-1<=d/\d<=1)(st:SO):yc T (k+3) zc3 [dv ws a b c d,.int w] st=.ok (.bl AB) st:=by
 have hT:T zc3=AA ⟨2,3,AB,yV.body⟩:=rfl;have e1:yaD (dv ws a b c d) [.tuple]=AA (.bl AB):=rfl;have e2:∀st,yah .len st [dv ws a b c d]=AA (.int 3):=λ_=>rfl;have b3:((3:Int)==3)=true:=rfl;have o0:ybQ .non=AA none:=rfl;have e3:ycf (dv ws a b c d) AD (.int 2)=AA (.tp AC [.tp AC (ws.map .int),.tp AC []]):=rfl;have e4:∀st,idxV st (dv ws a b c d) (.int 2)=AA (.tp AC [.int a,.int b,.int c,.int d]):=λ_=>rfl;have e5:=λs=>ycB k ha hb hc hd s;have one:∀(us:List Int),us.length<=1000->(∀v∈us,0<=v/\v<2^w)->∀(p0:Option PV) (st:SO),exs (yc T (k+2)) [p0,AA (.int w),AA (.tp AC (us.map .int))] st anB=.nx [p0,AA (.int w),AA (.tp AC (us.map .int))] st:=λus h1 h2 p0 st=>by
  have n1:=λs=>ycn k hw h1 h2 s;have i1:yaD (.tp AC (us.map .int)) [.tuple]=AA (.bl AB):=rfl;have i2:∀st,yah .len st [.tp AC (us.map .int)]=AA (.int (us.length:Int)):=λst=>by
   show AA (PV.int (((us.map PV.int).length:Nat):Int))=_;simp
  generalize PV.tp AC (us.map .int)=U at *;simp! [anB,yV,i1,i2,n1]
 have ag:∀(ρ:IC.Env) (s:SO) (k:IC.Env->SO->Fl),yak (.nx ρ s) k=k ρ s:=λ_ _ _=>rfl;have lp:∀p0:Option PV,yay (yc T (k+2)) (.n 2) anB [.tp AC (ws.map .int),.tp AC []] [p0,AA (.int w),AD] []=.nx [p0,AA (.int w),AA (.tp AC [])] []:=λp0=>by
  rw[zk (ρ1:=[p0,AA (.int w),AA (.tp AC (ws.map .int))]) rfl,one ws hl hr,ag,zk (ρ1:=[p0,AA (.int w),AA (.tp AC [])]) rfl];have:=one [] (by simp) (by simp) p0 [];rw[Ac]at this;rw[this,ag,zr]
 have hbd:yV.body=(match yV.body with
  |.cons a (.cons (.for t i _) r)=>.cons a (.cons (.for t i anB) r)
  |x=>x):=rfl
 rw[zc hT rfl rfl (by simp[nLs,nL,noLocs_ints])];dsimp only;rw[hbd];generalize dv ws a b c d=V at *;simp! [yV,e1,e2,b3,o0,onP,e3,lp,e4,e5];rfl
theorem yep(b:Bool):-1<=bi b/\bi b<=1:=by cases b<;>decide
theorem yfP{a b:Int}(st:SO):yah .max st [.int a,.int b]=AA (.int (if a<b then b else a)):=by
 erw[yah,maxV]
theorem zgI(k:Nat){m:Nat}{ns:List Int}(hns:ns.length<=1000){st:SO}(h:Drw ns m st):
  ∃(w n N:Nat) (e x:Int) (st':SO),4<=w/\w<=16/\1<=n/\n<=4/\1<=N/\N<=8/\-3<=e/\e<=4/\e=N-n/\0<=x/\x<2^(w*n)/\Drw ns m st'/\yc T (k+5) zaP [.loc m] st=.ok (.tup [.int w,.int n,.int e,.int x]) st':=by
 let⟨wi,zi,s1,a1,a2,a3,a4,o1,e1⟩:=sizes k hns (m:=4) (by lia) (by lia) h;let⟨w,rfl⟩:=zcD (show 0<=wi by lia);have h1:=o1.drw h;let⟨d,s2,d0,d1,o2,e2⟩:=yaW (k+1) hns (m:=8) (by lia) (by lia) h1;have h2:=o2.drw h1;let⟨q,s3,q0,q1,o3,e3⟩:=yaW (k+1) hns (m:=6) (by lia) (by lia) h2;have h3:=o3.drw h2;let⟨n,hn⟩:=zcD (show 0<=(if zi<1-(d-3)then 1-(d-3)else zi)by split<;>lia);let⟨N,hN⟩:=zcD (show 0<=(n:Int)+(d-3)by rw[<-hn];split<;>lia);have b1:1<=n/\n<=4/\1<=N/\N<=8:=by split at hn<;>lia
 let⟨x,s4,x0,x1,o4,e4⟩:=worth k hns w n (by lia) (by lia) b1.1 b1.2.1 h3;have h4:=o4.drw h3;have hmx:=yfP (a:=zi) (b:=1-(d-3)) s3;rw[hn]at hmx;have hT:T zaP=AA zF:=rfl;have hbt:∀a b:PV,yC (.t [1,2]) (.tup [a,b]) [AA (.loc m),AD,AD,AD,AD,AD,AD]=AA [AA (.loc m),AA a,AA b,AD,AD,AD,AD]:=λa b=>rfl;have e1:yc T (k+4) zdz [.loc m,.int 4] st=.ok (.tup [.int w,.int zi]) s1:=e1;have e2:yc T (k+4) zcz [.loc m,.int 8] s1=.ok (.int d) s2:=e2;have e3:yc T (k+4) zcz [.loc m,.int 6] s2=.ok (.int q) s3:=e3;have m1:=zbp w n (by lia);have m2:=zbp w N (by lia);have t1:n<=4->∀s,yc T (k+4) zao [.int ((w*n:Nat):Int)] s=.ok (.int (2^(w*n))) s:=λh s=>zbV (k+3) (w*n) (by have:=Av (show w<=16 by lia) h;lia) s;have t2:N<=4->∀s,yc T (k+4) zao [.int ((w*N:Nat):Int)] s=.ok (.int (2^(w*N))) s:=λh s=>zbV (k+3) (w*N) (by have:=Av (show w<=16 by lia) h;lia) s;rw[show k+5=k+4+1 by lia,zn hT rfl rfl]
 by_cases c1:d-3<0
 .have hle:N<=4:=by lia
  have t1:=t1 b1.2.1;have t2:=t2 hle;have d1':decide (d-3<0)=true:=decide_eq_true c1;have hpow:(2:Int)^(w*N)<=2^(w*n):=by
   have hh:(2:Nat)^(w*N)<=2^(w*n):=An (by lia) (Nat.mul_le_mul_left w (by lia));have h2:=pw (w*N);have h3:=pw (w*n);lia
  have hp0:(0:Int)<2^(w*N):=Ad (by decide);have hp64:(2:Int)^(w*N)<=2^64:=by
   have hh:(2:Nat)^(w*N)<=2^64:=An (by lia) (Av (show w<=16 by lia) hle);have h2:=pw (w*N);lia
  by_cases c2:q<4
  .let⟨y,s5,y0,y1,o5,e5⟩:=worth k hns w N (by lia) (by lia) b1.2.2.1 hle h4;have hq4:(q==4)=false:=beq_eq_false_iff_ne.2 (by lia);have d2':decide (q<4)=true:=decide_eq_true c2;have m3:yq .mul (.int (q/2)) (.int (2^(w*n)-2^(w*N)))=AA (.int (q/2*(2^(w*n)-2^(w*N)))):=zaI (by lia);refine⟨w,n,N,d-3,y+q/2*(2^(w*n)-2^(w*N)),s5,by lia,by lia,b1.1,b1.2.1,b1.2.2.1,b1.2.2.2,by lia,by lia,by lia,?_,?_,o5.drw h4,?_⟩
   .have:=CM (show 0<=q/2 by lia) (show 0<=(2:Int)^(w*n)-2^(w*N)by lia);lia
   .rcases (by lia:q/2=0 \/ q/2=1)with z|z<;>rw[z]<;>lia
   .generalize ((w*n:Nat):Int)=K at *;generalize ((w*N:Nat):Int)=K2 at *;generalize (2:Int)^(w*n)=P at *;generalize (2:Int)^(w*N)=P2 at *;simp! [zF,e1,hbt,e2,e3,hmx,e4,d1',hN,m2,t2,d2',e5,m1,t1,m3,hq4];rfl
  .have d2':decide (q<4)=false:=decide_eq_false c2
   by_cases c3:q=4
   .have hq4:(q==4)=true:=beq_iff_eq.2 c3;have m3:yq .fdiv (.int x) (.int (2^(w*N)))=AA (.int (x/2^(w*N))):=zhR hp0 (by lia);have x64:(x/2^(w*N)).natAbs<18446744073709551616:=by
     have h0:=Bq x0 (DN hp0);have h1:=Int.ediv_le_self (2^(w*N)) x0;have hh:(2:Nat)^(w*n)<=2^64:=An (by lia) (Av (show w<=16 by lia) b1.2.1);have h2:=pw (w*n);lia
    have m4:yq .mul (.int (x/2^(w*N))) (.int (2^(w*N)))=AA (.int (x/2^(w*N)*2^(w*N))):=zaI x64;have hx:=G1 x (show (2:Int)^(w*N)≠0 by lia);refine⟨w,n,N,d-3,x/2^(w*N)*2^(w*N),s4,by lia,by lia,b1.1,b1.2.1,b1.2.2.1,b1.2.2.2,by lia,by lia,by lia,CM (Bq x0 (DN hp0)) (DN hp0),by lia,h4,?_⟩;generalize ((w*N:Nat):Int)=K2 at *;generalize (2:Int)^(w*N)=P2 at *;simp! [zF,e1,hbt,e2,e3,hmx,e4,d1',hN,m2,t2,d2',hq4,m3,m4];rfl
   .have hq4:(q==4)=false:=beq_eq_false_iff_ne.2 c3;refine⟨w,n,N,d-3,x,s4,by lia,by lia,b1.1,b1.2.1,b1.2.2.1,b1.2.2.2,by lia,by lia,by lia,x0,x1,h4,?_⟩;generalize ((w*N:Nat):Int)=K2 at *;generalize (2:Int)^(w*N)=P2 at *;simp! [zF,e1,hbt,e2,e3,hmx,e4,d1',hN,m2,t2,d2',hq4];rfl
 .have d1':decide (d-3<0)=false:=decide_eq_false c1;refine⟨w,n,N,d-3,x,s4,by lia,by lia,b1.1,b1.2.1,b1.2.2.1,b1.2.2.2,by lia,by lia,by lia,x0,x1,h4,?_⟩;simp! [zF,e1,hbt,e2,e3,hmx,e4,d1'];rfl
theorem zdm(b:Bool):yw .eq (.str (yag b)) (.str "signed")=AA (.bl b):=by cases b<;>(ac_rfl)
theorem znw(k:Nat){sr sm g:Bool}{e w n N x X K P:Int}(m1:yq .mul (.int w) (.int n)=AA (.int K))(hX:sr=AC->X=x)(E1:sr=AB->∀st,yc T k zcM [.int x,.int K] st=.ok (.int X) st)(hN:n+e=N)(m2:yq .mul (.int w) (.int N)=AA (.int P))(E2:sm=AB->∀st,yc T k zeW [.int X,.int P] st=.ok (.bl g) st){Q:Int}(E3:∀st,yc T k zao [.int P] st=.ok (.int Q) st)(hg:sm=AC->(decide (0<=X)&&decide (X<Q))=g)(st:SO):
  yc T (k+1) zfJ [.str (yag sr),.str (yag sm),.int e,.int w,.int n,.int x] st=.ok (.tp AC [.int X,.int (bi (!g))]) st:=by
 have hT:T zfJ=AA zbD:=rfl;have ib:∀(b:Bool) (st:SO),yah .int st [.bl b]=AA (.int (bi b)):=λb st=>by cases b<;>rfl
 rw[zn hT rfl rfl]
 cases sr<;>cases sm
 .have hX:=hX rfl;have hg:=hg rfl;subst hX
  cases h1:decide (0<=X)
  .rw[h1,Dt]at hg;subst hg;simp! [zbD,zdm,m2,hN,h1,blO,ib];rfl
  .rw[h1,CY]at hg
   cases h2:decide (X<Q)<;>rw[h2]at hg<;>subst hg<;>simp! [zbD,zdm,m2,hN,h1,h2,E3,blO,ib]<;>rfl
 .have hX:=hX rfl;have E2:=E2 rfl;subst hX
  cases g<;>simp! [zbD,zdm,m2,hN,E2,ib]<;>rfl
 .have E1:=E1 rfl;have hg:=hg rfl
  cases h1:decide (0<=X)
  .rw[h1,Dt]at hg;subst hg;simp! [zbD,zdm,m1,E1,m2,hN,h1,blO,ib];rfl
  .rw[h1,CY]at hg
   cases h2:decide (X<Q)<;>rw[h2]at hg<;>subst hg<;>simp! [zbD,zdm,m1,E1,m2,hN,h1,h2,E3,blO,ib]<;>rfl
 .have E1:=E1 rfl;have E2:=E2 rfl
  cases g<;>simp! [zbD,zdm,m1,E1,m2,hN,E2,ib]<;>rfl
theorem yfr(k:Nat)(sr sm:Bool){e:Int}{w n N:Nat}(hw2:w<=16)(he:e=N-n)(hn2:n<=4)(hN2:N<=8)(x:Int)(st:SO):
  yc T (k+3) zfJ [.str (yag sr),.str (yag sm),.int e,.int w,.int n,.int x] st=.ok (.tp AC [.int (xrd sr (2^(w*n)) x),.int (ovr sm (2^(w*N)) (xrd sr (2^(w*n)) x))]) st:=by
 have hK:w*n<1000:=by have:=Av hw2 hn2;lia
 have hQ:w*N<1000:=by have:=Av hw2 hN2;lia
 have hf:∀X:Int,(decide (0-2^(w*N)<=2*X)&&decide (2*X<2^(w*N)))=ybg (2^(w*N)) X:=λX=>by
  unfold ybg;congr 1
 exact znw (k+2) (g:=if sm=AB then ybg (2^(w*N)) (xrd sr (2^(w*n)) x)else decide (0<=xrd sr (2^(w*n)) x)&&decide (xrd sr (2^(w*n)) x<2^(w*N))) (zbp w n (by lia)) (λh=>by rw[h];rfl) (λh s=>by rw[h];exact signed k x (w*n) hK s) (show (n:Int)+e=N by lia) (zbp w N (by lia))
  (λh s=>by rw[h,if_pos rfl,<-hf];exact fits k _ (w*N) hQ s) (λs=>zbV (k+1) (w*N) hQ s) (λh=>by rw[h];rfl) st
noncomputable def lB:Css:=match yaK.body with
 |.cons _ (.cons (.for _ _ b) _)=>b
 |x=>x
noncomputable def lC:Css:=match lB with
 |.cons _ (.cons (.for _ _ b) _)=>b
 |x=>x
noncomputable def lD:Css:=match lC with
 |.cons (.for _ _ b) _=>b
 |x=>x
noncomputable def fB:Css:=match lD with
 |.cons _ (.cons _ (.cons _ (.cons _ (.cons _ (.cons (.for _ _ b) _)))))=>b
 |x=>x
theorem zgz(l:List Int):ya9 (l.map .int) (l.map .int)=true:=by
 induction l with
 |nil=>simp[ya9]
 |cons a l ih=>simp[ya9,peq,ih]
theorem zhO(n:Nat)(l:List Int):ybl n (l.map .int)=true:=by
 induction l with
 |nil=>simp[ybl]
 |cons a l ih=>simp[ybl,shd,ih]
theorem zoH(ws:List Int)(a b c d:Int):yw .ne (dv ws a b c d) (dv ws a b c d)=AA (.bl AC):=by
 simp[yw,shd,ybl,peq,ya9,zgz,zhO]
theorem ag(ρ:IC.Env)(s:SO)(k:IC.Env->SO->Fl):yak (.nx ρ s) k=k ρ s:=rfl
section
variable {m:Nat}{ns:List Int}{p0 p2:Option PV}{st:SO}{e:Int}{w n N:Nat}{x:Int}
theorem zhu(sr sm:Bool)(h1:-3<=e)(h2:e<=4)(hw:4<=w)(hw2:w<=16)(he:e=N-n)(hn:1<=n)(hn2:n<=4)(hN:1<=N)(hN2:N<=8)(x0:0<=x)(x1:x<2^(w*n))(q9 q10 q11 q12 q13 q14:Option PV):
  ∃r9 r10 r11 r12 r13 r14,exs (yc T 23) [p0,AA (.loc m),p2,AA (.int w),AA (.int n),AA (.int e),AA (.int x),AA (.str (yag sr)),AA (.str (yag sm)),q9,q10,q11,q12,q13,q14] st lD=.nx [p0,AA (.loc m),p2,AA (.int w),AA (.int n),AA (.int e),AA (.int x),AA (.str (yag sr)),AA (.str (yag sm)),r9,r10,r11,r12,r13,r14] st:=by
 have hW:(0:Int)<2^w:=Ad (by lia);have hP0:(0:Int)<2^(w*N):=Ad (by decide);have hQ:w*N<1000:=by have:=Av hw2 hN2;lia
 have g:yc T 23 zfJ [.str (yag sr),.str (yag sm),.int e,.int w,.int n,.int x] st=_:=yfr 20 sr sm hw2 he hn2 hN2 x st;have hnN:(n:Int)+e=N:=by lia
 have m1:=zbp w N (by lia);have C:∀t,yc T 23 zdv [yQ sr sm e,.int w,.int n,.int x,.int 0] t=_:=λt=>ydm 0 sr sm h1 h2 hw hw2 he hn hn2 hN hN2 x0 x1 t;have R:∀t,yc T 23 zjp [yQ sr sm e,.int w,.int n,.int x,.int 0] t=_:=λt=>ygt 1 sr sm h1 h2 hw hw2 he hn hn2 hN hN2 x0 x1 t;have A:∀t,yc T 23 zc3 [ycs sr sm w n N x,.int w] t=.ok (.bl AB) t:=λt=>
  ycK 20 hw2 (by rw[zX];lia) (zam hW _ _) (by decide) (yep _) (yep _) (yep _) t
 have Ne:yw .ne (ycs sr sm w n N x) (ycs sr sm w n N x)=AA (.bl AC):=zoH _ _ _ _ _;have hD:ycs sr sm w n N x=.tp AC [.tp AC ((yh (2^w) N (xrd sr (2^(w*n)) x%2^(w*N))).map .int),.tp AC [],.tp AC [.int 0,.int (ovr sm (2^(w*N)) (xrd sr (2^(w*n)) x)),.int (bi (xrd sr (2^(w*n)) x%2^(w*N)==0)),.int (bi (decide ((2:Int)^(w*N)<=2*(xrd sr (2^(w*n)) x%2^(w*N)))))]]:=rfl;have e5:yc T 23 zao [.int ((w*N:Nat):Int)] st=_:=zbV 22 (w*N) hQ st;have m2:yq .mod (.int (xrd sr (2^(w*n)) x)) (.int (2^(w*N)))=AA (.int (xrd sr (2^(w*n)) x%2^(w*N))):=zhw hP0;have e6:yc T 23 zdS [.int (xrd sr (2^(w*n)) x%2^(w*N)),.int w,.int N] st=.ok (.tp AC ((yh (2^w) N (xrd sr (2^(w*n)) x%2^(w*N))).map .int)) st:=words 21 _ w N hw2 (by lia) st;have e7:yc T 23 zfc [.int (xrd sr (2^(w*n)) x%2^(w*N)),.int ((w*N:Nat):Int)] st=.ok (.tp AC [.int (bi (xrd sr (2^(w*n)) x%2^(w*N)==0)),.int (bi (decide ((2:Int)^(w*N)<=2*(xrd sr (2^(w*n)) x%2^(w*N)))))]) st:=ends 21 _ (w*N) hQ st;generalize ycs sr sm w n N x=V at *;have one:∀(a b c d f g h i j k l:Option PV) (st:SO),exs (yc T 23) [p0,a,b,AA (.int w),c,d,f,g,h,i,j,k,l,AA V,AA V] st fB=.nx [p0,a,b,AA (.int w),c,d,f,g,h,i,j,k,l,AA V,AA V] st:=λa b c d f g h i j k l st=>by
  simp! [fB,lD,lC,lB,yaK,A,Ne]
 have lp:∀(a b c d f g h i j k l o:Option PV) (st:SO),yay (yc T 23) (.n 14) fB [V,V,V] [p0,a,b,AA (.int w),c,d,f,g,h,i,j,k,l,AA V,o] st=.nx [p0,a,b,AA (.int w),c,d,f,g,h,i,j,k,l,AA V,AA V] st:=λa b c d f g h i j k l o st=>by
  rw[zk (ρ1:=[p0,a,b,AA (.int w),c,d,f,g,h,i,j,k,l,AA V,AA V]) rfl,one,ag,zk (ρ1:=[p0,a,b,AA (.int w),c,d,f,g,h,i,j,k,l,AA V,AA V]) rfl,one,ag,zk (ρ1:=[p0,a,b,AA (.int w),c,d,f,g,h,i,j,k,l,AA V,AA V]) rfl,one,ag,zr]
 have hb:lD=(match lD with
  |.cons a (.cons b (.cons c (.cons d (.cons e (.cons (.for t i _) r)))))=>.cons a (.cons b (.cons c (.cons d (.cons e (.cons (.for t i fB) r)))))
  |x=>x):=rfl
 have bt:∀(i j:Nat) (a b:PV) (ρ:IC.Env),yC (.t [i,j]) (.tp AC [a,b]) ρ=AA ((ρ.set i (AA a)).set j (AA b)):=λ_ _ _ _ _=>rfl;have ad:∀a b c d:PV,yq .add (.tp AC [a,b]) (.tp AC [c,d])=AA (.tp AC [a,b,c,d]):=λ_ _ _ _=>rfl;have hd:yQ sr sm e=.tp AC [.str "led",.str (yag sr),.str (yag sm),.int e]:=rfl;rw[hd]at C R;refine⟨AA (.tp AC [.str "led",.str (yag sr),.str (yag sm),.int e]),AA (.int (xrd sr (2^(w*n)) x%2^(w*N))),AA (.int (ovr sm (2^(w*N)) (xrd sr (2^(w*n)) x))),AA (.int ((w*N:Nat):Int)),AA V,AA V,?_⟩;rw[hb]
 clear hb A Ne one
 generalize PV.tp AC ((yh (2^w) N (xrd sr (2^(w*n)) x%2^(w*N))).map .int)=ws at *;generalize bi (xrd sr (2^(w*n)) x%2^(w*N)==0)=z1 at *;generalize bi (decide ((2:Int)^(w*N)<=2*(xrd sr (2^(w*n)) x%2^(w*N))))=z2 at *;generalize xrd sr (2^(w*n)) x%2^(w*N)=v at *;generalize ovr sm (2^(w*N)) (xrd sr (2^(w*n)) x)=o at *;generalize xrd sr (2^(w*n)) x=u at *;generalize (2:Int)^(w*N)=P at *;generalize ((w*N:Nat):Int)=K at *;generalize yag sr=S1 at *;generalize yag sm=S2 at *;simp! [lD,lC,lB,yaK,g,bt,hnN,m1,e5,m2,e6,e7,ad,<-hD,C,R,lp]
theorem zfU(sr:Bool)(h1:-3<=e)(h2:e<=4)(hw:4<=w)(hw2:w<=16)(he:e=N-n)(hn:1<=n)(hn2:n<=4)(hN:1<=N)(hN2:N<=8)(x0:0<=x)(x1:x<2^(w*n))(q8 q9 q10 q11 q12 q13 q14:Option PV):
  ∃r8 r9 r10 r11 r12 r13 r14,exs (yc T 23) [p0,AA (.loc m),p2,AA (.int w),AA (.int n),AA (.int e),AA (.int x),AA (.str (yag sr)),q8,q9,q10,q11,q12,q13,q14] st lC=.nx [p0,AA (.loc m),p2,AA (.int w),AA (.int n),AA (.int e),AA (.int x),AA (.str (yag sr)),r8,r9,r10,r11,r12,r13,r14] st:=by
 let⟨a9,a10,a11,a12,a13,a14,f1⟩:=zhu (m:=m) (p0:=p0) (p2:=p2) (st:=st) sr AC h1 h2 hw hw2 he hn hn2 hN hN2 x0 x1 q9 q10 q11 q12 q13 q14;let⟨b9,b10,b11,b12,b13,b14,f2⟩:=zhu (m:=m) (p0:=p0) (p2:=p2) (st:=st) sr AB h1 h2 hw hw2 he hn hn2 hN hN2 x0 x1 a9 a10 a11 a12 a13 a14;have lp:yay (yc T 23) (.n 8) lD [.str (yag AC),.str (yag AB)] [p0,AA (.loc m),p2,AA (.int w),AA (.int n),AA (.int e),AA (.int x),AA (.str (yag sr)),q8,q9,q10,q11,q12,q13,q14] st=.nx [p0,AA (.loc m),p2,AA (.int w),AA (.int n),AA (.int e),AA (.int x),AA (.str (yag sr)),AA (.str (yag AB)),b9,b10,b11,b12,b13,b14] st:=by
  rw[zk (ρ1:=[p0,AA (.loc m),p2,AA (.int w),AA (.int n),AA (.int e),AA (.int x),AA (.str (yag sr)),AA (.str (yag AC)),q9,q10,q11,q12,q13,q14]) rfl,f1,ag,zk (ρ1:=[p0,AA (.loc m),p2,AA (.int w),AA (.int n),AA (.int e),AA (.int x),AA (.str (yag sr)),AA (.str (yag AB)),a9,a10,a11,a12,a13,a14]) rfl,f2,ag,zr]
 have lp:yay (yc T 23) (.n 8) lD [.str "plain",.str "signed"] _ st=_:=lp
 have hb:lC=(match lC with
  |.cons (.for t i _) r=>.cons (.for t i lD) r
  |x=>x):=rfl
 refine⟨_,_,_,_,_,_,_,(?_:_=Fl.nx [p0,AA (.loc m),p2,AA (.int w),AA (.int n),AA (.int e),AA (.int x),AA (.str (yag sr)),AA (.str (yag AB)),b9,b10,b11,b12,b13,b14] st)⟩;rw[hb];generalize yag sr=S at *;simp! [lC,lB,yaK,lp]
theorem zfQ(hns:ns.length<=1000)(h:Drw ns m st)(q3 q4 q5 q6 q7 q8 q9 q10 q11 q12 q13 q14:Option PV):
  ∃st' r3 r4 r5 r6 r7 r8 r9 r10 r11 r12 r13 r14,Drw ns m st'/\exs (yc T 23) [p0,AA (.loc m),p2,q3,q4,q5,q6,q7,q8,q9,q10,q11,q12,q13,q14] st lB=.nx [p0,AA (.loc m),p2,r3,r4,r5,r6,r7,r8,r9,r10,r11,r12,r13,r14] st':=by
 let⟨w,n,N,e,x,s1,a1,a2,a3,a4,a5,a6,a7,a8,a9,x0,x1,h1,e1⟩:=zgI 18 hns h;have e1:yc T 23 zaP [.loc m] st=.ok (.tp AC [.int w,.int n,.int e,.int x]) s1:=e1;let⟨c8,c9,c10,c11,c12,c13,c14,f1⟩:=zfU (m:=m) (p0:=p0) (p2:=p2) (st:=s1) AC a7 a8 a1 a2 a9 a3 a4 a5 a6 x0 x1 q8 q9 q10 q11 q12 q13 q14;let⟨d8,d9,d10,d11,d12,d13,d14,f2⟩:=zfU (m:=m) (p0:=p0) (p2:=p2) (st:=s1) AB a7 a8 a1 a2 a9 a3 a4 a5 a6 x0 x1 c8 c9 c10 c11 c12 c13 c14;have lp:yay (yc T 23) (.n 7) lC [.str (yag AC),.str (yag AB)] [p0,AA (.loc m),p2,AA (.int w),AA (.int n),AA (.int e),AA (.int x),q7,q8,q9,q10,q11,q12,q13,q14] s1=.nx [p0,AA (.loc m),p2,AA (.int w),AA (.int n),AA (.int e),AA (.int x),AA (.str (yag AB)),d8,d9,d10,d11,d12,d13,d14] s1:=by
  rw[zk (ρ1:=[p0,AA (.loc m),p2,AA (.int w),AA (.int n),AA (.int e),AA (.int x),AA (.str (yag AC)),q8,q9,q10,q11,q12,q13,q14]) rfl,f1,ag,zk (ρ1:=[p0,AA (.loc m),p2,AA (.int w),AA (.int n),AA (.int e),AA (.int x),AA (.str (yag AB)),c8,c9,c10,c11,c12,c13,c14]) rfl,f2,ag,zr]
 have lp:yay (yc T 23) (.n 7) lC [.str "plain",.str "signed"] _ s1=_:=lp
 have hb:lB=(match lB with
  |.cons a (.cons (.for t i _) r)=>.cons a (.cons (.for t i lC) r)
  |x=>x):=rfl
 have bt:∀(a b c d:PV) (ρ:IC.Env),yC (.t [3,4,5,6]) (.tp AC [a,b,c,d]) ρ=AA ((((ρ.set 3 (AA a)).set 4 (AA b)).set 5 (AA c)).set 6 (AA d)):=λ_ _ _ _ _=>rfl;refine⟨s1,_,_,_,_,_,_,_,_,_,_,_,_,h1,(?_:_=Fl.nx [p0,AA (.loc m),p2,AA (.int w),AA (.int n),AA (.int e),AA (.int x),AA (.str (yag AB)),d8,d9,d10,d11,d12,d13,d14] s1)⟩;rw[hb];simp! [lB,yaK,e1,bt,lp]
end
theorem zf1(l:List Int):nLs [PV.scr (l.map .int)]=true:=by simp[nLs,nL,noLocs_ints]
theorem zjj(ns:List Int)(hns:ns.length<=63):yc T 24 ziK [.scr (ns.map .int)] []=.ok (.bl AB) []:=by
 let⟨o,e1,ho⟩:=fresh 22 ns hns [];have h0:Drw ns 0 [o]:=⟨0,0,AC,by lia,by rw[ho];rfl⟩;have e1:yc T 23 zdU [.scr (ns.map .int)] []=.ok (.loc 0) [o]:=e1;have hl:ns.length<=1000:=by lia
 let⟨s1,a3,a4,a5,a6,a7,a8,a9,a10,a11,a12,a13,a14,h1,f1⟩:=zfQ (p0:=AA (.scr (ns.map .int))) (p2:=AA (.int 0)) hl h0 AD AD AD AD AD AD AD AD AD AD AD AD;let⟨s2,b3,b4,b5,b6,b7,b8,b9,b10,b11,b12,b13,b14,h2,f2⟩:=zfQ (p0:=AA (.scr (ns.map .int))) (p2:=AA (.int 1)) hl h1 a3 a4 a5 a6 a7 a8 a9 a10 a11 a12 a13 a14;have hr:ybE (.int 2)=AA [.int 0,.int 1]:=rfl;have lp:yay (yc T 23) (.n 2) lB [.int 0,.int 1] [AA (.scr (ns.map .int)),AA (.loc 0),AD,AD,AD,AD,AD,AD,AD,AD,AD,AD,AD,AD,AD] [o]=.nx [AA (.scr (ns.map .int)),AA (.loc 0),AA (.int 1),b3,b4,b5,b6,b7,b8,b9,b10,b11,b12,b13,b14] s2:=by
  rw[zk (ρ1:=[AA (.scr (ns.map .int)),AA (.loc 0),AA (.int 0),AD,AD,AD,AD,AD,AD,AD,AD,AD,AD,AD,AD]) rfl,f1,ag,zk (ρ1:=[AA (.scr (ns.map .int)),AA (.loc 0),AA (.int 1),a3,a4,a5,a6,a7,a8,a9,a10,a11,a12,a13,a14]) rfl,f2,ag,zr]
 have hT:T ziK=AA ⟨1,15,AB,yaK.body⟩:=rfl
 have hb:yaK.body=(match yaK.body with
  |.cons a (.cons (.for t i _) r)=>.cons a (.cons (.for t i lB) r)
  |x=>x):=rfl
 rw[zc hT rfl rfl (zf1 ns)];dsimp only;rw[hb];simp! [yaK,e1,hr,lp,zl9]
end WK
namespace WK
open PySem L2 IC
theorem walk{l:Ec}{q:A5}{loose:List AR}{XP:(AR->Option AF)->Az->Prop}{YP:Ai->Az->Prop}{d:DefRec}{K:Params->AE}(hn:l.most=AA 63)(hdf:d.params.defaults=[])
  (hY:∀(w:Ai) (h:Az),YP w h->(K w.params).In h)
  (F:∀(w:Ai) (mg:AR->Option AF) (fa:AI) (h:Az),(K w.params).In h->h.Ns mainGlobals mg->mg d.name=AA (.ref fa) ->
   ∃fd:BA,(∀(s:AJ) (u:AF),FN s fd ⟨[u],[]⟩ [("_law_script",u)])/\∀base:Az,(K w.params).In base->base.Ns mainGlobals mg->yaB l.prog w (K w.params) mg base (CX1 l.prog w) (2*24) fa fd ["_law_script"] (spX (K w.params) (yc T 24) ziK)):
  G3 q loose XP YP l.row.toRowW d [] (λf vs=>Gc f vs):=
 L2.walk_of (n:=63) (k:=2*24) (x:="_law_script") (CX:=λw=>CX1 l.prog w) (sp:=λw=>spX (K w.params) (yc T 24) ziK) hn (by decide) hdf ⟨rfl,by decide,by decide⟩ hY F (λw H a ns hl _ hS=>zg0 zjj hl hS) λ_ _ _ _ _ z=>znW z
end WK
end
open PySem PySem.W PyProof.Rows
theorem PySem.Challenge.cw_widewords_k49_led_reckoned_holds : PySem.Challenge.rw_widewords_k49_led_reckoned.Holds := by
 refine hh.hd (by rfl) (by rfl) (by rfl) ?_
 k_fill
 refine WK.walk (l:=PySem.Challenge.rw_widewords_k49_led_reckoned) rfl rfl (λw h Y=>Y) ?F
 case F =>
  intro w mg fa h KX G hmg
  refine' L2.all_mk2 (t:=WK.tbQ) KX G hmg ?R ?B ?D WK.kb_all ?Ml WK.ok_all WK.T_ok (L:=101) rfl 24
  case R =>
   repeat' (first|exact trivial|apply And.intro|(refine' L2.rowFn ?a9 ?l9 ?c9 ?p9 ?b9;(case a9|l9|c9|p9=>k_is);(case b9=>((repeat intro _);first|rfl|kernel_rfl)))|(refine' L2.rowMe ?z9 ?a9 ?i9 ?l9 ?c9 ?p9 ?b9;(case z9=>((first|rw[WK.cn_20]|rw[WK.cn_21]);k_is));(case a9|i9|l9|c9|p9=>k_is);(case b9=>((repeat intro _);first|rfl|kernel_rfl)))|(refine' L2.rowIni ?z9 ?a9 ?i9 ?l9 ?c9 ?p9 ?b9 ?m9 ?k9;(case z9=>((first|rw[WK.cn_20]|rw[WK.cn_21]);k_is));(case a9|i9|l9|c9|p9=>k_is);(case b9=>((repeat intro _);first|rfl|kernel_rfl));(case m9|k9=>k_is))|(refine' L2.rowFd ?a9 ?l9 ?c9 ?p9 ?d9 ?e9 ?v9;(case a9|l9|c9|p9|d9=>k_is);(case e9=>rfl);(case v9=>(repeat first|exact .nil|refine .cons ⟨_,rfl⟩ ?_))))
  case B=>kernel_rfl
  case D =>
   repeat' (first|exact trivial|apply And.intro|intro _|(refine' L2.gd_mk KX G ?a9 ?l9 ?s9 ?r9 ?n9;(case a9|l9=>k_is);(case s9=>rfl);(case r9=>(repeat first|exact .nil|refine L2.con_row (by kernel_rfl) ?_));(case n9=>decide +kernel)))
  case Ml =>
   repeat' (first|exact trivial|apply And.intro|(refine' L2.gdf_mk KX G ?a9 ?l9 ?r9 ?n9;(case a9|l9=>k_is);(case r9=>(repeat first|exact .nil|refine L2.frow_cons (by kernel_rfl) ?_));(case n9=>decide +kernel)))
