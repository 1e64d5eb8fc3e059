import PyProof.Rows.All
import Wide.All
import OpenK.AllK
import Wide.FinOn
import Lean
import PyProof.EqAt
import PyProof.EqKinds
import PyProof.TupleCall
import PySem.Challenge.RW_rotaward_k34_cases_left
set_option compiler.extract_closed false
theorem k! {p:Prop} (h:p:=by decide +kernel):p:=h
namespace PySem.W.Fast
def tw15465643504143371264:=0
def tw1483050576411904096:=0
def tw4308958753158163552:=0
def tw12870753574189085824:=0
def tw3535738463897761920:=0
def tw9586233379186727040:=0
def tw8064858447925794944:=0
def tw2630232394135188672:=0
def tw9602608807159551232:=0
def tw11923547733076718880:=0
def tw6775190021545980256:=0
def tw18193151385110510944:=0
def tw4243394431427040608:=0
def tw5187759743527759232:=0
def tw15739710923183078784:=0
def tw15342364040298119584:=0
def tw13951001229171823040:=0
def tw11675525846556034496:=0
def tw16586123319993237984:=0
def tw7225501691026343552:=0
def tw5903523045196443264:=0
def tw13144819200997874464:=0
def tw9437076118368156448:=0
def tw11699512487023476576:=0
def tw10307173757401083776:=0
def tw7485565697056709568:=0
def tw9010623487251615712:=0
def tw9203448045515740128:=0
def tw10186246984775852097:=0
def tw11737337676536334497:=0
def tw3637576488941979841:=0
def tw11560009865224757473:=0
def tw17205701908840665313:=0
def tw8096365497566583041:=0
def tw12725592706897293601:=0
def tw2192382509030533441:=0
def tw3703335718961473857:=0
def tw7824662740543700321:=0
def tw7340208769489201601:=0
def tw5163906856423322145:=0
def tw9712589375791576641:=0
def tw5267461940421916225:=0
def tw17158459123938223777:=0
def tw1890228221498973857:=0
def tw6188703970644675265:=0
def tw5562600607778259649:=0
def tw17252975915363179297:=0
def tw11460055278664884065:=0
def tw1654278748750399329:=0
def tw2236072679243576161:=0
def tw17469222591402753921:=0
def tw4047608924410756993:=0
def tw12683226512735664130:=0
def tw4818838507661168738:=0
def tw10661679790669752482:=0
def tw10289242894433016994:=0
def tw8701431221330547906:=0
def tw8977715936961605858:=0
def tw9086261145074846050:=0
def tw18308090270671844898:=0
def tw2427904987466516034:=0
def tw1881281487040610914:=0
def tw1657577618495686274:=0
def tw16851705706348300994:=0
def tw1399058969262021314:=0
def tw9186472033456710338:=0
def tw9804083563875533538:=0
def tw4982151497220331266:=0
def tw8584072244030620418:=0
def tw9315035070698670850:=0
def tw10996301338591414050:=0
def tw10726679431734369090:=0
def tw8460419900109280098:=0
def tw7205737332904352642:=0
def tw18264958332469907362:=0
def tw6094299057115609026:=0
def tw13142920854199338978:=0
def tw16576753522641150083:=0
def tw2065565144198688899:=0
def tw1795627809453399267:=0
def tw10671625633639426371:=0
def tw17584395504031628707:=0
def tw11678104263874773539:=0
def tw1734429761824789027:=0
def tw10013163072235372131:=0
def tw4125817725654854275:=0
def tw2052168765466356451:=0
def tw481152992311976675:=0
def tw13600359176108362467:=0
def tw14395220969914993443:=0
def tw6481623051295403811:=0
def tw4829959238090805059:=0
def tw1185059204871254883:=0
def tw11894059689526303651:=0
def tw9606422755614184387:=0
def tw16152175433662062563:=0
def tw7987633289114106884:=0
def tw14333178620868206756:=0
def tw5078595603418751204:=0
def tw1583221858625388804:=0
def tw17972492464803001604:=0
def tw2637889955050606852:=0
def tw3000846698920176900:=0
def tw15999445161084258596:=0
def tw17883180030879544644:=0
def tw3475272479571265892:=0
def tw3914173500027794788:=0
def tw16425127320993593700:=0
def tw9472067897543818596:=0
def tw3911800588161666500:=0
def tw13298890923863270948:=0
def tw13974328613615880772:=0
def tw12506107981636775492:=0
def tw14475477781334530660:=0
def tw18266257810098527844:=0
def tw522913383004677732:=0
def tw3193328024370660996:=0
def tw7945855197832129188:=0
def tw17924789494988483236:=0
def tw9813967048123637412:=0
def tw2517921845628292836:=0
def tw8716344867263115140:=0
def tw8395343175890482116:=0
def tw7266895186735618020:=0
def tw18204581936063410148:=0
def tw14045712434124996645:=0
def tw219596408889448645:=0
def tw13914118818242313413:=0
def tw9089517700553318629:=0
def tw12450596019708873029:=0
def tw9047451505742099973:=0
def tw13257548595048478341:=0
def tw10919634191102055109:=0
def tw7472264560340581061:=0
def tw689103851005858533:=0
def tw9440174568212610821:=0
def tw13379222335414231813:=0
def tw14246538494247697221:=0
def tw15678621724298590053:=0
def tw4747274126669369285:=0
def tw10139333130779114502:=0
def tw691236885013971974:=0
def tw9143801247573809190:=0
def tw12239832372149572646:=0
def tw9431379582587163750:=0
def tw321508891543485638:=0
def tw16295272444242834726:=0
def tw5709148912377938342:=0
def tw18301115984807090598:=0
def tw12559271591210118598:=0
def tw16076961153650291142:=0
def tw14931637357124097510:=0
def tw11052466551981146630:=0
def tw8988427933868860966:=0
def tw8208122803711264326:=0
def tw4595748797284246086:=0
def tw2691447392865130150:=0
def tw5542601798215440038:=0
def tw13802672781362394854:=0
def tw10378115021801438118:=0
def tw2428671813179335590:=0
def tw8717943219656257446:=0
def tw11618545903191393222:=0
def tw11922572129365599174:=0
def tw2592690259094135750:=0
def tw13133946744019613638:=0
def tw7437732581238243270:=0
def tw6865201229818922982:=0
def tw7226650489668348935:=0
def tw10228275044736581639:=0
def tw4116670560187277319:=0
def tw14687536531578711079:=0
def tw14356534588784093223:=0
def tw2485267175258546279:=0
def tw15293025294892884103:=0
def tw4242163517097659623:=0
def tw4339658271517979911:=0
def tw13594090867432609063:=0
def tw7673035771996267815:=0
def tw15317744431982296391:=0
def tw9844738830961478983:=0
def tw12054986657354148295:=0
def tw2441154812964690407:=0
def tw9198999458457188871:=0
def tw580253420824707623:=0
def tw4377405182081744519:=0
def tw4166105433522982727:=0
def tw9650391916180000583:=0
def tw2699514510674360135:=0
def tw13608708542607853447:=0
def tw16240257883406781319:=0
def tw12784736111752616903:=0
def tw13391870180102723527:=0
def tw14494615013452454887:=0
def tw10580552218538939400:=0
def tw9203337946073601064:=0
def tw11400734932493466760:=0
def tw6244269142953255112:=0
def tw6567533147362494728:=0
def tw11678471606276039944:=0
def tw15705659672264033576:=0
def tw11173989066374120776:=0
def tw13546774700261936488:=0
def tw17916636575791545736:=0
def tw9456759103011259816:=0
def tw7458184940025544104:=0
def tw13007465082339792328:=0
def tw2763495577403787752:=0
def tw13934478360426839592:=0
def tw3363576848667510344:=0
def tw17795055559774671464:=0
def tw16768082011590198952:=0
def tw10307522400757826248:=0
def tw16165682880200941288:=0
def tw10257324252241903368:=0
def tw5047263613413991304:=0
def tw1121209823806328776:=0
def tw12603559402791756744:=0
def tw12777221013061466056:=0
def tw14191921824635263976:=0
def tw20207891349854184:=0
def tw7529382132096770057:=0
def tw12765774532295928841:=0
def tw4061265720140382217:=0
def tw4068697144280368137:=0
def tw3329240776388343817:=0
def tw15213404641262904361:=0
def tw13235685802181428297:=0
def tw15737849645736420425:=0
def tw520917345142503497:=0
def tw7243843857011865673:=0
def tw14730810060467938409:=0
def tw11523513198152440937:=0
def tw15121179770286099657:=0
def tw13200590758540026089:=0
def tw4216994830467459305:=0
def tw2727166732893366537:=0
def tw7203629474058287401:=0
def tw5224704270138169641:=0
def tw1467878687203545417:=0
def tw13742748156253470025:=0
def tw3571591390400580073:=0
def tw7785547368556674601:=0
def tw15763165130018805289:=0
def tw8280888348193821257:=0
def tw18330254152007675465:=0
def tw8535315285603411593:=0
def tw12831086786692339337:=0
def tw1056825850002747081:=0
def tw3961532415183563465:=0
def tw525380546188624617:=0
def tw17177609011079836489:=0
def tw5271496726203021161:=0
def tw2925819036921686921:=0
def tw7865545593837241257:=0
def tw6535735386380724137:=0
def tw12117358373627528137:=0
def tw16429471043560551369:=0
def tw5985525485897039817:=0
def tw15226407484796448745:=0
def tw9416705415042707433:=0
def tw4626740855900527593:=0
def tw8536437332905658410:=0
def tw17030728426487560266:=0
def tw9821328598697160778:=0
def tw10482903001248403594:=0
def tw17319366223433288842:=0
def tw13117846692647783626:=0
def tw5165771528474141962:=0
def tw11255790445014474122:=0
def tw5738483645791254954:=0
def tw13486864823953816010:=0
def tw3666393331758706218:=0
def tw10441282834564306474:=0
def tw6213243347746240074:=0
def tw5640960526917130858:=0
def tw8142320377934624426:=0
def tw7560029732025865994:=0
def tw8226030739628047114:=0
def tw3577990042013919018:=0
def tw11559184358302185354:=0
def tw2421090425001924522:=0
def tw13942762754099634090:=0
def tw6678614313820370890:=0
def tw12527298832710560714:=0
def tw7231908864273873866:=0
def tw11996193202806850538:=0
def tw16272033334723875851:=0
def tw5989497901547818027:=0
def tw5236627707008905259:=0
def tw14179738660337000523:=0
def tw158409045004865611:=0
def tw13076589718903505035:=0
def tw15352951525623658635:=0
def tw7629460630090499339:=0
def tw5205879730145763691:=0
def tw9164794925847712139:=0
def tw14488250528931611083:=0
def tw4956453992050992619:=0
def tw11821630672390271467:=0
def tw9419924212383674891:=0
def tw1937058910897315371:=0
def tw1989673606336549451:=0
def tw7287504599449626219:=0
def tw3220620425975083659:=0
def tw4820665160947945099:=0
def tw11918590449588691595:=0
def tw17493294472583252651:=0
def tw17420073266440755883:=0
def tw2974720804402202315:=0
def tw4854529254591716043:=0
def tw2405359372339633899:=0
def tw11504246786532833035:=0
def tw5733777662067630891:=0
def tw14072355952309465931:=0
def tw9053155100406209387:=0
def tw12996653041473136555:=0
def tw3476401222934931371:=0
def tw11608970603774618636:=0
def tw5230217155298586636:=0
def tw18358297649498269772:=0
def tw11867378624013294700:=0
def tw12691832242463422604:=0
def tw6379971710870867116:=0
def tw3252617034016354668:=0
def tw8464000875213451628:=0
def tw11126411956499620268:=0
def tw14254874403008157100:=0
def tw15603286473547742796:=0
def tw5501248888855965292:=0
def tw10602745453601096364:=0
def tw5399528438460780204:=0
def tw13735407134222382828:=0
def tw14812479317759289100:=0
def tw12917919129479729996:=0
def tw14986622712763138924:=0
def tw10761866645648233388:=0
def tw10271932373203683405:=0
def tw12764568070404069485:=0
def tw2894805767549305997:=0
def tw5758196198319067469:=0
def tw1129625730635700589:=0
def tw18262736401173637485:=0
def tw12112298708265930125:=0
def tw4314235601823584781:=0
def tw12112050318989085229:=0
def tw11994027541537473069:=0
def tw4244448700264881837:=0
def tw16435153264877631149:=0
def tw6840024833414403789:=0
def tw15140535640114886381:=0
def tw8979556367971646253:=0
def tw3558845254433490893:=0
def tw4106320534075659245:=0
def tw18114996067926506477:=0
def tw18122314956666506254:=0
def tw15130131547881037838:=0
def tw18084314547177176110:=0
def tw17042118186542516270:=0
def tw11078841240489127982:=0
def tw14578545224184036526:=0
def tw15457586322907876622:=0
def tw6684817333824969038:=0
def tw7766776029546471758:=0
def tw9163019893637969262:=0
def tw14772815101411833198:=0
def tw6067695655684311662:=0
def tw10345861676630395502:=0
def tw688127868730177134:=0
def tw16542688867784829582:=0
def tw614939712929139374:=0
def tw2799998818888351406:=0
def tw6286869730363316974:=0
def tw10546791130534353742:=0
def tw17186869197930251086:=0
def tw3692144951472022382:=0
def tw15636717833980487566:=0
def tw6033963429933234062:=0
def tw6504986669676086158:=0
def tw8521139235237133230:=0
def tw5843107369992463310:=0
def tw6710324333341364206:=0
def tw4728615439701376015:=0
def tw16063761416108685359:=0
def tw11750090771242736687:=0
def tw5347907128447595567:=0
def tw16466892014983461999:=0
def tw975312591685228687:=0
def tw13004783439721923727:=0
def tw9286366632207619247:=0
def tw13325297823252522159:=0
def tw5115383787582507215:=0
def tw14867143112541092047:=0
def tw15581476570882950383:=0
def tw10041109015285935407:=0
def tw13054309317289358703:=0
def tw11364560309723128207:=0
def tw4431761222742982031:=0
def tw11935752550363572751:=0
def tw1508131301323263535:=0
def tw7571470257989313135:=0
def tw11995176368631519919:=0
def tw7251910341693697743:=0
def tw11945751333682689775:=0
def tw10688834202957243151:=0
def tw9876109135911125807:=0
def tw5316288523546281903:=0
def tw8006120266399243215:=0
def tw1989086521902541807:=0
def tw454286095427471343:=0
def tw9096688532279167024:=0
def tw12325865287604395120:=0
def tw330809869169050736:=0
def tw9124598069694139600:=0
def tw11313221769113937104:=0
def tw11629873527042133264:=0
def tw5713941267425396016:=0
def tw12726700557991705904:=0
def tw10149418085113596272:=0
def tw12106021841899929008:=0
def tw765817763344787920:=0
def tw12648498963556967888:=0
def tw15878410341408558576:=0
def tw7734255136323208752:=0
def tw11312175820358020656:=0
def tw1141386677887995440:=0
def tw18418756451170948688:=0
def tw4252869394995078800:=0
def tw14471242492837722800:=0
def tw12438523447476515568:=0
def tw16034386546961295120:=0
def tw6559878857942102800:=0
def tw2895075697910763440:=0
def tw15508711351279757264:=0
def tw13677704174046109713:=0
def tw8279034952163426353:=0
def tw15219419113897975985:=0
def tw17958564355946420433:=0
def tw14448720144235316465:=0
def tw7529679996537168113:=0
def tw15490463543175315729:=0
def tw7421319385358270737:=0
def tw5636613810242366769:=0
def tw10562056333565191473:=0
def tw8016466904564027729:=0
def tw9841671951465054609:=0
def tw13939968429433139633:=0
def tw14414137853053243889:=0
def tw17865037586583516657:=0
def tw1964151613927092753:=0
def tw13163746646938979889:=0
def tw8600849260285957681:=0
def tw4507020342878723729:=0
def tw6001936238520237809:=0
def tw17004228809893409553:=0
def tw3889984613569139537:=0
def tw6372975681365237617:=0
def tw12765176661821886353:=0
def tw7597757842158853041:=0
def tw4044082481397830609:=0
def tw13921624362340501457:=0
def tw18344110821256287282:=0
def tw15233939931451654290:=0
def tw14441481418696791218:=0
def tw13119071589815760050:=0
def tw14462133093540340946:=0
def tw8872473234473235794:=0
def tw166931274140847474:=0
def tw8185528415582608754:=0
def tw1157507284852067730:=0
def tw17884443230282070450:=0
def tw9012151525180667314:=0
def tw12879632659796021714:=0
def tw15970212895062335986:=0
def tw597924612049371666:=0
def tw9172295103375843858:=0
def tw521180806445295218:=0
def tw17657157074404888242:=0
def tw5368413766212265906:=0
def tw4135976533643803699:=0
def tw6129575487293665363:=0
def tw4770378663567374419:=0
def tw2232653290756224115:=0
def tw6479947972570570867:=0
def tw4682880089290448051:=0
def tw9948899621430968563:=0
def tw10068031288381849875:=0
def tw17468341270099836211:=0
def tw17982358906520924499:=0
def tw12790044041837836723:=0
def tw3427365815348664819:=0
def tw11784074788441895411:=0
def tw15290560732657453587:=0
def tw18209081353912830483:=0
def tw8685260265144870419:=0
def tw1271226034898596435:=0
def tw7125669437791075923:=0
def tw14356856383214421651:=0
def tw16233268611922145939:=0
def tw10890422501060150995:=0
def tw8653862728606814931:=0
def tw10735864819115673491:=0
def tw10303150353848706995:=0
def tw12072749391799187379:=0
def tw7390669120793857044:=0
def tw4589627207452190740:=0
def tw8969758672916507668:=0
def tw4040934333860314132:=0
def tw15929224613125819444:=0
def tw8116498020471876660:=0
def tw8903104438130643028:=0
def tw9764610699904851028:=0
def tw14913380920765541524:=0
def tw2193843649042420948:=0
def tw17387470526228638964:=0
def tw10675145601845006580:=0
def tw8908100517668254068:=0
def tw13150897359934001588:=0
def tw6720495837122672084:=0
def tw12502587529438034420:=0
def tw18001727286513326612:=0
def tw13529287396058689044:=0
def tw2879946600495404596:=0
def tw9495721023929439796:=0
def tw6757230184733862452:=0
def tw6374550271718958676:=0
def tw5510004929303606868:=0
def tw7984510301519094388:=0
def tw15538625337245769332:=0
def tw17452066338053074612:=0
def tw18335234592177341108:=0
def tw3407860622134526676:=0
def tw11695571145636181908:=0
def tw3926747777702929300:=0
def tw2803261736074618804:=0
def tw1952921674748780500:=0
def tw15534533386349288469:=0
def tw8037150113064202261:=0
def tw1780900328630604821:=0
def tw8131502126774817877:=0
def tw5346713696263436405:=0
def tw10798843185530302581:=0
def tw14976654986380806421:=0
def tw4851237251310750005:=0
def tw16355471165546901813:=0
def tw16992797080223595829:=0
def tw5635216316419819829:=0
def tw2723032949001973109:=0
def tw13407551281875442069:=0
def tw4600594202574624213:=0
def tw8976998117014716885:=0
def tw11039047581409214965:=0
def tw17950352438335370741:=0
def tw4318375674441665077:=0
def tw5994020443128031925:=0
def tw18254157014654697173:=0
def tw2832915249108029205:=0
def tw13023544344662413109:=0
def tw891745796057591605:=0
def tw10461574014371378069:=0
def tw16003657889084809109:=0
def tw16838815240980115381:=0
def tw17115917236132929461:=0
def tw14593711895554591701:=0
def tw5894504404938065909:=0
def tw10059976569020891190:=0
def tw6000467426917410966:=0
def tw14778132453436468406:=0
def tw7888718382447043830:=0
def tw10551851319069114646:=0
def tw17519098156890280214:=0
def tw14283923378394486038:=0
def tw3363018429573163446:=0
def tw1357844298327233974:=0
def tw14346116680263721430:=0
def tw13545272742538422742:=0
def tw4328074070369047030:=0
def tw2293372129997247990:=0
def tw10088813196906104374:=0
def tw10847757382310609494:=0
def tw326567157626864278:=0
def tw3454603693349082838:=0
def tw11429298497091166934:=0
def tw17625205315990949654:=0
def tw8413616172607627094:=0
def tw12098233990052566902:=0
def tw8273378252994997174:=0
def tw260728256056885174:=0
def tw9927339038028812246:=0
def tw16771880976668400630:=0
def tw7296707232553586678:=0
def tw6107781495265479799:=0
def tw3127164946156629143:=0
def tw15221746435795278999:=0
def tw18387857745661342903:=0
def tw11924511038744473815:=0
def tw12286488877791116503:=0
def tw10804754256139235607:=0
def tw5603344724778899735:=0
def tw9024768443303847223:=0
def tw9530469555655125335:=0
def tw1830356503958938967:=0
def tw17543284195271759223:=0
def tw15116834894851353207:=0
def tw9578544519062212247:=0
def tw15569217930648844951:=0
def tw12374787222938659511:=0
def tw12388688479919434487:=0
def tw5754408426872838935:=0
def tw14528504487602561815:=0
def tw17315686397662098199:=0
def tw13371078152739880759:=0
def tw12695204301632232279:=0
def tw17849985271213739863:=0
def tw12032678668731495287:=0
def tw7927372449944997815:=0
def tw12857771806911794135:=0
def tw8900419457151324151:=0
def tw12786075688736909368:=0
def tw2042671205738311736:=0
def tw16328458609814534200:=0
def tw18375583355332647000:=0
def tw4193795631898946648:=0
def tw3771870711360504024:=0
def tw6207793344237883736:=0
def tw5212406407477404024:=0
def tw12628907779691810200:=0
def tw16282368648627480984:=0
def tw13452919626382235032:=0
def tw15353457518291718584:=0
def tw3928540935680078264:=0
def tw16659754553366053336:=0
def tw327677796039735800:=0
def tw15595058689909573144:=0
def tw16934730717667488312:=0
def tw17180983613631582840:=0
def tw7103821990178788024:=0
def tw6364156686546599672:=0
def tw7253598608598824760:=0
def tw7417836473885756248:=0
def tw4567091159211682648:=0
def tw4074429149699890008:=0
def tw12998256400344486840:=0
def tw16722957416280533944:=0
def tw3038972078692229209:=0
def tw18061082900754067545:=0
def tw17054105501277696281:=0
def tw2848830283929698617:=0
def tw5157268360600106361:=0
def tw4493975815842806201:=0
def tw15947335869445400057:=0
def tw10865202372455121401:=0
def tw14554453513132533241:=0
def tw7366003254108624409:=0
def tw15408942023313816153:=0
def tw17703372856040818297:=0
def tw3707183534099355257:=0
def tw14522334015044133561:=0
def tw8790649116660303641:=0
def tw10956241340003029817:=0
def tw14056243374853885785:=0
def tw17410894230434807641:=0
def tw7349819125578109817:=0
def tw10436049076847482745:=0
def tw6159753588355176313:=0
def tw12143027654033727385:=0
def tw18292657885145751513:=0
def tw12608398653759160346:=0
def tw8714654344224960538:=0
def tw16088321616848434330:=0
def tw16233722858737124506:=0
def tw6335276809925081274:=0
def tw11879039440049772794:=0
def tw3115172237682365722:=0
def tw17473241397100323098:=0
def tw604123260201208122:=0
def tw1449376866583873850:=0
def tw17302899190234404250:=0
def tw14834948178542930362:=0
def tw171260797930786266:=0
def tw1451392178701272570:=0
def tw988335830033148442:=0
def tw14372154521633282682:=0
def tw8994835809394609850:=0
def tw6365098944389520090:=0
def tw5902429945757076218:=0
def tw13325194239970176762:=0
def tw13463803684336322330:=0
def tw3454891031519902490:=0
def tw5383285486955610970:=0
def tw16531698594947614682:=0
def tw10446682296979833850:=0
def tw4765624273920479226:=0
def tw1398743219218925595:=0
def tw10592140563289860219:=0
def tw4716185914303088763:=0
def tw1176525725102694587:=0
def tw9176566040757867803:=0
def tw13578373909643436347:=0
def tw10293268813791000891:=0
def tw17092391344179490139:=0
def tw5101317012688456091:=0
def tw5781450492115176859:=0
def tw13174529121012086203:=0
def tw10700579295846224379:=0
def tw3573294735216251419:=0
def tw6113554562420282939:=0
def tw18241760478823225915:=0
def tw17562268936616422971:=0
def tw6010159851665903259:=0
def tw1433220354490389179:=0
def tw13831583329496465083:=0
def tw15098411047993745243:=0
def tw17864572542778693467:=0
def tw9014708769000572923:=0
def tw10477225605932545052:=0
def tw11335082751617999900:=0
def tw677784596178906172:=0
def tw17021509235156814908:=0
def tw17476584823537500252:=0
def tw9913647234694285436:=0
def tw1282765950254174364:=0
def tw1834298261248681148:=0
def tw13250073266359545148:=0
def tw4521977683841349948:=0
def tw10584268295846631868:=0
def tw17326105180026449340:=0
def tw14212514339421241852:=0
def tw12781971790480087612:=0
def tw16143435566448738908:=0
def tw18187232896483123900:=0
def tw3924810697931285212:=0
def tw379721118518893340:=0
def tw7188265737927188252:=0
def tw6581012670368116540:=0
def tw13118051414056243132:=0
def tw14106206993479687100:=0
def tw14646269206037513180:=0
def tw14826766649210494972:=0
def tw14259794820848744637:=0
def tw294673150188465373:=0
def tw12119205428762559709:=0
def tw8240356507495647517:=0
def tw16300524819495922045:=0
def tw6749574362996269501:=0
def tw1944848814811587037:=0
def tw9715431527058893309:=0
def tw10598479704997685789:=0
def tw14211563476845817469:=0
def tw4411951517190232733:=0
def tw8472249419688725149:=0
def tw10909368636005678749:=0
def tw1852768491911544605:=0
def tw11363488977050299197:=0
def tw6289457415329467229:=0
def tw4474631458149946205:=0
def tw16945995294895700861:=0
def tw393083974710853533:=0
def tw222787032240692125:=0
def tw3371908180426192861:=0
def tw2442592040472568829:=0
def tw3560603732150366205:=0
def tw12949276761025786910:=0
def tw3841966432670000158:=0
def tw9607762815170425918:=0
def tw2419393126162567230:=0
def tw14167140682400796766:=0
def tw5137779732995050814:=0
def tw2640241295169545534:=0
def tw3056069516006947230:=0
def tw14204207344691269118:=0
def tw15837494581418351102:=0
def tw13573927783267838:=0
def tw17638994144405401246:=0
def tw17025205068850237182:=0
def tw16289815385900779294:=0
def tw11531414874113791806:=0
def tw9537312990540241758:=0
def tw14298761258788042654:=0
def tw12772312246616252447:=0
def tw8454811998203362335:=0
def tw17536444534862992479:=0
def tw10752906498989112511:=0
def tw7134148156798200031:=0
def tw10188642655082285311:=0
def tw14127347229967810847:=0
def tw1771682101885337887:=0
def tw1003079416659829183:=0
def tw15031695041539733951:=0
def tw12569599014039596511:=0
def tw3898354814310597087:=0
def tw272404147127370207:=0
def tw14703137684824238591:=0
def tw7234152719694162431:=0
def tw4310964512121199135:=0
def tw13551272702621368863:=0
def tw9689032122159089183:=0
def tw13434304521358600735:=0
def tw9982135804050486879:=0
def tw12178180157792274015:=0
def tw3036922636017559135:=0
def tw668754552670879391:=0
def tw9335050400379048703:=0
def tw3701465867842105087:=0
def tw8452790802552220479:=0
def tw14367954836091592575:=0
def tw17590689188524822431:=0
def tw3403718229297600415:=0
def tw1672824769319542687:=0
def tw11369460826555251431:=0
end PySem.W.Fast
open PySem.W (instObj methodObj lookIn plainGet hasDictIn findIn handedIn plainGet_of isFn plainOver takerIn makesIn typeIn emptyDict keepIn specialIn takesIn mroIn kitOne kia_one kitx_list kitx_dict callWith_K mg_of mg_none_of)
set_option Elab.async false
set_option linter.all false
set_option maxRecDepth 100000
namespace L2
open PySem PySem.Spec PyProof.Rows
noncomputable abbrev Key:=Sum Int Str
noncomputable def lO:Key→Value→Bool
 | .inl k,v=>Value.isInt k v
 | .inr x,v=>Value.isStrOf x v
noncomputable def Iv (w:World):Key→Int
 | .inl k=>hashInt k
 | .inr x=>hashStr w x
theorem cF:∀ {k:Key} {v:Value},lO k v=true→(∃i t,k=Sum.inl i∧v=Value.int i t)∨(∃x t,k=Sum.inr x∧v=Value.str x t)
 | .inl i,v,h=>by
  obtain⟨t,e⟩:=Value.isInt_shape (k:=i) (v:=v) h
  exact .inl ⟨i,t,rfl,e⟩
 | .inr x,v,h=>by
  obtain⟨t,e⟩:=Value.isStrOf_shape (x:=x) (v:=v) h
  exact .inr ⟨x,t,rfl,e⟩
theorem um (i:Int) (t:Tok):lO (.inl i) (.int i t)=true:=by simp [lO,Value.isInt]
theorem uq (x:Str) (t:Tok):lO (.inr x) (.str x t)=true:=by simp [lO,Value.isStrOf]
theorem CP (a b:Int):decide ((Sum.inl a:Key)=Sum.inl b)=(a == b):=by
 by_cases e:a=b
 ·subst e;simp
 ·have h:¬ (Sum.inl a:Key)=Sum.inl b:=fun q=>e (Sum.inl.inj q)
  rw [decide_eq_false h]
  exact (beq_eq_false_iff_ne.mpr e).symm
theorem CQ (a b:Str):decide ((Sum.inr a:Key)=Sum.inr b)=decide (a=b):=by
 by_cases e:a=b
 ·subst e;simp
 ·have h:¬ (Sum.inr a:Key)=Sum.inr b:=fun q=>e (Sum.inr.inj q)
  rw [decide_eq_false h,decide_eq_false e]
theorem CV (a:Int) (b:Str):decide ((Sum.inl a:Key)=Sum.inr b)=false:=decide_eq_false (fun q=>nomatch q)
theorem CZ (a:Str) (b:Int):decide ((Sum.inr a:Key)=Sum.inl b)=false:=decide_eq_false (fun q=>nomatch q)
noncomputable def bD (prog:Program) (w:World):PySem.KeyKind prog w Key where
 is:=lO
 hash:=Iv w
 inj:=fun v a b ha hb=>by
  rcases cF ha with ⟨i,t,rfl,rfl⟩ | ⟨x,t,rfl,rfl⟩
  ·rcases cF hb with ⟨j,u,rfl,e⟩ | ⟨y,u,rfl,e⟩
   ·injection e with e1 _;rw [e1]
   ·exact nomatch e
  ·rcases cF hb with ⟨j,u,rfl,e⟩ | ⟨y,u,rfl,e⟩
   ·exact nomatch e
   ·injection e with e1 _;rw [e1]
 byValue:=fun k v h=>by
  rcases cF h with ⟨i,t,rfl,rfl⟩ | ⟨x,t,rfl,rfl⟩ <;> rfl
 pyHash:=fun hv h=>by
  rcases cF hv with ⟨i,t,rfl,rfl⟩ | ⟨x,t,rfl,rfl⟩
  ·exact wpAny_pyHash_int h
  ·exact wpAny_pyHash_str h
 eqBool:=fun hu hv h=>by
  rcases cF hu with ⟨i,t,rfl,rfl⟩ | ⟨x,t,rfl,rfl⟩
  ·rcases cF hv with ⟨j,u,rfl,rfl⟩ | ⟨y,u,rfl,rfl⟩
   ·rw [CP] at h;exact wpAny_eqBool_int h
   ·rw [CV] at h;exact SeqAt.EqAt.int_str i t y u _ _ _ _ h
  ·rcases cF hv with ⟨j,u,rfl,rfl⟩ | ⟨y,u,rfl,rfl⟩
   ·rw [CZ] at h;exact SeqAt.EqAt.str_int x t j u _ _ _ _ h
   ·rw [CQ] at h;exact wpAny_eqBool_str h
 «strs»:=fun k x t v h=>by
  rcases cF h with ⟨i,u,rfl,e⟩ | ⟨y,u,rfl,e⟩
  ·exact nomatch e
  ·injection e with e1 _
   subst e1
   cases v <;> rfl
theorem oV (prog:Program) (w:World) (i:Int) (t:Tok):(bD prog w).is (.inl i) (.int i t)=true:=um i t
theorem oW (prog:Program) (w:World) (x:Str) (t:Tok):(bD prog w).is (.inr x) (.str x t)=true:=uq x t
end L2
namespace L2
open PySem PySem.Spec PyProof.Rows
inductive V where
 | non | bl (b:Bool) | int (i:Int) | str (x:Str) | byt (b:Array UInt8) | flt (b:UInt64) | ref (a:Addr) | ty (n:String)
 deriving DecidableEq
noncomputable def RelV:V→Value→Prop
 | .non,u=>u=Value.none
 | .bl b,u=>u=Value.bool b
 | .int i,u=>∃t,u=Value.int i t
 | .str x,u=>∃t,u=Value.str x t
 | .byt b,u=>∃t,u=Value.bytes b t
 | .flt b,u=>∃t,u=Value.float b t
 | .ref a,u=>u=Value.ref a
 | .ty n,u=>u=Value.type n
noncomputable abbrev Vals:List V→List Value→Prop:=Paired RelV
theorem Vals.length {xs:List V} {us:List Value} (r:Vals xs us):xs.length=us.length:=Paired.length r
theorem Vals.get:∀ {xs:List V} {us:List Value} {i:Nat} {x:V},Vals xs us→xs[i]? = some x→∃u,us[i]? = some u∧RelV x u
 | _,_,_,_,.nil,e=>by simp at e
 | _,_,0,_,.cons r _,e=>by simp at e;subst e;exact⟨_,rfl,r⟩
 | _,_,i + 1,x,.cons _ t,e=>by
  obtain⟨u,h1,h2⟩:=Vals.get (i:=i) (x:=x) t (by simpa using e)
  exact⟨u,by simpa using h1,h2⟩
theorem Vals.append:∀ {xs ys:List V} {us ws:List Value},Vals xs us→Vals ys ws→Vals (xs ++ ys) (us ++ ws)
 | _,_,_,_,.nil,s=>s
 | _,_,_,_,.cons r t,s=>.cons r (Vals.append t s)
theorem Vals.take:∀ {xs:List V} {us:List Value} (n:Nat),Vals xs us→Vals (xs.take n) (us.take n)
 | _,_,0,_=>.nil
 | _,_,_ + 1,.nil=>.nil
 | _,_,n + 1,.cons r t=>.cons r (Vals.take n t)
theorem Vals.drop:∀ {xs:List V} {us:List Value} (n:Nat),Vals xs us→Vals (xs.drop n) (us.drop n)
 | _,_,0,r=>r
 | _,_,_ + 1,.nil=>.nil
 | _,_,n + 1,.cons _ t=>Vals.drop n t
noncomputable def RelO:Option V→Option Value→Prop
 | some v,some u=>RelV v u
 | none,none=>True
 | _,_=>False
noncomputable def KV {κ:Type}:List (κ×V)→List (κ×Value)→Prop:=Paired fun (p:κ×V) (q:κ×Value)=>p.1=q.1∧RelV p.2 q.2
noncomputable def kV:Key→V
 | .inl i=>.int i
 | .inr x=>.str x
inductive HO where
 /-- a list -/
 | lst (xs:List V)
 /-- a tuple (never changes) -/
 | tup (xs:List V)
 /-- a dict whose keys are ints and texts;one whose keys are tuples of ints and texts (the empty one is both) -/
 | dK (kvs:List (Key×V)) | dT (kvs:List (List Key×V))
 /-- a set of ints: its members,its size -/
 | set (S:Int→Bool) (n:Nat)
 /-- an instance of the class at C,its dict at dx,its attributes -/
 | ins (C dx:Addr) (fs:List (Str×V))
 /-- the dict of the instance at x -/
 | own (x:Addr)
 /-- the dict of an exception -/
 | xd (fs:List (Str×V))
 /-- a bound method,f of x -/
 | met (f x:Addr)
 /-- a range object lo,lo + 1,.. below hi -/
 | rng (lo hi:Int)
 /-- a thing that is known to the object (the script;a dict while a loop walks it): read,never written while it is so -/
 | frz (o:Obj) (u:HO)
 /-- a code object's table -/
 | tbl (ps:Array Value)
 /-- any other thing,by what is true of its one object (a def of one's own: SetO a S n:=HO.ext fun h=>..) -/
 | ext (φ:Heap→Prop)
noncomputable abbrev Hp:=Addr→Option HO
noncomputable def upd (H:Hp) (a:Addr) (o:HO):Hp:=fun b=>if b=a then some o else H b
theorem aj {H:Hp} {a:Addr} {o:HO}:upd H a o a=some o:=by unfold upd;rw [if_pos rfl]
theorem aG {H:Hp} {a b:Addr} {o:HO} (h:b≠a):upd H a o b=H b:=by unfold upd;rw [if_neg h]
theorem cg {H:Hp} {a:Addr} {o u:HO}:upd (upd H a o) a u=upd H a u:=by
 funext b;unfold upd;split <;> rfl
theorem GK {H:Hp} {a b:Addr} {o u:HO} (h:H a=some o) (h':H b=some u) (d:o≠u):a≠b:=by
 intro e;subst e;rw [h] at h'; exact d (Option.some.inj h')
theorem aH {H:Hp} {a b:Addr} {o:HO} (h:H a=some o) (h':H b=none):a≠b:=by
 intro e;subst e;rw [h] at h'; cases h'
section
variable (P:Program) (w:World)
noncomputable def ObjOk (H:Hp) (h:Heap) (a:Addr):HO→Prop
 | .lst xs=>xs.length≤sizeLine∧∃ (its:List Value) (n:Nat),Vals xs its∧h.get? a=some { cls:=.type "list",data:=.seq its.toArray n }
 | .tup xs=>xs.length≤sizeLine∧∃its:List Value,Vals xs its∧IsTup h a its.toArray
 | .dK kvs=>kvs.length≤sizeLine∧(a == sysModules)=false∧∃vs,KV kvs vs∧h.DictOf (bD P w) a vs
 | .dT kvs=>kvs.length≤sizeLine∧(a == sysModules)=false∧∃xs:List (List Key×Addr×Value),
   Paired (fun (p:List Key×V) (q:List Key×Addr×Value)=>p.1=q.1∧H q.2.1=some (.tup (p.1.map kV))∧RelV p.2 q.2.2) kvs xs ∧
   ∃o es ep,h.get? a=some o∧o.ExactDict∧o.data=.dict es ep∧es.toList=xs.map (entryOfKey (tupleKind (bD P w)))∧(xs.map (·.1)).Nodup
 | .set S n=>h.SetOf (intKind P w) a S n
 | .ins C dx fs=>H dx=some (.own a)∧fs.length≤1000∧dx≠a∧h.get? a=some (instObj C dx) ∧
   ∃mA,h.Ns1 dx mA∧(∀f,RelO (fs.lookup f) (mA f))∧PySem.Within mA (fs.map (·.1))
 | .own _=>∃o,h.get? a=some o
 | .xd fs=>∃mA,h.Ns1 a mA∧∀f,RelO (fs.lookup f) (mA f)
 | .rng lo hi=>∃t u v,h.get? a=some { cls:=.type "range",data:=.fields #[.int lo t,.int hi u,.int 1 v] }
 | .frz o u=>h.get? a=some o∧ObjOk H h a u
 | .tbl ps=>h.get? a=some { cls:=.none,data:=.fields ps }
 | .met f x=>h.get? a=some (methodObj (.ref f) (.ref x))
 | .ext φ=>φ h∧(∃o,h.get? a=some o)∧∀h1 h2:Heap,φ h1→(∀o,h1.get? a=some o→h2.get? a=some o)→φ h2
noncomputable def HOk (H:Hp) (h:Heap):Prop:=∀a o,H a=some o→ObjOk P w H h a o
end
section
variable {P:Program} {w:World} {H H':Hp} {h h':Heap} {a:Addr} {o:HO}
theorem ObjOk.lt (x:ObjOk P w H h a o):a < h.objs.size:=by
 cases o with
 | lst xs=>obtain⟨_,_,_,_,e⟩:=x;exact Heap.lt_size e
 | tup xs=>obtain⟨_,_,_,p⟩:=x;exact p.lt
 | dK kvs=>obtain⟨_,_,_,_,o,_,_,e,_⟩:=x;exact Heap.lt_size e
 | dT kvs=>obtain⟨_,_,_,_,o,_,_,e,_⟩:=x;exact Heap.lt_size e
 | set S n=>obtain⟨o,_,_,_,e,_⟩:=x;exact Heap.lt_size e
 | ins C dx fs=>obtain⟨_,_,_,e,_⟩:=x;exact Heap.lt_size e
 | own y=>obtain⟨_,e⟩:=x;exact Heap.lt_size e
 | xd fs=>obtain⟨_,⟨_,_,_,e,_⟩,_⟩:=x;exact Heap.lt_size e
 | rng lo hi=>obtain⟨_,_,_,e⟩:=x;exact Heap.lt_size e
 | frz ob u=>obtain⟨e,_⟩:=x;exact Heap.lt_size e
 | tbl ps=>exact Heap.lt_size (show h.get? a=some _ from x)
 | met f y=>exact Heap.lt_size (show h.get? a=some _ from x)
 | ext φ=>obtain⟨_,⟨_,e⟩,_⟩:=x;exact Heap.lt_size e
theorem Paired.mapP {α β:Type} {F G:α→β→Prop}:∀ {l₁:List α} {l₂:List β},Paired F l₁ l₂→(∀a b,F a b→G a b)→Paired G l₁ l₂
 | _,_,.nil,_=>.nil
 | _,_,.cons r t,f=>.cons (f _ _ r) (Paired.mapP t f)
theorem ObjOk.stay (x:ObjOk P w H h a o) (k:∀b u,(b=a∨H b=some (.own a))→h.get? b=some u→h'.get? b=some u)
  (ho:∀b,H b=some (.own a)→H' b=some (.own a)) (ht:∀b xs,H b=some (.tup xs)→H' b=some (.tup xs)):ObjOk P w H' h' a o:=by
 induction o with
 | lst xs=>obtain⟨z,its,n,r,e⟩:=x;exact⟨z,its,n,r,k _ _ (.inl rfl) e⟩
 | tup xs=>obtain⟨z,its,r,ob,e,c⟩:=x;exact⟨z,its,r,ob,k _ _ (.inl rfl) e,c⟩
 | dK kvs=>obtain⟨z,y,vs,r,ob,es,ep,e,c⟩:=x;exact⟨z,y,vs,r,ob,es,ep,k _ _ (.inl rfl) e,c⟩
 | dT kvs =>
  obtain⟨z,y,xs,r,ob,es,ep,e,c⟩:=x
  exact⟨z,y,xs,Paired.mapP r fun p q z=>⟨z.1,ht _ _ z.2.1,z.2.2⟩,ob,es,ep,k _ _ (.inl rfl) e,c⟩
 | set S n=>obtain⟨ob,es,ep,t,e,c⟩:=x;exact⟨ob,es,ep,t,k _ _ (.inl rfl) e,c⟩
 | ins C dx fs =>
  obtain⟨d,z,ne,e,mA,⟨od,es,ep,e2,c⟩,r⟩:=x
  exact⟨ho _ d,z,ne,k _ _ (.inl rfl) e,mA,⟨od,es,ep,k _ _ (.inr d) e2,c⟩,r⟩
 | own y=>obtain⟨ob,e⟩:=x;exact⟨ob,k _ _ (.inl rfl) e⟩
 | xd fs=>obtain⟨mA,⟨od,es,ep,e,c⟩,r⟩:=x;exact⟨mA,⟨od,es,ep,k _ _ (.inl rfl) e,c⟩,r⟩
 | rng lo hi=>obtain⟨t,u,v,e⟩:=x;exact⟨t,u,v,k _ _ (.inl rfl) e⟩
 | frz ob u ih=>obtain⟨e,q⟩:=x;exact⟨k _ _ (.inl rfl) e,ih q⟩
 | tbl ps =>
  have e:h.get? a=some { cls:=.none,data:=.fields ps }:=x
  show h'.get? a=some { cls:=.none,data:=.fields ps }
  exact k a _ (.inl rfl) e
 | met f y =>
  have e:h.get? a=some (methodObj (.ref f) (.ref y)):=x
  show h'.get? a=some (methodObj (.ref f) (.ref y))
  exact k a _ (.inl rfl) e
 | ext φ=>obtain⟨p,⟨o,e⟩,st⟩:=x;exact⟨st _ _ p fun o q=>k _ _ (.inl rfl) q,⟨o,k _ _ (.inl rfl) e⟩,st⟩
theorem HOk.lt (x:HOk P w H h) (e:H a=some o):a < h.objs.size:=(x a o e).lt
theorem HOk.fresh (x:HOk P w H h) (e:h.objs.size≤a):H a=none:=by
 cases q:H a with
 | none=>rfl
 | some u=>exact absurd (Nat.lt_of_lt_of_le (x.lt q) e) (Nat.lt_irrefl _)
theorem HOk.kept (x:HOk P w H h) (k:∀b u,h.get? b=some u→h'.get? b=some u):HOk P w H h':=fun a o e =>
 (x a o e).stay (fun b u _ q=>k b u q) (fun _ q=>q) fun _ _ q=>q
theorem HOk.laid (x:HOk P w H h) (k:∀b u,h.get? b=some u→h'.get? b=some u) (hp:h.objs.size≤a) (new:ObjOk P w (upd H a o) h' a o):HOk P w (upd H a o) h':=fun b u e=>by
 have hn:=x.fresh hp
 by_cases hb:b=a
 ·subst hb;rw [aj] at e;cases e;exact new
 ·rw [aG hb] at e
  exact (x b u e).stay (fun c v _ q=>k c v q) (fun c q=>by rw [aG (aH q hn)];exact q) fun c xs q=>by rw [aG (aH q hn)];exact q
end
noncomputable def Rd (H:Hp) (a:Addr) (u:HO):Prop:=H a=some u∨∃o,H a=some (.frz o u)
theorem Rd.ok {P:Program} {w:World} {H:Hp} {h:Heap} {a:Addr} {u:HO} (r:Rd H a u) (x:HOk P w H h):ObjOk P w H h a u:=by
 rcases r with r | ⟨o,r⟩
 ·exact x a u r
 ·obtain⟨_,q⟩:=x a _ r
  exact q
noncomputable def Mut:Option HO→Prop
 | some (.lst _)=>True
 | some (.dK _)=>True
 | some (.dT _)=>True
 | some (.set _ _)=>True
 | some (.ins _ _ _)=>True
 | some (.ext _)=>True
 | _=>False
section
variable {P:Program} {w:World} {H:Hp} {h h':Heap} {x e:Addr} {o':HO}
theorem HOk.write (ok:HOk P w H h) (mu:Mut (H x)) (he:e=x∨H e=some (.own x)) (k:∀b u,b≠e→h.get? b=some u→h'.get? b=some u) (heo:∃u,h'.get? e=some u)
  (new:ObjOk P w (upd H x o') h' x o'):HOk P w (upd H x o') h':=fun b u q=>by
 have nown:∀c y,H c=some (.own y)→c≠x:=fun c y r z=>by subst z;rw [r] at mu;exact mu
 have ntup:∀c xs,H c=some (.tup xs)→c≠x:=fun c xs r z=>by subst z;rw [r] at mu;exact mu
 by_cases hb:b=x
 ·subst hb;rw [aj] at q;cases q;exact new
 ·rw [aG hb] at q
  by_cases hbe:b=e
  ·have q':H b=some (.own x):=by
    rcases he with z | z
    ·exact absurd (hbe.trans z) hb
    ·rw [hbe];exact z
   rw [q] at q'; cases q'
   obtain⟨v,hv⟩:=heo
   exact⟨v,by rw [hbe];exact hv⟩
  ·refine (ok b u q).stay (fun c v hc r=>k c v ?_ r) (fun c r=>by rw [aG (nown c b r)];exact r) fun c xs r=>by rw [aG (ntup c xs r)];exact r
   rcases hc with rfl | hc
   ·exact hbe
   ·rintro rfl
    rcases he with z | z
    ·exact nown c b hc z
    ·rw [hc] at z;cases z;exact hb rfl
end
structure Un (fs ex:List Addr) (H H':Hp) (h h':Heap):Prop where
 keep:∀b o,h.get? b=some o→H b=none→b∉fs→b∉ex→h'.get? b=some o
 slot:∀b o,h.get? b=some o→H b=none→b∈fs→b∉ex→∃sl,h'.get? b=some { o with slots:=sl }
 free:∀b o,h.get? b=some o→H b=none→b∉ex→H' b=none
 there:∀b o,h.get? b=some o→b∉ex→∃o',h'.get? b=some o'
 tups:∀b xs,H b=some (.tup xs)→H' b=some (.tup xs)
 frzs:∀b o u,H b=some (.frz o u)→H' b=some (.frz o u)
 tbls:∀b ps,H b=some (.tbl ps)→∃more,H' b=some (.tbl (ps ++ more))
section
variable {fs fs' ex ex':List Addr} {H H1 H2:Hp} {h h1 h2 h':Heap} {a x e:Addr} {o:HO}
theorem Un.any (u:Un fs ex H H1 h h1) {b:Addr} {ob:Obj} (q:h.get? b=some ob) (n:H b=none) (hx:b∉ex):∃sl,h1.get? b=some { ob with slots:=sl }:=by
 by_cases hb:b∈fs
 ·exact u.slot b ob q n hb hx
 ·exact⟨ob.slots,u.keep b ob q n hb hx⟩
theorem Un.kept (k:∀b u,h.get? b=some u→h'.get? b=some u):Un fs ex H H h h' :=
 ⟨fun b ob q _ _ _=>k b ob q,fun b ob q _ _ _=>⟨ob.slots,k b ob q⟩,fun _ _ _ n _=>n,fun b ob q _=>⟨ob,k b ob q⟩,fun _ _ q=>q,fun _ _ _ q=>q,fun _ ps q=>⟨#[],by rw [q];simp⟩⟩
theorem Un.refl:Un fs ex H H h h:=Un.kept fun _ _ q=>q
theorem Un.laid (k:∀b u,h.get? b=some u→h'.get? b=some u) (hp:h.objs.size≤a) (hn:H a=none):Un fs ex H (upd H a o) h h' where
 keep:=fun b u q _ _ _=>k b u q
 slot:=fun b u q _ _ _=>⟨u.slots,k b u q⟩
 free:=fun b u q n _=>by rw [aG (Nat.ne_of_lt (Nat.lt_of_lt_of_le (Heap.lt_size q) hp))];exact n
 there:=fun b u q _=>⟨u,k b u q⟩
 tups:=fun b xs q=>by rw [aG (aH q hn)];exact q
 frzs:=fun b u xs q=>by rw [aG (aH q hn)];exact q
 tbls:=fun b ps q=>⟨#[],by rw [aG (aH q hn),q];simp⟩
theorem Un.write (mu:Mut (H x)) (he:e=x∨H e=some (.own x)) (k:∀b u,b≠e→h.get? b=some u→h'.get? b=some u) (heo:∃u,h'.get? e=some u):Un fs ex H (upd H x o) h h':=by
 have hx:∀b,H b=none→b≠x:=fun b n z=>by subst z;rw [n] at mu;exact mu
 have hb:∀b,H b=none→b≠e:=fun b n z=>by
  subst z
  rcases he with r | r
  ·exact hx b n r
  ·rw [n] at r;cases r
 have hm:∀b u,H b=some u→¬ Mut (some u)→b≠x:=fun b u q nm z=>by subst z;rw [q] at mu;exact nm mu
 refine⟨fun b u q n _ _=>k b u (hb b n) q,fun b u q n _ _=>⟨u.slots,k b u (hb b n) q⟩,fun b u q n _=>by rw [aG (hx b n)];exact n,fun b u q _=>?_,
  fun b xs q=>by rw [aG (hm b _ q fun z=>z)];exact q,fun b u xs q=>by rw [aG (hm b _ q fun z=>z)];exact q,fun b ps q=>⟨#[],by rw [aG (hm b _ q fun z=>z),q];simp⟩⟩
 by_cases hbe:b=e
 ·subst hbe;exact heo
 ·exact⟨u,k b u hbe q⟩
end
noncomputable def trk (h:Heap) (H:Hp):List Addr:=(List.range h.objs.size).filter fun a=>(H a).isSome
noncomputable def m8 (h:Heap) (H:Hp):Heap:=PySem.W.hideAll h (trk h H)
theorem uw (h:Heap) (H:Hp):(m8 h H).objs.size=h.objs.size:=PySem.W.hideAll_size _ _
theorem wO {h:Heap} {H:Hp} {b:Addr} {o:Obj} (e:h.get? b=some o) (n:H b=none):(m8 h H).get? b=some o :=
 PySem.W.hideAll_get _ e fun hm=>by
  have q:(H b).isSome=true:=(List.mem_filter.mp hm).2
  rw [n] at q;simp at q
theorem zm {h:Heap} {H:Hp} {b:Addr} {o:Obj} (e:(m8 h H).get? b=some o):h.get? b=some o∧H b=none:=by
 have e':h.get? b=some o:=PySem.W.of_hideAll (trk h H) e
 refine⟨e',?_⟩
 cases q:H b with
 | none=>rfl
 | some x =>
  have hm:b∈trk h H:=List.mem_filter.mpr ⟨List.mem_range.mpr (Heap.lt_size e'),by simp [q]⟩
  have z:(m8 h H).get? b=none:=PySem.W.hideAll_none (trk h H) hm
  rw [z] at e;cases e
end L2
namespace L2
open PySem PySem.Spec PyProof.Rows
structure Mod (K:PySem.W.Frag) (mg:Str→Option Value) (base:Heap):Prop where
 kin:K.In base
 glob:base.Ns mainGlobals mg
 blt:∃mb,base.Ns builtinsNs mb∧∀x:Str,x ≠ "__name__" → mb x=bootBuiltins x
 nolimit:base.NoLimit
structure Cx where
 prog:Program
 w:World
 K:PySem.W.Frag
 mg:Str→Option Value
 base:Heap
 A:Around
 N:List Str
 s₀:Shared
 H₀:Hp
 env:Env
 outer:List Env
 stack:List Env
 ex:List Addr
 fn:Str→Bool
 calm:Bool
 pn:List (Addr×Obj)
 xe:Value→Shared→Prop
noncomputable def frs (l:List Env):List Addr:=l.filterMap (·.frame)
noncomputable abbrev Cx.fs (X:Cx):List Addr:=frs X.outer
noncomputable def Vis (sc:Scope) (x:Str):Prop:=sc.names.lookup x=some .local∨sc.names.lookup x=some .cell∨sc.names.lookup x=some .free
noncomputable def Loc (sc:Scope) (x:Str):Prop:=sc.names.lookup x=some .local∨sc.names.lookup x=some .cell
noncomputable def Look (env:Env) (h:Heap) (m:Str→Option Value) (x:Str) (u:Value):Prop :=
 (env.kindOf x=some .local∧m x=some u)∨((env.kindOf x=some .cell∨env.kindOf x=some .free)∧∃c,env.cells.lookup x=some c∧h.IsCell c (some u))
structure Cx.Ok (X:Cx):Prop where
 mod:Mod X.K X.mg X.base
 kind:X.env.scope.kind=.function
 glob:X.env.globals=mainGlobals
 blt:X.env.builtins=builtinsNs
 above:X.s₀.heap.objs.size≤X.env.locals
 inj:∀x y c,X.env.cells.lookup x=some c→X.env.cells.lookup y=some c→x=y
 has:∀x,(X.env.kindOf x=some .cell∨X.env.kindOf x=some .free)→∃c,X.env.cells.lookup x=some c
 cab:∀x c,X.fn x=true→X.env.cells.lookup x=some c→X.s₀.heap.objs.size≤c
 hd:X.calm=true→X.A.handled=none
 frames:X.A.frames=some X.stack
 stk:X.stack=X.outer∨(X.stack=X.env :: X.outer∧X.env.frame=some X.env.locals)
 exf:∀b∈X.ex,b≠X.env.locals∧∀x c,X.env.cells.lookup x=some c→c≠b
 bs:∀b o,X.base.get? b=some o→X.s₀.heap.get? b=some o∧X.H₀ b=none
 bsz:X.base.objs.size≤X.s₀.heap.objs.size
 noex:∀b o,X.base.get? b=some o→b∉X.ex
 exfs:∀b∈X.ex,b∉X.fs
 funs:X.s₀.heap.FunFrames X.base X.outer
 frf:∀b∈X.fs,X.H₀ b=none
structure Inv (X:Cx) (pins:List (Addr×Obj)) (σ:List (Option V)) (H:Hp) (s:Shared):Prop where
 ok:X.Ok
 os:s.os=X.s₀.os
 bare:AllBare s.gens
 base:Un X.fs X.ex X.H₀ H X.s₀.heap s.heap
 loc:∃m,s.heap.Ns X.env.locals m∧∀ (i:Nat) (x:Str) (v:V),X.N[i]? = some x→σ[i]? = some (some v)→Vis X.env.scope x→∃u,RelV v u∧Look X.env s.heap m x u
 cell:∀x c,X.env.cells.lookup x=some c→∃v,s.heap.IsCell c v
 free:H X.env.locals=none
 freeC:∀x c,X.env.cells.lookup x=some c→H c=none
 pin:∀p∈X.pn ++ pins,s.heap.get? p.1=some p.2∧H p.1=none∧p.1≠X.env.locals∧p.1∉X.fs∧∀v,p.2.data≠.cell v
 hok:HOk X.prog X.w H s.heap
 len:σ.length=X.N.length
section
variable {X:Cx} {pins:List (Addr×Obj)} {σ:List (Option V)} {H H':Hp} {s:Shared} {h':Heap}
theorem Cx.Ok.nofr (ok:X.Ok) {b:Addr} {o:Obj} (e:X.base.get? b=some o):b∉X.fs:=fun hb=>by
 have:=(ok.funs.mem hb).1
 rw [e] at this;cases this
theorem Inv.bs (I:Inv X pins σ H s):∀b o,X.base.get? b=some o→s.heap.get? b=some o∧H b=none:=fun b o e =>
 ⟨I.base.keep b o (I.ok.bs b o e).1 (I.ok.bs b o e).2 (I.ok.nofr e) (I.ok.noex b o e),I.base.free b o (I.ok.bs b o e).1 (I.ok.bs b o e).2 (I.ok.noex b o e)⟩
theorem Inv.bk (I:Inv X pins σ H s):∀b o,X.base.get? b=some o→s.heap.get? b=some o:=fun b o e=>(I.bs b o e).1
theorem Inv.mod (I:Inv X pins σ H s):Mod X.K X.mg X.base:=I.ok.mod
theorem Inv.kIn (I:Inv X pins σ H s):X.K.In s.heap:=I.ok.mod.kin.keeps I.bk
theorem Inv.lt (I:Inv X pins σ H s):X.env.locals < s.heap.objs.size:=let ⟨_,hn,_⟩:=I.loc;hn.lt
theorem Inv.sz (I:Inv X pins σ H s):X.s₀.heap.objs.size≤s.heap.objs.size:=Nat.le_trans I.ok.above (Nat.le_of_lt I.lt)
theorem Inv.nofs (I:Inv X pins σ H s) {a:Addr} (h:s.heap.objs.size≤a):a∉X.fs:=fun hb=>by
 obtain⟨_,o,ho,_⟩:=I.ok.funs.mem hb
 exact absurd (Nat.lt_of_lt_of_le (Heap.lt_size ho) (Nat.le_trans I.sz h)) (Nat.lt_irrefl _)
theorem Inv.cne (I:Inv X pins σ H s):∀x c,X.env.cells.lookup x=some c→c≠X.env.locals:=fun x c e z=>by
 obtain⟨v,o,ho,hd⟩:=I.cell x c e
 obtain⟨m,⟨o',es,ep,ho',hd',_⟩,_⟩:=I.loc
 rw [z,ho'] at ho;cases ho;rw [hd'] at hd;cases hd
theorem Inv.funs (I:Inv X pins σ H s):s.heap.FunFrames X.base X.outer:=by
 have all:∀ (l:List Env),(∀b∈frs l,b∈X.fs)→X.s₀.heap.FunFrames X.base l→s.heap.FunFrames X.base l:=by
  intro l
  induction l with
  | nil=>intro _ _;trivial
  | cons env r ih =>
   intro hs hl
   obtain⟨hk,⟨L,o,hf,hn,ho,hd⟩,hr⟩:=hl
   have hL:L∈X.fs:=hs L (by unfold frs;rw [List.filterMap_cons,hf];exact List.mem_cons_self)
   obtain⟨sl,e⟩:=I.base.slot L o ho (I.ok.frf L hL) hL fun z=>I.ok.exfs L z hL
   exact⟨hk,⟨L,_,hf,hn,e,hd⟩,ih (fun b hb=>hs b (by unfold frs;rw [List.filterMap_cons,hf];exact List.mem_cons_of_mem _ hb)) hr⟩
 exact all X.outer (fun _ hb=>hb) I.ok.funs
theorem Inv.stack (I:Inv X pins σ H s):s.heap.FunFrames X.base X.stack:=by
 rcases I.ok.stk with e | ⟨e,hf⟩
 ·rw [e];exact I.funs
 ·rw [e]
  obtain⟨m,hn,_⟩:=I.loc
  refine .cons (by rw [I.ok.kind];decide) hf hn ?_ I.funs
  exact Heap.get?_none_of_le (Nat.le_trans I.ok.bsz I.ok.above)
theorem Inv.stkSub (I:Inv X pins σ H s):∀b∈frs X.stack,b∈X.env.locals :: X.fs:=fun b hb=>by
 rcases I.ok.stk with e | ⟨e,hf⟩
 ·rw [e] at hb;exact List.mem_cons_of_mem _ hb
 ·rw [e] at hb
  unfold frs at hb
  rw [List.filterMap_cons,hf] at hb
  exact hb
theorem Inv.stkFree (I:Inv X pins σ H s):∀b∈frs X.stack,H b=none:=fun b hb=>by
 rcases List.mem_cons.mp (I.stkSub b hb) with e | hb
 ·rw [e];exact I.free
 ·obtain⟨_,o,ho,_⟩:=I.ok.funs.mem hb
  exact I.base.free b o ho (I.ok.frf b hb) fun z=>I.ok.exfs b z hb
theorem Inv.step {g':Array GenState} {t':Nat} {d':Drawn} {ch:List Addr} (I:Inv X pins σ H s)
  (hch:∀b∈ch,(b∈X.ex∨X.s₀.heap.objs.size≤b)∧b≠X.env.locals∧(∀x c,X.env.cells.lookup x=some c→c≠b)∧∀p∈X.pn ++ pins,p.1≠b)
  (keep:∀b o,b≠X.env.locals→b∉X.fs→b∉ch→s.heap.get? b=some o→H b=none→h'.get? b=some o)
  (slot:∀b o,b≠X.env.locals→b∈X.fs→b∉ch→s.heap.get? b=some o→H b=none→∃sl,h'.get? b=some { o with slots:=sl }) (free:∀b o,b∉ch→s.heap.get? b=some o→H b=none→H' b=none)
  (there:∀b o,b∉ch→s.heap.get? b=some o→∃o',h'.get? b=some o')
  (tups:∀b xs,H b=some (.tup xs)→H' b=some (.tup xs)) (frzs:∀b o u,H b=some (.frz o u)→H' b=some (.frz o u)) (tbls:∀b ps,H b=some (.tbl ps)→∃more,H' b=some (.tbl (ps ++ more)))
  (ns:∀m,s.heap.Ns X.env.locals m→h'.Ns X.env.locals m) (hok:HOk X.prog X.w H' h') (hg:AllBare g') :
  Inv X pins σ H' { s with heap:=h',gens:=g',drawn:=d',toks:=t' }:=by
 have neL:∀b o,X.s₀.heap.get? b=some o→b≠X.env.locals:=fun b o e=>Nat.ne_of_lt (Nat.lt_of_lt_of_le (Heap.lt_size e) I.ok.above)
 have neC:∀b o,X.s₀.heap.get? b=some o→b∉X.ex→b∉ch:=fun b o e hx hb=>by
  rcases (hch b hb).1 with z | z
  ·exact hx z
  ·exact absurd (Nat.lt_of_lt_of_le (Heap.lt_size e) z) (Nat.lt_irrefl _)
 have cellK:∀x c,X.env.cells.lookup x=some c→∀v,s.heap.IsCell c v→h'.IsCell c v:=fun x c e v ⟨o,ho,hd⟩=>by
  have nch:c∉ch:=fun z=>(hch c z).2.2.1 x c e rfl
  by_cases hc:c∈X.fs
  ·obtain⟨sl,q⟩:=slot c o (I.cne x c e) hc nch ho (I.freeC x c e)
   exact⟨_,q,hd⟩
  ·exact⟨o,keep c o (I.cne x c e) hc nch ho (I.freeC x c e),hd⟩
 refine⟨I.ok,I.os,hg,⟨fun b o e n hb hx=>?_,fun b o e n hb hx=>?_,fun b o e n hx=>?_,fun b o e hx=>?_,fun b xs e=>tups b xs (I.base.tups b xs e),fun b o xs e=>frzs b o xs (I.base.frzs b o xs e),fun b ps e=>?_⟩,?_,fun x c e=>?_,?_,fun x c e=>?_,fun p hp=>?_,hok,I.len⟩
 ·exact keep b o (neL b o e) hb (neC b o e hx) (I.base.keep b o e n hb hx) (I.base.free b o e n hx)
 ·obtain⟨sl,e1⟩:=I.base.slot b o e n hb hx
  obtain⟨sl',e2⟩:=slot b _ (neL b o e) hb (neC b o e hx) e1 (I.base.free b o e n hx)
  exact⟨sl',e2⟩
 ·obtain⟨o',e1⟩:=I.base.there b o e hx
  exact free b o' (neC b o e hx) e1 (I.base.free b o e n hx)
 ·obtain⟨o',e1⟩:=I.base.there b o e hx
  exact there b o' (neC b o e hx) e1
 ·obtain⟨m1,e1⟩:=I.base.tbls b ps e
  obtain⟨m2,e2⟩:=tbls b _ e1
  exact⟨m1 ++ m2,by rw [e2,Array.append_assoc]⟩
 ·obtain⟨m,hn,hl⟩:=I.loc
  refine⟨m,ns m hn,fun i x v e1 e2 e3=>?_⟩
  obtain⟨u,r,l⟩:=hl i x v e1 e2 e3
  refine⟨u,r,?_⟩
  rcases l with l | ⟨k,c,e,z⟩
  ·exact .inl l
  ·exact .inr ⟨k,c,e,cellK x c e _ z⟩
 ·obtain⟨v,z⟩:=I.cell x c e
  exact⟨v,cellK x c e v z⟩
 ·obtain⟨m,⟨o,_,_,ho,_⟩,_⟩:=I.loc
  exact free _ o (fun z=>(hch _ z).2.1 rfl) ho I.free
 ·obtain⟨v,o,ho,hd⟩:=I.cell x c e
  exact free c o (fun z=>(hch c z).2.2.1 x c e rfl) ho (I.freeC x c e)
 ·obtain⟨e,n,ne,nf,d⟩:=I.pin p hp
  have nch:p.1∉ch:=fun z=>(hch p.1 z).2.2.2 p hp rfl
  exact⟨keep p.1 p.2 ne nf nch e n,free p.1 p.2 nch e n,ne,nf,d⟩
theorem Inv.un {t':Nat} (I:Inv X pins σ H s) (u:Un X.fs [] H H' s.heap h') (hok:HOk X.prog X.w H' h'):Inv X pins σ H' { s with heap:=h',toks:=t' }:=by
 obtain⟨m,⟨o,es,ep,ho,r⟩,_⟩:=id I.loc
 obtain⟨sl,hL⟩:=u.any ho I.free (by simp)
 exact I.step (g':=s.gens) (d':=s.drawn) (ch:=[]) (fun _ z=>nomatch z) (fun b o _ hb _ e n=>u.keep b o e n hb (by simp)) (fun b o _ hb _ e n=>u.slot b o e n hb (by simp)) (fun b o _ e n=>u.free b o e n (by simp)) (fun b o _ e=>u.there b o e (by simp)) u.tups u.frzs u.tbls (fun m' hm=>by
  obtain⟨o',es',ep',ho',r'⟩:=hm
  rw [ho] at ho'; cases ho'
  exact⟨_,es',ep',hL,r'⟩) hok I.bare
theorem Inv.call {g':Array GenState} {t':Nat} {d':Drawn} {ch:List Addr} (I:Inv X pins σ H s) (u:Un (frs X.stack) ch H H' s.heap h') (hok:HOk X.prog X.w H' h') (hg:AllBare g')
  (hch:∀b∈ch,(b∈X.ex∨X.s₀.heap.objs.size≤b)∧b≠X.env.locals∧(∀x c,X.env.cells.lookup x=some c→c≠b)∧∀p∈X.pn ++ pins,p.1≠b) :
  Inv X pins σ H' { s with heap:=h',gens:=g',drawn:=d',toks:=t' }:=by
 obtain⟨m,⟨o,es,ep,ho,r⟩,_⟩:=id I.loc
 obtain⟨sl,hL⟩:=u.any ho I.free fun z=>(hch _ z).2.1 rfl
 exact I.step (ch:=ch) hch (fun b o hL hb hc e n=>u.keep b o e n (fun z=>(List.mem_cons.mp (I.stkSub b z)).elim hL hb) hc) (fun b o _ _ hc e n=>u.any e n hc) (fun b o hc e n=>u.free b o e n hc) (fun b o hc e=>u.there b o e hc) u.tups u.frzs u.tbls (fun m' hm=>by
  obtain⟨o',es',ep',ho',r'⟩:=hm
  rw [ho] at ho'; cases ho'
  exact⟨_,es',ep',hL,r'⟩) hok hg
theorem Inv.turned {t':Nat} {it:Addr} (I:Inv X pins σ H s) (k:∀b o,b≠it→s.heap.get? b=some o→h'.get? b=some o) (hn:H it=none) (hL:it≠X.env.locals)
  (h1:it∈X.ex∨X.s₀.heap.objs.size≤it) (h2:∀x c,X.env.cells.lookup x=some c→c≠it) (h3:∀p∈X.pn ++ pins,p.1≠it):Inv X pins σ H { s with heap:=h',toks:=t' }:=by
 have nit:∀b u,H b=some u→b≠it:=fun b u e z=>by rw [z,hn] at e;cases e
 refine I.step (g':=s.gens) (d':=s.drawn) (ch:=[it]) (fun b hb=>?_) (fun b o _ _ hc e _=>k b o (fun z=>hc (by simp [z])) e) (fun b o _ _ hc e _=>⟨o.slots,k b o (fun z=>hc (by simp [z])) e⟩) (fun _ _ _ _ n=>n)
  (fun b o hc e=>⟨o,k b o (fun z=>hc (by simp [z])) e⟩) (fun _ _ e=>e) (fun _ _ _ e=>e) (fun b ps e=>⟨#[],by rw [e];simp⟩) (fun m hm=>?_) (fun b u e=>?_) I.bare
 ·have e:b=it:=by simpa using hb
  subst e
  exact⟨h1,hL,h2,h3⟩
 ·obtain⟨o,es,ep,ho,r⟩:=hm
  exact⟨o,es,ep,k _ o (Ne.symm hL) ho,r⟩
 ·refine (I.hok b u e).stay (fun c v hc q=>k c v ?_ q) (fun _ q=>q) fun _ _ q=>q
  rcases hc with z | z
  ·rw [z];exact nit b u e
  ·exact nit c _ z
theorem Inv.tok (I:Inv X pins σ H s) (t:Nat):Inv X pins σ H { s with toks:=t }:=I.un (h':=s.heap) (t':=t) Un.refl I.hok
theorem Inv.kept {t':Nat} (I:Inv X pins σ H s) (k:∀b u,s.heap.get? b=some u→h'.get? b=some u):Inv X pins σ H { s with heap:=h',toks:=t' }:=I.un (Un.kept k) (I.hok.kept k)
theorem Inv.laid {a:Addr} {o:HO} {t':Nat} (I:Inv X pins σ H s) (k:∀b u,s.heap.get? b=some u→h'.get? b=some u) (hp:s.heap.objs.size≤a) (new:ObjOk X.prog X.w (upd H a o) h' a o) :
  Inv X pins σ (upd H a o) { s with heap:=h',toks:=t' }:=I.un (Un.laid k hp (I.hok.fresh hp)) (I.hok.laid k hp new)
theorem Inv.write {x e:Addr} {o:HO} {t':Nat} (I:Inv X pins σ H s) (mu:Mut (H x)) (he:e=x∨H e=some (.own x)) (k:∀b u,b≠e→s.heap.get? b=some u→h'.get? b=some u) (heo:∃u,h'.get? e=some u)
  (new:ObjOk X.prog X.w (upd H x o) h' x o):Inv X pins σ (upd H x o) { s with heap:=h',toks:=t' }:=I.un (Un.write mu he k heo) (I.hok.write mu he k heo new)
theorem Inv.pins_of {pins':List (Addr×Obj)} (I:Inv X pins σ H s) (h:∀p∈pins',s.heap.get? p.1=some p.2∧H p.1=none∧p.1≠X.env.locals∧p.1∉X.fs∧∀v,p.2.data≠.cell v):Inv X pins' σ H s :=
 ⟨I.ok,I.os,I.bare,I.base,I.loc,I.cell,I.free,I.freeC,fun p hp=>(List.mem_append.mp hp).elim (fun z=>I.pin p (List.mem_append_left _ z)) (h p),I.hok,I.len⟩
theorem oX {N:List Str} (hN:N.Nodup) {i j:Nat} {x:Str} (a:N[i]? = some x) (b:N[j]? = some x):i=j:=by
 obtain⟨h1,e1⟩:=List.getElem?_eq_some_iff.mp a
 obtain⟨h2,e2⟩:=List.getElem?_eq_some_iff.mp b
 exact (List.getElem_inj hN).mp (e1.trans e2.symm)
theorem lQ {M:Model} {A:Around} {E:Value→Shared→Prop} {i:Nat} {x:Str} {v:V} {u:Value} {Q:Unit→Shared→Prop} (I:Inv X pins σ H s) (hN:X.N.Nodup) (hi:X.N[i]? = some x) (hx:Loc X.env.scope x) (r:RelV v u)
  (h:∀s',Inv X pins (σ.set i (some v)) H s'→(∃a,Heap.SameBut a s.heap s'.heap∧(a=X.env.locals∨X.env.cells.lookup x=some a))→Q () s') (hf:X.fn x=true∨X.env.scope.names.lookup x=some .local:=by first | exact .inl rfl | exact .inr rfl | assumption):wpAny M A (storeName X.env x u) Q E s:=by
 obtain⟨m,hn,hl⟩:=id I.loc
 have hcls:(X.env.scope.kind == .class || (X.env.scope.kind == .module && X.env.locals != X.env.globals))=false:=by rw [I.ok.kind];rfl
 have hiσ:i < σ.length:=by rw [I.len];exact (List.getElem?_eq_some_iff.mp hi).1
 have cne:=I.cne
 have tracked:∀ {a:Addr} {h':Heap},(∃o,s.heap.get? a=some o∧H a=none)→Heap.SameBut a s.heap h'→HOk X.prog X.w H h':=fun {a h'} ha hs b ob e=>by
  obtain⟨_,_,hfree⟩:=ha
  refine (I.hok b ob e).stay (fun c w' hc q=>(hs.2 c ?_).trans q) (fun _ q=>q) fun _ _ q=>q
  rintro rfl
  rcases hc with rfl | hc
  ·rw [hfree] at e;cases e
  ·rw [hfree] at hc;cases hc
 rcases hx with hk | hk
 ·refine wpAny_storeName_local hk hn (fun h' hn' hs=>?_) hcls
  obtain⟨oL,_,_,hoL,_⟩:=id hn
  refine h _ ⟨I.ok,I.os,I.bare,⟨fun b o e n hb hx=>?_,fun b o e n hb hx=>?_,I.base.free,fun b o e hx=>?_,I.base.tups,I.base.frzs,I.base.tbls⟩,⟨_,hn',fun j y v' e1 e2 e3=>?_⟩,fun y c e=>?_,I.free,I.freeC,fun p hp=>?_,tracked ⟨oL,hoL,I.free⟩ hs,by simpa using I.len⟩ ⟨_,hs,.inl rfl⟩
  ·exact (hs.2 b (Nat.ne_of_lt (Nat.lt_of_lt_of_le (Heap.lt_size e) I.ok.above))).trans (I.base.keep b o e n hb hx)
  ·obtain⟨sl,e1⟩:=I.base.slot b o e n hb hx
   exact⟨sl,(hs.2 b (Nat.ne_of_lt (Nat.lt_of_lt_of_le (Heap.lt_size e) I.ok.above))).trans e1⟩
  ·obtain⟨o',e1⟩:=I.base.there b o e hx
   exact⟨o',(hs.2 b (Nat.ne_of_lt (Nat.lt_of_lt_of_le (Heap.lt_size e) I.ok.above))).trans e1⟩
  ·by_cases hj:j=i
   ·subst hj
    rw [hi] at e1;cases e1
    rw [List.getElem?_set_self hiσ] at e2
    cases e2
    exact⟨u,r,.inl ⟨hk,by simp⟩⟩
   ·rw [List.getElem?_set_ne (Ne.symm hj)] at e2
    obtain⟨u',r',q⟩:=hl j y v' e1 e2 e3
    refine⟨u',r',?_⟩
    rcases q with ⟨k,e⟩ | ⟨k,c,e,z⟩
    ·refine .inl ⟨k,?_⟩
     have:y≠x:=fun e=>hj (oX hN e1 (e ▸ hi))
     simp [this,e]
    ·exact .inr ⟨k,c,e,z.sameBut hs (cne y c e)⟩
  ·obtain⟨w',z⟩:=I.cell y c e
   exact⟨w',z.sameBut hs (cne y c e)⟩
  ·obtain⟨e,n,ne,nf,d⟩:=I.pin p hp
   exact⟨(hs.2 p.1 ne).trans e,n,ne,nf,d⟩
 ·have hfn:X.fn x=true:=by
   rcases hf with z | z
   ·exact z
   ·rw [z] at hk;cases hk
  obtain⟨c,hc⟩:=I.ok.has x (.inl hk)
  obtain⟨w',z⟩:=I.cell x c hc
  refine wpAny_storeName_cell I.ok.kind hk hc z (fun h' hc' hs=>?_)
  obtain⟨oc,hoc,hocd⟩:=id z
  refine h { s with heap:=h' } ⟨I.ok,I.os,I.bare,⟨fun b o e n hb hx=>?_,fun b o e n hb hx=>?_,I.base.free,fun b o e hx=>?_,I.base.tups,I.base.frzs,I.base.tbls⟩,⟨m,hn.sameBut hs (Ne.symm (cne x c hc)),fun j y v' e1 e2 e3=>?_⟩,fun y c' e=>?_,I.free,I.freeC,fun p hp=>?_,tracked ⟨oc,hoc,I.freeC x c hc⟩ hs,by simpa using I.len⟩ ⟨c,hs,.inr hc⟩
  ·exact (hs.2 b (Nat.ne_of_lt (Nat.lt_of_lt_of_le (Heap.lt_size e) (I.ok.cab x c hfn hc)))).trans (I.base.keep b o e n hb hx)
  ·obtain⟨sl,e1⟩:=I.base.slot b o e n hb hx
   exact⟨sl,(hs.2 b (Nat.ne_of_lt (Nat.lt_of_lt_of_le (Heap.lt_size e) (I.ok.cab x c hfn hc)))).trans e1⟩
  ·obtain⟨o',e1⟩:=I.base.there b o e hx
   exact⟨o',(hs.2 b (Nat.ne_of_lt (Nat.lt_of_lt_of_le (Heap.lt_size e) (I.ok.cab x c hfn hc)))).trans e1⟩
  ·by_cases hj:j=i
   ·subst hj
    rw [hi] at e1;cases e1
    rw [List.getElem?_set_self hiσ] at e2
    cases e2
    exact⟨u,r,.inr ⟨.inl hk,c,hc,hc'⟩⟩
   ·rw [List.getElem?_set_ne (Ne.symm hj)] at e2
    obtain⟨u',r',q⟩:=hl j y v' e1 e2 e3
    refine⟨u',r',?_⟩
    rcases q with q | ⟨k,c',e,z'⟩
    ·exact .inl q
    ·refine .inr ⟨k,c',e,z'.sameBut hs ?_⟩
     rintro rfl
     exact hj (oX hN e1 (I.ok.inj _ _ _ e hc ▸ hi))
  ·by_cases hcc:c'=c
   ·subst hcc;exact⟨_,hc'⟩
   ·obtain⟨w2,z2⟩:=I.cell y c' e
    exact⟨w2,z2.sameBut hs hcc⟩
  ·obtain⟨e,n,ne,nf,d⟩:=I.pin p hp
   refine⟨(hs.2 p.1 ?_).trans e,n,ne,nf,d⟩
   intro q
   rw [q,hoc] at e
   have q':oc=p.2:=Option.some.inj e
   exact d w' (by rw [← q'];exact hocd)
theorem oY {M:Model} {A:Around} {E:Value→Shared→Prop} {i:Nat} {x:Str} {v:V} {u:Value} {Q:Unit→Shared→Prop} (I:Inv X pins σ H s) (hN:X.N.Nodup) (hi:X.N[i]? = some x) (hx:Loc X.env.scope x) (r:RelV v u)
  (h:∀s',Inv X pins (σ.set i (some v)) H s'→Q () s') (hf:X.fn x=true∨X.env.scope.names.lookup x=some .local:=by first | exact .inl rfl | exact .inr rfl | assumption):wpAny M A (storeName X.env x u) Q E s :=
 lQ I hN hi hx r (fun s' I' _=>h s' I') hf
theorem Inv.call' {s':Shared} {ch:List Addr} (I:Inv X pins σ H s) (ho:s'.os=s.os) (u:Un (frs X.stack) ch H H' s.heap s'.heap) (hok:HOk X.prog X.w H' s'.heap) (hg:AllBare s'.gens)
  (hch:∀b∈ch,(b∈X.ex∨X.s₀.heap.objs.size≤b)∧b≠X.env.locals∧(∀x c,X.env.cells.lookup x=some c→c≠b)∧∀p∈X.pn ++ pins,p.1≠b):Inv X pins σ H' s':=by
 obtain⟨h',g',d',t',o'⟩:=s'
 have e:o'=s.os:=ho
 subst e
 exact I.call (g':=g') (t':=t') (d':=d') u hok hg hch
end
noncomputable abbrev XK:=Value→Option Addr→Hp→Prop
noncomputable abbrev St:=List (Option V)
noncomputable abbrev VK:=V→Hp→Prop
noncomputable abbrev TE:=St→Hp→VK→Prop
noncomputable abbrev TT:=St→Hp→(Bool→Hp→Prop)→Prop
noncomputable abbrev TA:=St→Hp→(List V→Hp→Prop)→Prop
structure Ends where
 nx:St→Hp→Prop
 rt:VK
 bk:St→Hp→Prop:=fun _ _=>False
 ct:St→Hp→Prop:=fun _ _=>False
noncomputable abbrev TS:=Ends→St→Hp→Prop
noncomputable def EP (X:Cx) (pins:List (Addr×Obj)) (σ:St) (Q:VK) (u:Value) (s':Shared):Prop:=∃v H',Inv X pins σ H' s'∧RelV v u∧Q v H'
noncomputable def TP (X:Cx) (pins:List (Addr×Obj)) (σ:St) (Q:Bool→Hp→Prop) (b:Bool) (s':Shared):Prop:=∃H',Inv X pins σ H' s'∧Q b H'
noncomputable def AP (X:Cx) (pins:List (Addr×Obj)) (σ:St) (Q:List V→Hp→Prop) (us:List Value) (s':Shared):Prop:=∃vs H',Inv X pins σ H' s'∧Vals vs us∧Q vs H'
noncomputable def SP (X:Cx) (pins:List (Addr×Obj)) (D:Ends) (f:Flow) (s':Shared):Prop :=
 match f with
 | .next=>∃σ' H',Inv X pins σ' H' s'∧D.nx σ' H'
 | .brk=>∃σ' H',Inv X pins σ' H' s'∧D.bk σ' H'
 | .cont=>∃σ' H',Inv X pins σ' H' s'∧D.ct σ' H'
 | .ret u=>∃v σ' H',Inv X pins σ' H' s'∧RelV v u∧D.rt v H'
noncomputable def PE (X:Cx) (e:Expr) (t:TE):Prop :=
 ∀ (pins:List (Addr×Obj)) (s:Shared) (σ:St) (H:Hp) (Q:VK),Inv X pins σ H s→t σ H Q→wpAny (model X.prog X.w) X.A (eval e X.env) (EP X pins σ Q) X.xe s
noncomputable def PT (X:Cx) (e:Expr) (t:TT):Prop :=
 ∀ (pins:List (Addr×Obj)) (s:Shared) (σ:St) (H:Hp) (Q:Bool→Hp→Prop),Inv X pins σ H s→t σ H Q→wpAny (model X.prog X.w) X.A (isTrue e X.env (eval e X.env)) (TP X pins σ Q) X.xe s
noncomputable def PW (X:Cx) (e:Expr) (t:TT):Prop :=
 ∀ (whole:Sem Value) (pins:List (Addr×Obj)) (s:Shared) (σ:St) (H:Hp) (Q:Bool→Hp→Prop),Inv X pins σ H s→t σ H Q→wpAny (model X.prog X.w) X.A (isTrue e X.env whole) (TP X pins σ Q) X.xe s
theorem PW.pt {X:Cx} {e:Expr} {t:TT} (h:PW X e t):PT X e t:=h _
noncomputable def PA (X:Cx) (es:List Expr) (t:TA):Prop :=
 ∀ (pos:Pos) (pins:List (Addr×Obj)) (s:Shared) (σ:St) (H:Hp) (Q:List V→Hp→Prop),Inv X pins σ H s→t σ H Q→wpAny (model X.prog X.w) X.A (spliced (backTo pos (starEach es X.env))) (AP X pins σ Q) X.xe s
noncomputable def PS (X:Cx) (st:Stmt) (t:TS):Prop :=
 ∀ (pins:List (Addr×Obj)) (s:Shared) (σ:St) (H:Hp) (D:Ends),Inv X pins σ H s→t D σ H→wpAny (model X.prog X.w) X.A (exec st X.env) (SP X pins D) X.xe s
noncomputable def PSs (X:Cx) (st:List Stmt) (t:TS):Prop :=
 ∀ (pins:List (Addr×Obj)) (s:Shared) (σ:St) (H:Hp) (D:Ends),Inv X pins σ H s→t D σ H→wpAny (model X.prog X.w) X.A (execs st X.env) (SP X pins D) X.xe s
theorem thn {α:Type} {t:Sem α} {Q Q':α→Shared→Prop} {M:Model} {A:Around} {E:Value→Shared→Prop} {s:Shared} (h:wpAny M A t Q E s) (hQ:∀a s,Q a s→Q' a s):wpAny M A t Q' E s:=wpAny_mono h hQ fun _ _ x=>x
end L2
namespace L2
open PySem PySem.Spec PyProof.Rows
section
variable {X:Cx}
noncomputable def Dc (i:Nat):TE:=fun σ H Q=>∃v,σ[i]? = some (some v)∧Q v H
noncomputable def tC (v:V):TE:=fun _ H Q=>Q v H
theorem Dd {i:Nat} {x:Str} {pos:Pos} (hN:X.N[i]? = some x) (hv:Vis X.env.scope x) (hd:(x == ("__debug__":Str))=false:=by decide) (hcd:(x == ("__classdict__":Str))=false:=by decide):PE X (.Name x pos) (Dc i):=by
 intro pins s σ H Q I h
 obtain⟨v,e,h⟩:=h
 obtain⟨m,hn,hl⟩:=I.loc
 obtain⟨u,r,l⟩:=hl i x v hN e hv
 have fin:EP X pins σ Q u s:=⟨v,H,I,r,h⟩
 rcases l with ⟨hk,hm⟩ | ⟨hk,c,hc,hcell⟩
 ·exact wpAny_Name (wpAny_loadName_local I.ok.kind hk hn hm fin) hd
 ·rcases hk with hk | hk
  ·exact wpAny_Name (wpAny_loadName_cell I.ok.kind hk hc hcell fin) hd
  ·exact wpAny_Name (wpAny_loadName_free I.ok.kind hk hc hcell fin hcd) hd
theorem ao {i j pos}:PE X (.Constant (.int i) j pos) (tC (.int i)):=fun _ _ _ H _ I h=>wpAny_Constant_int ⟨.int i,H,I.tok _,⟨_,rfl⟩,h⟩
theorem oZ {b j pos}:PE X (.Constant (.bool b) j pos) (tC (.bl b)):=fun _ _ _ H _ I h=>Constant_bool ⟨.bl b,H,I,rfl,h⟩
theorem dm {j pos}:PE X (.Constant .none j pos) (tC .non):=fun _ _ _ H _ I h=>Constant_none ⟨.non,H,I,rfl,h⟩
theorem cO {x j pos}:PE X (.Constant (.str x) j pos) (tC (.str x)):=fun _ _ _ H _ I h=>Calls.Constant_str ⟨.str x,H,I.tok _,⟨_,rfl⟩,h⟩
noncomputable def Gl (X:Cx) (x:Str):Prop:=X.env.kindOf x=some .globalImplicit
theorem ni {E:Value→Shared→Prop} {pins:List (Addr×Obj)} {s:Shared} {σ:St} {H:Hp} {x:Str} {u:Value} {pos:Pos} {Q:Value→Shared→Prop} (I:Inv X pins σ H s) (hg:Gl X x) (hm:X.mg x=some u) (h:Q u s)
  (hd:(x == ("__debug__":Str))=false:=by decide):wpAny (model X.prog X.w) X.A (eval (.Name x pos) X.env) Q E s :=
 Calls.Name_function_global I.ok.kind hg (Calls.loadGlobal_global (by rw [I.ok.glob];exact I.mod.glob.keeps I.bk) hm h) hd
theorem ir {E:Value→Shared→Prop} {pins:List (Addr×Obj)} {s:Shared} {σ:St} {H:Hp} {x:Str} {u:Value} {pos:Pos} {Q:Value→Shared→Prop} (I:Inv X pins σ H s) (hg:Gl X x) (hm:X.mg x=none) (hv:bootBuiltins x=some u) (h:Q u s)
  (hn:x ≠ "__name__" := by decide) (hd:(x == ("__debug__":Str))=false:=by decide):wpAny (model X.prog X.w) X.A (eval (.Name x pos) X.env) Q E s:=by
 obtain⟨mb,h1,h2⟩:=I.mod.blt
 exact Calls.Name_function_global I.ok.kind hg (Calls.loadGlobal_builtin (by rw [I.ok.glob];exact I.mod.glob.keeps I.bk) hm (by rw [I.ok.blt];exact h1.keeps I.bk) ((h2 x hn).trans hv) h) hd
theorem zp {x:Str} {v:V} {u:Value} {pos:Pos} (hg:Gl X x) (hm:X.mg x=some u) (r:RelV v u) (hd:(x == ("__debug__":Str))=false:=by decide):PE X (.Name x pos) (tC v) :=
 fun _ _ _ H _ I h=>ni I hg hm ⟨v,H,I,r,h⟩ hd
theorem nj {x:Str} {v:V} {u:Value} {pos:Pos} (hg:Gl X x) (hm:X.mg x=none) (hv:bootBuiltins x=some u) (r:RelV v u) (hn:x ≠ "__name__" := by decide) (hd:(x == ("__debug__":Str))=false:=by decide):PE X (.Name x pos) (tC v) :=
 fun _ _ _ H _ I h=>ir I hg hm hv ⟨v,H,I,r,h⟩ hn hd
variable {a b:Expr} {ta tb:TE} {pos:Pos}
noncomputable def PC (X:Cx) (op:CmpOp) (a b:Expr) (t:TE):Prop :=
 ∀ (pins:List (Addr×Obj)) (s:Shared) (σ:St) (H:Hp) (Q:VK),Inv X pins σ H s→t σ H Q →
  wpAny (model X.prog X.w) X.A (eval a X.env) (fun v s₁=>wpAny (model X.prog X.w) X.A (eval b X.env) (fun u s₂=>wpAny (model X.prog X.w) X.A (compareOp op v u) (EP X pins σ Q) X.xe s₂) X.xe s₁) X.xe s
noncomputable def Iw (ta:TE):TE:=fun σ H Q=>ta σ H fun x H1=>Q (.bl (decide (x=.non))) H1
noncomputable def GP (ta:TE):TE:=fun σ H Q=>ta σ H fun x H1=>Q (.bl (!decide (x=.non))) H1
noncomputable def tB (t:TE):TT:=fun σ H Q=>t σ H fun x H1=>∃c,x=.bl c∧Q c H1
theorem De {op:CmpOp} {t:TE} (h:PC X op a b t) (h1:behindInMarks op b=false:=by first | exact nobehind _ (by decide) (by decide) | rfl):PE X (.Compare a [op] [b] pos) t:=fun pins s σ H Q I hw=>wpAny_Compare1 (h pins s σ H Q I hw) h1
theorem nq {op:CmpOp} {t:TE} (h:PC X op a b t) (h1:behindInMarks op b=false:=by first | exact nobehind _ (by decide) (by decide) | rfl):PT X (.Compare a [op] [b] pos) (tB t):=by
 intro pins s σ H Q I hw
 refine wpAny_isTrue_Compare1 (thn (h pins s σ H _ I hw) fun v s1 h1=>thn h1 fun u s2 h2=>thn h2 fun c s3 ⟨x,H1,I1,r1,q1⟩=>?_) h1
 obtain⟨d,rfl,q⟩:=q1
 cases r1
 exact wpAny_truthy_bool ⟨H1,I1,q⟩
theorem dM {e:Expr} {t:TE} (h:PE X e t) (he:∀whole,isTrue e X.env whole=(do let v←whole;standAt e.pos;holding [v] (truthy v)):=by intro _;rfl):PT X e (tB t):=by
 intro pins s σ H Q I hw
 refine isTrue_plain (thn (h pins s σ H _ I hw) fun v s1 ⟨x,H1,I1,r1,q1⟩=>?_) (he _)
 obtain⟨d,rfl,q⟩:=q1
 cases r1
 exact wpAny_truthy_bool ⟨H1,I1,q⟩
variable {tA tB':TT} {rest:List Expr}
noncomputable def GQ (t u:TT):TT:=fun σ H Q=>t σ H fun c H1=>if c=true then u σ H1 Q else Q false H1
noncomputable def tOr (t u:TT):TT:=fun σ H Q=>t σ H fun c H1=>if c=true then Q true H1 else u σ H1 Q
noncomputable def GR (t:TT):TT:=fun σ H Q=>t σ H fun c H1=>Q (!c) H1
theorem iG (ha:PT X a tA):PW X (.BoolOp .And [a] pos) tA:=by
 intro wh pins s σ H Q I h
 refine isTrue_and (thn (ha pins s σ H Q I h) fun c s1 e=>?_)
 cases c with
 | true=>exact isTrue_and_nil e
 | false=>exact e
theorem dN (ha:PT X a tA):PW X (.BoolOp .Or [a] pos) tA:=by
 intro wh pins s σ H Q I h
 refine isTrue_or (thn (ha pins s σ H Q I h) fun c s1 e=>?_)
 cases c with
 | false=>exact isTrue_or_nil e
 | true=>exact e
theorem jO (ha:PT X a tA) (hb:PW X (.BoolOp .And (b :: rest) pos) tB'):PW X (.BoolOp .And (a :: b :: rest) pos) (GQ tA tB'):=by
 intro wh pins s σ H Q I h
 refine isTrue_and (thn (ha pins s σ H _ I h) fun c s1 ⟨H1,I1,q1⟩=>?_)
 cases c with
 | true=>exact hb wh pins s1 σ H1 Q I1 q1
 | false=>exact⟨H1,I1,q1⟩
theorem dR (ha:PT X a tA) (hb:PW X (.BoolOp .Or (b :: rest) pos) tB'):PW X (.BoolOp .Or (a :: b :: rest) pos) (tOr tA tB'):=by
 intro wh pins s σ H Q I h
 refine isTrue_or (thn (ha pins s σ H _ I h) fun c s1 ⟨H1,I1,q1⟩=>?_)
 cases c with
 | true=>exact⟨H1,I1,q1⟩
 | false=>exact hb wh pins s1 σ H1 Q I1 q1
theorem fZ (ha:PT X a tA):PT X (.UnaryOp .Not a pos) (GR tA):=by
 intro pins s σ H Q I h
 exact isTrue_not (ha pins s σ H (fun c H1=>Q (!c) H1) I h)
noncomputable def Bu (ta tb:TE):TE:=fun σ H Q=>ta σ H fun x H1=>∃c,x=.bl c∧if c=true then tb σ H1 Q else Q (.bl false) H1
noncomputable def GX (ta tb:TE):TE:=fun σ H Q=>ta σ H fun x H1=>∃c,x=.bl c∧if c=true then Q (.bl true) H1 else tb σ H1 Q
noncomputable def GZ (ta:TE):TE:=fun σ H Q=>ta σ H fun x H1=>∃c,x=.bl c∧Q (.bl (!c)) H1
theorem dq {op} {t:TE} (h:PE X a t):PE X (.BoolOp op [a] pos) t:=fun pins s σ H Q I hw=>BoolOp_one (h pins s σ H Q I hw)
theorem cG (ha:PE X a ta) (hb:PE X (.BoolOp .And (b :: rest) pos) tb):PE X (.BoolOp .And (a :: b :: rest) pos) (Bu ta tb):=by
 intro pins s σ H Q I h
 refine BoolOp_and (thn (ha pins s σ H _ I h) fun v s1 ⟨x,H1,I1,r1,q1⟩=>?_)
 obtain⟨c,rfl,q1⟩:=q1
 cases r1
 refine wpAny_truthy_bool ?_
 cases c with
 | true=>exact hb pins s1 σ H1 Q I1 q1
 | false=>exact⟨.bl false,H1,I1,rfl,q1⟩
theorem G8 (ha:PE X a ta) (hb:PE X (.BoolOp .Or (b :: rest) pos) tb):PE X (.BoolOp .Or (a :: b :: rest) pos) (GX ta tb):=by
 intro pins s σ H Q I h
 refine BoolOp_or (thn (ha pins s σ H _ I h) fun v s1 ⟨x,H1,I1,r1,q1⟩=>?_)
 obtain⟨c,rfl,q1⟩:=q1
 cases r1
 refine wpAny_truthy_bool ?_
 cases c with
 | false=>exact hb pins s1 σ H1 Q I1 q1
 | true=>exact⟨.bl true,H1,I1,rfl,q1⟩
noncomputable def tIf (t:TT) (ta tb:TE):TE:=fun σ H Q=>t σ H fun c H1=>if c=true then ta σ H1 Q else tb σ H1 Q
theorem wQ {c:Expr} (hc:PT X c tA) (ha:PE X a ta) (hb:PE X b tb):PE X (.IfExp c a b pos) (tIf tA ta tb):=by
 intro pins s σ H Q I h
 refine wpAny_IfExp (thn (hc pins s σ H _ I h) fun d s1 ⟨H1,I1,q1⟩=>?_)
 cases d with
 | true=>exact ha pins s1 σ H1 Q I1 q1
 | false=>exact hb pins s1 σ H1 Q I1 q1
end
end L2
namespace L2
open PySem PySem.Spec PyProof.Rows
noncomputable def SqL (K:PySem.W.Frag) (H:Hp) (a:Addr) (xs:List V):Prop :=
 Rd H a (.lst xs) ∨
  ∃ (o:Obj) (its:Array Value) (n:Nat),K.lookup a=some o∧o.cls=.type "list" ∧ o.dict=none∧o.data=.seq its n∧its.size≤sizeLine∧Vals xs its.toList
noncomputable def SqT (K:PySem.W.Frag) (H:Hp) (a:Addr) (xs:List V):Prop :=
 Rd H a (.tup xs) ∨
  ∃ (o:Obj) (its:Array Value) (n:Nat),K.lookup a=some o∧o.cls=.type "tuple" ∧ o.data=.seq its n∧its.size≤sizeLine∧Vals xs its.toList
noncomputable def Iz:Value→Option V
 | .none=>some .non
 | .bool b=>some (.bl b)
 | .int i _=>some (.int i)
 | .str x _=>some (.str x)
 | .bytes b _=>some (.byt b)
 | .float b _=>some (.flt b)
 | .ref a=>some (.ref a)
 | .type n=>some (.ty n)
 | _=>none
theorem RelV.abs {x:V} {u:Value} (r:RelV x u):Iz u=some x:=by
 cases x with
 | non=>cases r;rfl
 | bl _=>cases r;rfl
 | int _=>obtain⟨t,rfl⟩:=r;rfl
 | str _=>obtain⟨t,rfl⟩:=r;rfl
 | byt _=>obtain⟨t,rfl⟩:=r;rfl
 | flt _=>obtain⟨t,rfl⟩:=r;rfl
 | ref _=>cases r;rfl
 | ty _=>cases r;rfl
theorem RelV.inj {x y:V} {u:Value} (r:RelV x u) (q:RelV y u):x=y:=Option.some.inj (r.abs.symm.trans q.abs)
theorem Vals.inj:∀ {xs ys:List V} {us:List Value},Vals xs us→Vals ys us→xs=ys
 | _,_,_,.nil,.nil=>rfl
 | _,_,_,.cons r t,.cons r' t'=>by rw [r.inj r',Vals.inj t t']
section
variable {X:Cx} {pins:List (Addr×Obj)} {σ:St} {H:Hp} {s:Shared} {a:Addr} {xs ys:List V}
theorem SqL.of {K:PySem.W.Frag} (h:H a=some (.lst xs)):SqL K H a xs:=.inl (.inl h)
theorem SqT.of {K:PySem.W.Frag} (h:H a=some (.tup xs)):SqT K H a xs:=.inl (.inl h)
theorem Inv.list (I:Inv X pins σ H s) (h:SqL X.K H a xs):∃its:List Value,Vals xs its∧PlainL s.heap a its.toArray∧xs.length≤sizeLine:=by
 rcases h with h | ⟨o,its,n,hk,hc,hd,hs,hz,r⟩
 ·obtain⟨z,its,n,r,e⟩:=h.ok I.hok
  exact⟨its,r,⟨_,n,e,rfl,rfl,rfl⟩,z⟩
 ·refine⟨its.toList,r,⟨o,n,I.kIn a o hk,hc,hd,by simpa using hs⟩,?_⟩
  have e:=r.length
  simp only [Array.length_toList] at e
  omega
theorem Inv.tuple (I:Inv X pins σ H s) (h:SqT X.K H a xs):∃its:List Value,Vals xs its∧IsTup s.heap a its.toArray∧xs.length≤sizeLine:=by
 rcases h with h | ⟨o,its,n,hk,hc,hs,hz,r⟩
 ·obtain⟨z,its,r,p⟩:=h.ok I.hok
  exact⟨its,r,p,z⟩
 ·refine⟨its.toList,r,⟨o,I.kIn a o hk,hc,n,by simpa using hs⟩,?_⟩
  have e:=r.length
  simp only [Array.length_toList] at e
  omega
theorem Inv.list_inj (I:Inv X pins σ H s) (h:SqL X.K H a xs) (h':SqL X.K H a ys):xs=ys:=by
 obtain⟨its,r,⟨o,n,e,_,_,d⟩,_⟩:=I.list h
 obtain⟨its',r',⟨o',n',e',_,_,d'⟩,_⟩:=I.list h'
 rw [e] at e'; cases e'
 rw [d] at d'
 injection d' with d1 _
 have:its=its':=by simpa using congrArg Array.toList d1
 subst this
 exact r.inj r'
theorem Inv.tuple_inj (I:Inv X pins σ H s) (h:SqT X.K H a xs) (h':SqT X.K H a ys):xs=ys:=by
 obtain⟨its,r,⟨o,e,_,n,d⟩,_⟩:=I.tuple h
 obtain⟨its',r',⟨o',e',_,n',d'⟩,_⟩:=I.tuple h'
 rw [e] at e'; cases e'
 rw [d] at d'
 injection d' with d1 _
 have:its=its':=by simpa using congrArg Array.toList d1
 subst this
 exact r.inj r'
end
noncomputable abbrev Cx.wish (X:Cx) (E:Value→Shared→Prop):Cx:={ X with xe:=E }
noncomputable abbrev Cx.nox (X:Cx):Cx:=X.wish fun _ _=>False
theorem Cx.Ok.wish {X:Cx} (ok:X.Ok) (E:Value→Shared→Prop):(X.wish E).Ok :=
 ⟨ok.mod,ok.kind,ok.glob,ok.blt,ok.above,ok.inj,ok.has,ok.cab,ok.hd,ok.frames,ok.stk,ok.exf,ok.bs,ok.bsz,ok.noex,ok.exfs,ok.funs,ok.frf⟩
theorem Cx.Ok.unwish {X:Cx} {E:Value→Shared→Prop} (ok:(X.wish E).Ok):X.Ok :=
 ⟨ok.mod,ok.kind,ok.glob,ok.blt,ok.above,ok.inj,ok.has,ok.cab,ok.hd,ok.frames,ok.stk,ok.exf,ok.bs,ok.bsz,ok.noex,ok.exfs,ok.funs,ok.frf⟩
section
variable {X:Cx} {pins:List (Addr×Obj)} {σ:St} {H:Hp} {s:Shared} {E:Value→Shared→Prop}
theorem Inv.wish (I:Inv X pins σ H s) (E:Value→Shared→Prop):Inv (X.wish E) pins σ H s:=⟨I.ok.wish E,I.os,I.bare,I.base,I.loc,I.cell,I.free,I.freeC,I.pin,I.hok,I.len⟩
theorem Inv.unwish (I:Inv (X.wish E) pins σ H s):Inv X pins σ H s:=⟨I.ok.unwish,I.os,I.bare,I.base,I.loc,I.cell,I.free,I.freeC,I.pin,I.hok,I.len⟩
theorem SP.unwish {D:Ends} {f:Flow} {s':Shared} (h:SP (X.wish E) pins D f s'):SP X pins D f s':=by
 cases f with
 | next=>obtain⟨σ',H',I,q⟩:=h;exact⟨σ',H',I.unwish,q⟩
 | brk=>obtain⟨σ',H',I,q⟩:=h;exact⟨σ',H',I.unwish,q⟩
 | cont=>obtain⟨σ',H',I,q⟩:=h;exact⟨σ',H',I.unwish,q⟩
 | ret u=>obtain⟨v,σ',H',I,r,q⟩:=h;exact⟨v,σ',H',I.unwish,r,q⟩
theorem PSs.nox {st:List Stmt} {t:TS} (h:PSs X.nox st t):PSs X st t:=fun pins s σ H D I hw =>
 wpAny_mono (h pins s σ H D (I.wish _) hw) (fun _ _ q=>q.unwish) fun _ _ z=>False.elim z
end
section
variable {X:Cx} {st:Stmt} {rest:List Stmt} {t u:TS} {e:Expr} {te:TE} {pos:Pos}
noncomputable def Bv:TS:=fun D σ H=>D.nx σ H
noncomputable def Df (t u:TS):TS:=fun D σ H=>t { D with nx:=u D } σ H
theorem aX:PSs X [] Bv:=fun _ _ σ H _ I h=>wpAny_execs_nil ⟨σ,H,I,h⟩
theorem au (h1:PS X st t) (h2:PSs X rest u):PSs X (st :: rest) (Df t u):=by
 intro pins s σ H D I h
 refine wpAny_execs_cons (thn (h1 pins s σ H { D with nx:=u D } I h) fun f s1 q=>?_)
 cases f with
 | next =>
  obtain⟨σ',H',I',q⟩:=q
  exact h2 pins s1 σ' H' D I' q
 | ret v=>exact q
 | brk=>exact q
 | cont=>exact q
theorem az (h1:PS X st t):PSs X [st] t:=by
 intro pins s σ H D I h
 refine wpAny_execs_cons (thn (h1 pins s σ H D I h) fun f s1 q=>?_)
 cases f with
 | next=>exact wpAny_execs_nil q
 | ret v=>exact q
 | brk=>exact q
 | cont=>exact q
theorem Inv.quiet {pins:List (Addr×Obj)} {σ:St} {H:Hp} {s:Shared} (I:Inv X pins σ H s):interactive X.env=false:=by simp [interactive,I.ok.kind]
noncomputable def Bw (te:TE):TS:=fun D σ H=>te σ H fun _ H1=>D.nx σ H1
theorem bY (he:PE X e te) (hs:swapsWith e none pos.line X.env=pure false:=by rfl):PS X (.Expr e pos) (Bw te):=by
 intro pins s σ H D I h
 exact wpAny_Expr_any (thn (he pins s σ H _ I h) fun v s1 ⟨x,H1,I1,r1,q1⟩=>⟨σ,H1,I1,q1⟩) I.quiet hs
noncomputable def G9 (te:TE):TS:=fun D σ H=>te σ H D.rt
theorem aK (he:PE X e te):PS X (.Return (some e) pos) (G9 te):=by
 intro pins s σ H D I h
 exact wpAny_Return_some (thn (he pins s σ H _ I h) fun v s1 ⟨x,H1,I1,r1,q1⟩=>⟨x,σ,H1,I1,r1,q1⟩)
noncomputable def Ha:TS:=fun D _ H=>D.rt .non H
noncomputable def zq (c:TT) (t u:TS):TS:=fun D σ H=>c σ H fun b H1=>if b=true then t D σ H1 else u D σ H1
theorem bF {c:Expr} {a b:List Stmt} {tc:TT} (hc:PT X c tc) (ha:PSs X a t) (hb:PSs X b u):PS X (.If c a b pos) (zq tc t u):=by
 intro pins s σ H D I h
 refine wpAny_If (thn (hc pins s σ H _ I h) fun d s1 ⟨H1,I1,q1⟩=>?_)
 cases d with
 | true=>exact ha pins s1 σ H1 D I1 q1
 | false=>exact hb pins s1 σ H1 D I1 q1
noncomputable def Dg:TS:=fun _ _ _=>False
theorem iH:PS X st Dg:=fun _ _ _ _ _ _ h=>h.elim
end
noncomputable abbrev TG:=V→St→Hp→(St→Hp→Prop)→Prop
noncomputable abbrev TGs:=List V→St→Hp→(St→Hp→Prop)→Prop
noncomputable def PG (X:Cx) (target:Expr) (t:TG):Prop :=
 ∀ (pins:List (Addr×Obj)) (s:Shared) (σ:St) (H:Hp) (v:V) (u:Value) (Q:St→Hp→Prop),Inv X pins σ H s→RelV v u→t v σ H Q →
  wpAny (model X.prog X.w) X.A (assign target X.env u) (fun _ s'=>∃σ' H',Inv X pins σ' H' s'∧Q σ' H') X.xe s
noncomputable def PGs (X:Cx) (ts:List Expr) (t:TGs):Prop :=
 ∀ (pins:List (Addr×Obj)) (s:Shared) (σ:St) (H:Hp) (vs:List V) (us:List Value) (Q:St→Hp→Prop),Inv X pins σ H s→Vals vs us→t vs σ H Q →
  wpAny (model X.prog X.w) X.A (assignInOrder ((assignEach ts X.env).map (·.2)) us) (fun _ s'=>∃σ' H',Inv X pins σ' H' s'∧Q σ' H') X.xe s
noncomputable abbrev IK:=V→V→V→Hp→(Hp→Prop)→Prop
section
variable {X:Cx} {pos:Pos}
noncomputable def su (i:Nat):TG:=fun v σ H Q=>Q (σ.set i (some v)) H
theorem aB {i:Nat} {x:Str} (hN:X.N.Nodup) (hi:X.N[i]? = some x) (hx:Loc X.env.scope x) (hf:X.fn x=true∨X.env.scope.names.lookup x=some .local:=by first | exact .inl rfl | exact .inr rfl | assumption):PG X (.Name x pos) (su i):=by
 intro pins s σ H v u Q I r h
 exact wpAny_assign_Name (oY I hN hi hx r (fun s' I'=>⟨_,H,I',h⟩) hf)
noncomputable def Hb:TGs:=fun vs σ H Q=>vs=[]∧Q σ H
noncomputable def Bx (t:TG) (u:TGs):TGs:=fun vs σ H Q=>∃v r,vs=v :: r∧t v σ H fun σ' H'=>u r σ' H' Q
theorem bV:PGs X [] Hb:=by
 intro pins s σ H vs us Q I r h
 obtain⟨e,h⟩:=h
 subst e
 cases r
 exact assignInOrder_nil ⟨σ,H,I,h⟩
theorem aO {e:Expr} {es:List Expr} {t:TG} {u:TGs} (h1:PG X e t) (h2:PGs X es u)
  (hs:(assignEach (e :: es) X.env).map (·.2)=assign e X.env :: (assignEach es X.env).map (·.2):=by rfl):PGs X (e :: es) (Bx t u):=by
 intro pins s σ H vs us Q I r h
 obtain⟨v,vr,e1,h⟩:=h
 subst e1
 cases r with
 | cons r rr =>
  rw [hs]
  refine assignInOrder_cons (thn (h1 pins s σ H _ _ _ I r h) fun _ s1 ⟨σ1,H1,I1,q1⟩=>?_)
  exact h2 pins s1 σ1 H1 _ _ Q I1 rr q1
noncomputable def Dh (K:PySem.W.Frag) (n:Nat) (t:TGs):TG:=fun v σ H Q=>∃a xs,v=.ref a∧SqT K H a xs∧xs.length=n∧t xs σ H Q
theorem cL {es:List Expr} {k:Nat} {t:TGs} {n:Nat} (hc:X.calm=true) (h:PGs X es t)
  (hn:(assignEach es X.env).length=n:=by rfl) (hst:(assignEach es X.env).findIdx? (·.1)=none:=by rfl):PG X (.Tuple es k pos) (Dh X.K n t):=by
 intro pins s σ H v u Q I r hw
 obtain⟨a,xs,e1,hq,hl,hw⟩:=hw
 subst e1
 cases r
 obtain⟨its,rv,ht,hz⟩:=I.tuple hq
 refine assign_Tuple_tuple (I.ok.hd hc) ht (by simp [hn,← hl,rv.length]) hst fun h' hx=>?_
 have I1:Inv X pins σ H { s with heap:=h' }:=I.kept (t':=s.toks) fun b o e=>hx b o (Nat.ne_of_lt (Heap.lt_size e)) e
 exact h pins _ σ H xs _ Q I1 (by simpa using rv) hw
noncomputable def IV (to ti:TE) (t:IK):TG:=fun v σ H Q=>to σ H fun o H1=>ti σ H1 fun i H2=>t o i v H2 fun H3=>Q σ H3
noncomputable def zr (te:TE) (g:TG):TS:=fun D σ H=>te σ H fun x H1=>g x σ H1 D.nx
theorem ji {tg e:Expr} {te:TE} {g:TG} (he:PE X e te) (hg:PG X tg g) (hs:swapsWithSole [tg] e pos.line X.env=pure false:=by rfl) (hw:swappedStores [tg] e X.env=pure none:=by rfl)
  (h1:(assignEach [tg] X.env).map (·.2)=[assign tg X.env]:=by rfl):PS X (.Assign [tg] e pos) (zr te g):=by
 intro pins s σ H D I h
 refine wpAny_Assign_stores (thn (he pins s σ H _ I h) fun v s1 ⟨x,H1,I1,r1,q1⟩=>?_) hs hw
 rw [h1]
 exact thn (hg pins s1 σ H1 x v _ I1 r1 q1) fun _ s2 q=>q
theorem aV {i:Nat} {x:Str} {e:Expr} {te:TE} {pos':Pos} (hN:X.N.Nodup) (hi:X.N[i]? = some x) (hx:Loc X.env.scope x) (he:PE X e te) (hs:swapsWith e (some (.Name x pos')) pos.line X.env=pure false:=by rfl) (hf:X.fn x=true∨X.env.scope.names.lookup x=some .local:=by first | exact .inl rfl | exact .inr rfl | assumption) :
  PS X (.Assign [.Name x pos'] e pos) (zr te (su i)):=by
 intro pins s σ H D I h
 refine wpAny_Assign_Name (thn (he pins s σ H _ I h) fun v s1 ⟨y,H1,I1,r1,q1⟩=>?_) hs
 exact oY I1 hN hi hx r1 (fun s2 I2=>⟨_,H1,I2,q1⟩) hf
end
section
variable {X:Cx} {pos:Pos}
noncomputable def nu (c:TT) (tb:TS):TS:=fun D σ H=>∃W:Nat→St→Hp→Prop,(∃m,W m σ H)∧∀m σ H,W m σ H →
 c σ H fun b H1=>if b=true then ∃N:St→Hp→Prop,(∀σ' H',N σ' H'→∃m',m' < m∧W m' σ' H')∧tb { D with nx:=N,ct:=N,bk:=D.nx } σ H1 else D.nx σ H1
theorem wR {c:Expr} {body:List Stmt} {tc:TT} {tb:TS} (hp:PassesOwn (model X.prog X.w) X.A X.env X.xe) (hc:PT X c tc) (hb:PSs X body tb):PS X (.While c body [] pos) (nu tc tb):=by
 intro pins s σ H D I h
 obtain⟨W,⟨m0,w0⟩,turn⟩:=h
 refine wpAny_While (codeAny_whileLoop (fun n s'=>∃σ' H',Inv X pins σ' H' s'∧W n σ' H') ?_ m0 ⟨σ,H,I,w0⟩)
 rintro n s1 ⟨σ1,H1,I1,w1⟩
 refine wpAny_passesOwn hp (thn (hc pins s1 σ1 H1 _ I1 (turn n σ1 H1 w1)) fun b s2 ⟨H2,I2,q2⟩=>?_)
 cases b with
 | true =>
  obtain⟨N,hN,q2⟩:=q2
  rw [if_pos rfl]
  refine wpAny_passesOwn hp (thn (hb pins s2 σ1 H2 _ I2 q2) fun f s3 q3=>?_)
  cases f with
  | next =>
   obtain⟨σ3,H3,I3,n3⟩:=q3
   obtain⟨m',hm,w3⟩:=hN σ3 H3 n3
   exact⟨m',hm,σ3,H3,I3,w3⟩
  | cont =>
   obtain⟨σ3,H3,I3,n3⟩:=q3
   obtain⟨m',hm,w3⟩:=hN σ3 H3 n3
   exact⟨m',hm,σ3,H3,I3,w3⟩
  | brk=>exact q3
  | ret v=>exact q3
 | false =>
  rw [if_neg Bool.false_ne_true]
  exact wpAny_execs_nil ⟨σ1,H2,I2,q2⟩
end
structure It where
 go:Nat→Hp→Prop
 yld:Nat→Hp→V→Hp→Prop
 stop:Nat→Hp→Prop
noncomputable def iI (X:Cx) (pins:List (Addr×Obj)) (H:Hp) (b:Addr):Prop :=
 H b=none∧b≠X.env.locals∧b∉X.fs∧(b∈X.ex∨X.s₀.heap.objs.size≤b)∧(∀x c,X.env.cells.lookup x=some c→c≠b)∧∀p∈X.pn ++ pins,p.1≠b
theorem Inv.fpOk {X:Cx} {pins:List (Addr×Obj)} {σ:St} {H H':Hp} {s:Shared} {b:Addr} (I:Inv X pins σ H s) (hb:s.heap.objs.size≤b) (hn:H' b=none):iI X pins H' b:=by
 refine⟨hn,Nat.ne_of_gt (Nat.lt_of_lt_of_le I.lt hb),I.nofs hb,.inr (Nat.le_trans I.sz hb),fun x c e z=>?_,fun p hp z=>?_⟩
 ·obtain⟨v,q⟩:=I.cell x c e
  exact absurd (Nat.lt_of_lt_of_le q.lt (by rw [z];exact hb)) (Nat.lt_irrefl _)
 ·exact absurd (Nat.lt_of_lt_of_le (Heap.lt_size (I.pin p hp).1) (by rw [z];exact hb)) (Nat.lt_irrefl _)
structure Turn (P:Program) (w:World) (K:PySem.W.Frag) (tg:Expr) (J:It) (fp:List Addr) (it:Addr) (tn:Nat→Heap→Prop):Prop where
 mem:it∈fp
 obj:∀i h,tn i h→∀b∈fp,∃o,h.get? b=some o∧∀v,o.data≠.cell v
 keep:∀i h h',tn i h→(∀b∈fp,∀o,h.get? b=some o→h'.get? b=some o)→tn i h'
 item:∀ (X:Cx),X.prog=P→X.w=w→X.K=K→X.calm=true→∀ (i:Nat) (pins:List (Addr×Obj)) (s:Shared) (σ:St) (H:Hp) (E:Value→Shared→Prop),Inv X pins σ H s→(∀b∈fp,iI X pins H b)→tn i s.heap→J.go i H →
  wpAny (model P w) X.A (pyNext (.ref it)) (fun r s1=>∃u,r=some u ∧
   wpAny (model P w) X.A (letOwnedTupleGo tg (.ref it) u) (fun _ s2=>∃x H',Inv X pins σ H' s2∧RelV x u∧J.yld i H x H'∧tn (i + 1) s2.heap∧∀b∈fp,H' b=none) E s1) E s
 done:∀ (X:Cx),X.prog=P→X.w=w→X.K=K→X.calm=true→∀ (i:Nat) (pins:List (Addr×Obj)) (s:Shared) (σ:St) (H:Hp) (E:Value→Shared→Prop),Inv X pins σ H s→(∀b∈fp,iI X pins H b)→tn i s.heap→J.stop i H →
  wpAny (model P w) X.A (pyNext (.ref it)) (fun r s1=>r=none∧Inv X pins σ H s1) E s
 self:∀ (A:Around) (i:Nat) (s:Shared) (Q:Value→Shared→Prop) (E:Value→Shared→Prop),tn i s.heap→Q (.ref it) s→wpAny (model P w) A (pyIter (.ref it)) Q E s
noncomputable abbrev TI:=St→Hp→(It→Hp→Prop)→Prop
noncomputable def PIE (X:Cx) (pins:List (Addr×Obj)) (σ:St) (tg:Expr) (R:It→Hp→Prop) (itv:Value) (s2:Shared):Prop :=
 ∃ (it:Addr) (fp:List Addr) (tn:Nat→Heap→Prop) (J:It) (H':Hp),itv=.ref it∧Inv X pins σ H' s2∧Turn X.prog X.w X.K tg J fp it tn∧tn 0 s2.heap∧(∀b∈fp,iI X pins H' b)∧R J H'
noncomputable def PI (X:Cx) (tg iter:Expr) (wi:TI):Prop :=
 ∀ (pins:List (Addr×Obj)) (s:Shared) (σ:St) (H:Hp) (R:It→Hp→Prop),Inv X pins σ H s→wi σ H R →
  wpAny (model X.prog X.w) X.A (eval iter X.env) (fun v s1=>wpAny (model X.prog X.w) X.A (pyIter v) (PIE X pins σ tg R) X.xe s1) X.xe s
theorem o4 {M:Model} {A:Around} {E:Value→Shared→Prop} {s:Shared} {tg:Expr} {it:Addr} {u:Value} {o:Obj} {n:String} {vs:Array Value} {Q:Unit→Shared→Prop} (ho:s.heap.get? it=some o) (hc:o.cls=.type n) (hd:o.data=.fields vs)
    (hn:["enumerate","zip","dict_itemiterator","dict_reverseitemiterator","odict_iterator","itertools.zip_longest","itertools.pairwise"].contains n=false) (hQ:Q () s):wpAny M A (letOwnedTupleGo tg (.ref it) u) Q E s:=by
  unfold letOwnedTupleGo
  cases tg <;> first
    | exact wpAny_pure hQ
    | (cases u <;> first
        | exact wpAny_pure hQ
        | (refine wpAny_bind (wpAny_load ho ?_)
           rw [hc,hd]
           show wpAny M A (if (["enumerate","zip","dict_itemiterator","dict_reverseitemiterator","odict_iterator","itertools.zip_longest","itertools.pairwise"].contains n && vs[0]? == some (rawInt _))=true then _ else _) Q E s
           rw [if_neg (by intro h;rw [hn,Bool.false_and] at h;cases h)]
           exact wpAny_pure hQ))
noncomputable def Itl (K:PySem.W.Frag) (a:Addr):It :=
 ⟨fun i H=>∃xs x,SqL K H a xs∧xs[i]? = some x,fun i H x H'=>H'=H∧∀xs,SqL K H a xs→xs[i]? = some x,fun i H=>∃xs,SqL K H a xs∧xs.length≤i⟩
noncomputable def Itt (K:PySem.W.Frag) (a:Addr):It :=
 ⟨fun i H=>∃xs x,SqT K H a xs∧xs[i]? = some x,fun i H x H'=>H'=H∧∀xs,SqT K H a xs→xs[i]? = some x,fun i H=>∃xs,SqT K H a xs∧xs.length≤i⟩
noncomputable def Itr (lo:Int) (n:Nat):It:=⟨fun i _=>i < n,fun i H x H'=>H'=H∧x=.int (lo + i),fun i _=>n≤i⟩
theorem ux {P:Program} {w:World} {K:PySem.W.Frag} {tg:Expr} (a it:Addr):Turn P w K tg (Itl K a) [it] it (fun i h=>h.IsListIter it a i) where
 mem:=by simp
 obj:=fun i h st b hb=>by
  have e:b=it:=by simpa using hb
  subst e
  obtain⟨o,e,c,d⟩:=st
  exact⟨o,e,fun v z=>by rw [d] at z;cases z⟩
 keep:=fun i h h' st k=>st.at fun o e=>k it (by simp) o e
 item:=by
  intro X hP hw hK hc i pins s σ H E I hf st hg
  subst hP hw hK
  obtain⟨xs,x,hq,hx⟩:=hg
  obtain⟨its,rv,p,hz⟩:=I.list hq
  obtain⟨u,hu,ru⟩:=rv.get hx
  obtain⟨f0,f1,f2,f3,f4,f5⟩:=hf it (by simp)
  refine wpAny_pyNext_list_item st p.isList (x:=u) (by simpa using hu) fun h' st' sb=>?_
  have I1:Inv X pins σ H { s with heap:=h' }:=I.turned (t':=s.toks) (fun b o hb e=>(sb.2 b hb).trans e) f0 f1 f3 f4 f5
  obtain⟨o,e,c,d⟩:=id st'
  exact⟨u,rfl,o4 (s:={ s with heap:=h' }) e c d (by decide) ⟨x,H,I1,ru,⟨rfl,fun ys hy=>by rw [I.list_inj hy hq];exact hx⟩,st',fun b hb=>(hf b hb).1⟩⟩
 done:=by
  intro X hP hw hK hc i pins s σ H E I hf st hg
  subst hP hw hK
  obtain⟨xs,hq,hx⟩:=hg
  obtain⟨its,rv,p,hz⟩:=I.list hq
  obtain⟨f0,f1,f2,f3,f4,f5⟩:=hf it (by simp)
  have hl:=rv.length
  exact wpAny_pyNext_list_end (I.ok.hd hc) st p.isList (by simp;omega) fun h' eb=>⟨rfl,I.turned (t':=s.toks) (fun b o hb e=>eb b o hb e) f0 f1 f3 f4 f5⟩
 self:=fun _ _ _ _ _ st h=>wpAny_pyIter_listiter st h
theorem qI {P:Program} {w:World} {K:PySem.W.Frag} {tg:Expr} (a it:Addr):Turn P w K tg (Itt K a) [it] it (fun i h=>h.IsTupleIter it a i) where
 mem:=by simp
 obj:=fun i h st b hb=>by
  have e:b=it:=by simpa using hb
  subst e
  obtain⟨o,e,c,d⟩:=st
  exact⟨o,e,fun v z=>by rw [d] at z;cases z⟩
 keep:=fun i h h' st k=>st.at fun o e=>k it (by simp) o e
 item:=by
  intro X hP hw hK hc i pins s σ H E I hf st hg
  subst hP hw hK
  obtain⟨xs,x,hq,hx⟩:=hg
  obtain⟨its,rv,p,hz⟩:=I.tuple hq
  obtain⟨u,hu,ru⟩:=rv.get hx
  obtain⟨f0,f1,f2,f3,f4,f5⟩:=hf it (by simp)
  refine wpAny_pyNext_tuple_item st (show s.heap.IsTuple a its.toArray from p) (x:=u) (by simpa using hu) fun h' st' sb=>?_
  have I1:Inv X pins σ H { s with heap:=h' }:=I.turned (t':=s.toks) (fun b o hb e=>(sb.2 b hb).trans e) f0 f1 f3 f4 f5
  obtain⟨o,e,c,d⟩:=id st'
  exact⟨u,rfl,o4 (s:={ s with heap:=h' }) e c d (by decide) ⟨x,H,I1,ru,⟨rfl,fun ys hy=>by rw [I.tuple_inj hy hq];exact hx⟩,st',fun b hb=>(hf b hb).1⟩⟩
 done:=by
  intro X hP hw hK hc i pins s σ H E I hf st hg
  subst hP hw hK
  obtain⟨xs,hq,hx⟩:=hg
  obtain⟨its,rv,p,hz⟩:=I.tuple hq
  obtain⟨f0,f1,f2,f3,f4,f5⟩:=hf it (by simp)
  have hl:=rv.length
  exact wpAny_pyNext_tuple_end (I.ok.hd hc) st (show s.heap.IsTuple a its.toArray from p) (by simp;omega) fun h' eb=>⟨rfl,I.turned (t':=s.toks) (fun b o hb e=>eb b o hb e) f0 f1 f3 f4 f5⟩
 self:=fun _ _ _ _ _ st h=>wpAny_pyIter_tupleiter st h
theorem qJ {P:Program} {w:World} {K:PySem.W.Frag} {tg:Expr} (it:Addr) (lo:Int) (n:Nat):Turn P w K tg (Itr lo n) [it] it (fun i h=>IsRangeIter h it (lo + (i:Nat) * 1) ((n:Int) - (i:Nat)) 1) where
 mem:=by simp
 obj:=fun i h st b hb=>by
  have e:b=it:=by simpa using hb
  subst e
  exact⟨_,st,fun v z=>by
   have z':Data.fields _=Data.cell v:=z
   cases z'⟩
 keep:=fun i h h' st k=>k it (by simp) _ st
 item:=by
  intro X hP hw hK hc i pins s σ H E I hf st hg
  subst hP hw hK
  obtain⟨f0,f1,f2,f3,f4,f5⟩:=hf it (by simp)
  have W:=Walks.range (prog:=X.prog) (w:=X.w) (I.ok.hd hc) it lo 1 n
  refine W.item i s _ _ hg st fun v h' tk hv st' kk=>?_
  obtain⟨t,rfl⟩:=hv
  have I1:Inv X pins σ H { s with heap:=h',toks:=tk }:=I.turned (fun b o hb e=>kk b o (by simpa using hb) e) f0 f1 f3 f4 f5
  refine⟨_,rfl,o4 (s:={ s with heap:=h',toks:=tk }) (n := "range_iterator") st' rfl rfl (by decide) ⟨.int (lo + i),H,I1,⟨t,?_⟩,⟨rfl,rfl⟩,st',fun b hb=>(hf b hb).1⟩⟩
  rw [Int.mul_one]
 done:=by
  intro X hP hw hK hc i pins s σ H E I hf st hg
  subst hP hw hK
  obtain⟨f0,f1,f2,f3,f4,f5⟩:=hf it (by simp)
  exact wpAny_pyNext_range_end (I.ok.hd hc) st (by have:n≤i:=hg;omega) fun h' eb=>⟨rfl,I.turned (t':=s.toks) (fun b o hb e=>eb b o hb e) f0 f1 f3 f4 f5⟩
 self:=fun _ _ _ _ _ st h=>wpAny_pyIter_rangeiter st h
end L2
namespace L2
open PySem PySem.Spec PyProof.Rows
section
variable {X:Cx} {tg:Expr}
noncomputable def By (K:PySem.W.Frag) (tl:TE):TI:=fun σ H R=>tl σ H fun x H1=>∃a,x=.ref a∧(∃xs,SqL K H1 a xs)∧R (Itl K a) H1
noncomputable def Hc (K:PySem.W.Frag) (tl:TE):TI:=fun σ H R=>tl σ H fun x H1=>∃a,x=.ref a∧(∃xs,SqT K H1 a xs)∧R (Itt K a) H1
theorem bQ {l:Expr} {tl:TE} (hl:PE X l tl):PI X tg l (By X.K tl):=by
 intro pins s σ H R I h
 refine thn (hl pins s σ H _ I h) fun v s1 ⟨x,H1,I1,r1,q1⟩=>?_
 obtain⟨a,e,⟨xs,hq⟩,q⟩:=q1
 subst e
 cases r1
 obtain⟨its,rv,p,hz⟩:=I1.list hq
 refine wpAny_pyIter_list p.isList ?_
 refine⟨s1.heap.objs.size,[s1.heap.objs.size],_,_,H1,rfl,I1.kept (t':=s1.toks) fun b o e=>Heap.get?_push_of_some _ e,ux a _,⟨_,Heap.get?_push_size _ rfl,rfl,rfl⟩,fun b hb=>?_,q⟩
 have e:b=s1.heap.objs.size:=by simpa using hb
 subst e
 exact I1.fpOk (Nat.le_refl _) (I1.hok.fresh (Nat.le_refl _))
theorem nA {l:Expr} {tl:TE} (hl:PE X l tl):PI X tg l (Hc X.K tl):=by
 intro pins s σ H R I h
 refine thn (hl pins s σ H _ I h) fun v s1 ⟨x,H1,I1,r1,q1⟩=>?_
 obtain⟨a,e,⟨xs,hq⟩,q⟩:=q1
 subst e
 cases r1
 obtain⟨its,rv,p,hz⟩:=I1.tuple hq
 refine wpAny_pyIter_tuple (show s1.heap.IsTuple a its.toArray from p) ?_
 refine⟨s1.heap.objs.size,[s1.heap.objs.size],_,_,H1,rfl,I1.kept (t':=s1.toks) fun b o e=>Heap.get?_push_of_some _ e,qI a _,⟨_,Heap.get?_push_size _ rfl,rfl,rfl⟩,fun b hb=>?_,q⟩
 have e:b=s1.heap.objs.size:=by simpa using hb
 subst e
 exact I1.fpOk (Nat.le_refl _) (I1.hok.fresh (Nat.le_refl _))
theorem wU {pins:List (Addr×Obj)} {σ:St} {H:Hp} {s:Shared} {R:It→Hp→Prop} {E:Value→Shared→Prop} {lo hi:Int} {t u v:Tok} {tk:Nat} (I:Inv X pins σ H s) (h1:-(2 ^ 62)≤lo) (h2:lo < 2 ^ 62) (h3:-(2 ^ 62)≤hi) (h4:hi < 2 ^ 62)
  (q:R (Itr lo (hi - lo).toNat) H):wpAny (model X.prog X.w) X.A (pyIter (.ref s.heap.objs.size)) (PIE X pins σ tg R) E { s with heap:=s.heap.push { cls:=.type "range",data:=.fields #[.int lo t,.int hi u,.int 1 v] },toks:=tk }:=by
 refine wpAny_pyIter_range (IsRange.new ..) (small_one h1 h2 h3 h4) ?_
 have I1:Inv X pins σ H { s with heap:=s.heap.push { cls:=.type "range",data:=.fields #[.int lo t,.int hi u,.int 1 v] },toks:=tk }:=I.kept fun b o e=>Heap.get?_push_of_some _ e
 refine⟨(s.heap.push { cls:=.type "range",data:=.fields #[.int lo t,.int hi u,.int 1 v] }).objs.size,[(s.heap.push { cls:=.type "range",data:=.fields #[.int lo t,.int hi u,.int 1 v] }).objs.size],_,_,H,rfl,
  I1.kept (t':=tk) fun b o e=>Heap.get?_push_of_some _ e,qJ _ lo (hi - lo).toNat,?_,fun b hb=>?_,q⟩
 ·have e1:lo + ((0:Nat):Int) * 1=lo:=by simp
  have e2:(((hi - lo).toNat:Nat):Int) - ((0:Nat):Int)=Builtin.Range.rangeSize lo hi 1:=by rw [rangeSize_one];split <;> omega
  show IsRangeIter _ _ (lo + ((0:Nat):Int) * 1) ((((hi - lo).toNat:Nat):Int) - ((0:Nat):Int)) 1
  rw [e1,e2]
  exact Heap.get?_push_size _ rfl
 ·have e:b=(s.heap.push { cls:=.type "range",data:=.fields #[.int lo t,.int hi u,.int 1 v] }).objs.size:=by simpa using hb
  subst e
  exact I1.fpOk (Nat.le_refl _) (I1.hok.fresh (Nat.le_refl _))
noncomputable def BJ (ta:TA):TI:=fun σ H R=>ta σ H fun vs H1=>∃j:Int,vs=[.int j]∧-(2 ^ 62)≤j∧j < 2 ^ 62∧R (Itr 0 j.toNat) H1
noncomputable def Hd (ta:TA):TI:=fun σ H R=>ta σ H fun vs H1=>∃i j:Int,vs=[.int i,.int j]∧(-(2 ^ 62)≤i∧i < 2 ^ 62∧-(2 ^ 62)≤j∧j < 2 ^ 62)∧R (Itr i (j - i).toNat) H1
theorem bM {a:Expr} {ta:TA} {p pos:Pos} (hg:Gl X "range") (hm:X.mg "range" = none) (ha:PA X [a] ta) (hs:starEach [a] X.env=[(false,eval a X.env)]:=by rfl):PI X tg (.Call (.Name "range" p) [a] [] pos) (BJ ta):=by
 intro pins s σ H R I h
 refine Call_ (ir I hg hm boot_range (PyProof.Rows.callWith_type1 (thn (ha pos pins s σ H _ I h) fun us s1 ⟨vs,H1,I1,r1,q1⟩=>?_) hs rfl))
 obtain⟨j,e,q1,q2,q⟩:=q1
 subst e
 cases r1 with
 | cons r rr =>
  cases rr
  obtain⟨t,rfl⟩:=r
  exact call_range_1 (wU I1 (by omega) (by omega) q1 q2 (by simpa using q))
noncomputable def zx (wi:TI) (g:TG) (tb:TS):TS:=fun D σ H=>wi σ H fun J H1=>∃W:Nat→Nat→St→Hp→Prop,(∃m,W 0 m σ H1)∧∀i m σ H,W i m σ H →
 (J.stop i H∧D.nx σ H)∨(J.go i H∧∃N:St→Hp→Prop,(∀σ' H',N σ' H'→∃m',m' < m∧W (i + 1) m' σ' H')∧∀x H',J.yld i H x H'→g x σ H' fun σ2 H2=>tb { D with nx:=N,ct:=N,bk:=D.nx } σ2 H2)
noncomputable def jP (fp:List Addr) (h:Heap):List (Addr×Obj):=fp.filterMap fun b=>(h.get? b).map fun o=>(b,o)
theorem fJ {fp:List Addr} {h:Heap} {b:Addr} {o:Obj} (hb:b∈fp) (e:h.get? b=some o):(b,o)∈jP fp h:=List.mem_filterMap.mpr ⟨b,hb,by rw [e];rfl⟩
theorem uy {fp:List Addr} {h:Heap} {p:Addr×Obj} (hp:p∈jP fp h):p.1∈fp∧h.get? p.1=some p.2:=by
 obtain⟨b,hb,e⟩:=List.mem_filterMap.mp hp
 cases q:h.get? b with
 | none=>rw [q] at e;cases e
 | some o =>
  rw [q] at e
  have e':(b,o)=p:=Option.some.inj e
  subst e'
  exact⟨hb,q⟩
theorem Inv.pinned {pins:List (Addr×Obj)} {σ:St} {H:Hp} {s:Shared} {fp:List Addr} (I:Inv X pins σ H s) (hf:∀b∈fp,iI X pins H b) (ho:∀b∈fp,∃o,s.heap.get? b=some o∧∀v,o.data≠.cell v):Inv X (pins ++ jP fp s.heap) σ H s :=
 I.pins_of fun p hp=>(List.mem_append.mp hp).elim (fun z=>I.pin p (List.mem_append_right _ z)) fun z=>by
  obtain⟨hb,e⟩:=uy z
  obtain⟨f0,f1,f2,_⟩:=hf p.1 hb
  obtain⟨o,e',d⟩:=ho p.1 hb
  rw [e] at e'; cases e'
  exact⟨e,f0,f1,f2,d⟩
theorem Inv.unpinned {pins pl:List (Addr×Obj)} {σ:St} {H:Hp} {s:Shared} (I:Inv X (pins ++ pl) σ H s):Inv X pins σ H s:=I.pins_of fun p hp=>I.pin p (List.mem_append_right _ (List.mem_append_left _ hp))
theorem bN {iter:Expr} {body:List Stmt} {wi:TI} {g:TG} {tb:TS} {pos:Pos} (hp:PassesOwn (model X.prog X.w) X.A X.env X.xe) (hc:X.calm=true) (hi:PI X tg iter wi) (hg:PG X tg g) (hb:PSs X body tb)
  (hs:∀x,foldedSetIterable iter X.env x=pure x:=by intro _;rfl):PS X (.For tg iter body [] pos) (zx wi g tb):=by
 intro pins s σ H D I h
 refine wpAny_For (thn (hi pins s σ H _ I h) fun v s1 h1=>thn h1 fun itv s2 h2=>?_) hs
 obtain⟨it,fp,tn,J,H2,e,I2,T,st2,f2,W,⟨m0,w0⟩,turn⟩:=h2
 subst e
 have stat:∀ {H':Hp},(∀b∈fp,H' b=none)→∀b∈fp,iI X pins H' b:=fun hn b hb=>⟨hn b hb,(f2 b hb).2⟩
 refine codeAny_forLoop_any (fun n s'=>∃i σ' H',Inv X pins σ' H' s'∧tn i s'.heap∧(∀b∈fp,H' b=none)∧W i n σ' H') ?_ m0 ⟨0,σ,H2,I2,st2,fun b hb=>(f2 b hb).1,w0⟩
 rintro n s3 ⟨i,σ3,H3,I3,st3,fr3,w3⟩
 rcases turn i n σ3 H3 w3 with ⟨stop,qn⟩ | ⟨go,N,hN,step⟩
 ·refine wpAny_passesOwn hp (thn (T.done X rfl rfl rfl hc i pins s3 σ3 H3 X.xe I3 (stat fr3) st3 stop) fun r s4 ⟨hr,I4⟩=>?_)
  subst hr
  exact wpAny_execs_nil ⟨σ3,H3,I4,qn⟩
 ·refine wpAny_passesOwn hp (thn (T.item X rfl rfl rfl hc i pins s3 σ3 H3 X.xe I3 (stat fr3) st3 go) fun r s4 ⟨u,hr,h4⟩=>?_)
  subst hr
  refine wpAny_passesOwn hp (thn h4 fun _ s5 ⟨x,H5,I5,r5,y5,st5,fr5⟩=>?_)
  have I5':=I5.pinned (stat fr5) (T.obj _ _ st5)
  refine wpAny_passesOwn hp (thn (hg _ s5 σ3 H5 x u _ I5' r5 (step x H5 y5)) fun _ s6 ⟨σ6,H6,I6,q6⟩=>?_)
  refine wpAny_passesOwn hp (thn (hb _ s6 σ6 H6 _ I6 q6) fun f s7 q7=>?_)
  have again:∀ {σ7:St} {H7:Hp},Inv X (pins ++ jP fp s5.heap) σ7 H7 s7→N σ7 H7→∃m,m < n∧∃i σ' H',Inv X pins σ' H' s7∧tn i s7.heap∧(∀b∈fp,H' b=none)∧W i m σ' H':=fun {σ7 H7} I7 n7=>by
   obtain⟨m',hm,w7⟩:=hN σ7 H7 n7
   refine⟨m',hm,i + 1,σ7,H7,I7.unpinned,T.keep _ _ _ st5 fun b hb o e=>(I7.pin (b,o) (List.mem_append_right _ (List.mem_append_right _ (fJ hb e)))).1,fun b hb=>?_,w7⟩
   obtain⟨o,e,d⟩:=T.obj _ _ st5 b hb
   exact (I7.pin (b,o) (List.mem_append_right _ (List.mem_append_right _ (fJ hb e)))).2.1
  cases f with
  | next=>obtain⟨σ7,H7,I7,n7⟩:=q7;exact again I7 n7
  | cont=>obtain⟨σ7,H7,I7,n7⟩:=q7;exact again I7 n7
  | brk=>obtain⟨σ7,H7,I7,q7⟩:=q7;exact⟨σ7,H7,I7.unpinned,q7⟩
  | ret v=>obtain⟨x7,σ7,H7,I7,r7,q7⟩:=q7;exact⟨x7,σ7,H7,I7.unpinned,r7,q7⟩
end
end L2
namespace L2
open PySem PySem.Spec PyProof.Rows
noncomputable abbrev R2:=V→V→Hp→VK→Prop
noncomputable def OpR (X:Cx) (f:Value→Value→Sem Value) (r:R2):Prop :=
 ∀ (pins:List (Addr×Obj)) (s:Shared) (σ:St) (H:Hp) (x y:V) (v u:Value) (Q:VK),Inv X pins σ H s→RelV x v→RelV y u→r x y H Q →
  wpAny (model X.prog X.w) X.A (f v u) (EP X pins σ Q) X.xe s
noncomputable def UnR (X:Cx) (f:Value→Sem Value) (r:V→Hp→VK→Prop):Prop :=
 ∀ (pins:List (Addr×Obj)) (s:Shared) (σ:St) (H:Hp) (x:V) (v:Value) (Q:VK),Inv X pins σ H s→RelV x v→r x H Q →
  wpAny (model X.prog X.w) X.A (f v) (EP X pins σ Q) X.xe s
noncomputable def dC (X:Cx) (f:Value) (r:List V→Hp→VK→Prop):Prop :=
 ∀ (pins:List (Addr×Obj)) (s:Shared) (σ:St) (H:Hp) (xs:List V) (us:List Value) (Q:VK),Inv X pins σ H s→Vals xs us→r xs H Q →
  wpAny (model X.prog X.w) X.A (call f us) (EP X pins σ Q) X.xe s
noncomputable def tOp (r:R2) (ta tb:TE):TE:=fun σ H Q=>ta σ H fun x H1=>tb σ H1 fun y H2=>r x y H2 Q
noncomputable def tUn (r:V→Hp→VK→Prop) (ta:TE):TE:=fun σ H Q=>ta σ H fun x H1=>r x H1 Q
noncomputable def rI (C:Int→Int→Prop) (g:Int→Int→V):R2:=fun x y H Q=>∃i j,x=.int i∧y=.int j∧C i j∧Q (g i j) H
noncomputable def rI0 (g:Int→Int→V):R2:=fun x y H Q=>∃i j,x=.int i∧y=.int j∧Q (g i j) H
noncomputable def rU (g:Int→V):V→Hp→VK→Prop:=fun x H Q=>∃i,x=.int i∧Q (g i) H
section
variable {X:Cx} {a b c:Expr} {ta tb tc:TE} {pos:Pos}
theorem Di (ha:PE X a ta) (hb:PE X b tb) {pins:List (Addr×Obj)} {s:Shared} {σ:St} {H:Hp} {R:V→V→Hp→Prop} (I:Inv X pins σ H s)
  (h:ta σ H fun x H1=>tb σ H1 fun y H2=>R x y H2) {Q:Value→Shared→Prop} {f:Value→Value→Sem Value}
  (hf:∀v u s2 x y H2,Inv X pins σ H2 s2→RelV x v→RelV y u→R x y H2→wpAny (model X.prog X.w) X.A (f v u) Q X.xe s2) :
  wpAny (model X.prog X.w) X.A (eval a X.env) (fun v s₁=>wpAny (model X.prog X.w) X.A (eval b X.env) (fun u s₂=>wpAny (model X.prog X.w) X.A (f v u) Q X.xe s₂) X.xe s₁) X.xe s:=by
 refine thn (ha pins s σ H _ I h) fun v s1 ⟨x,H1,I1,r1,q1⟩=>?_
 refine thn (hb pins s1 σ H1 _ I1 q1) fun u s2 ⟨y,H2,I2,r2,q2⟩=>?_
 exact hf v u s2 x y H2 I2 r1 r2 q2
theorem aD {op:Operator} {r:R2} (ho:OpR X (binaryOp op) r) (ha:PE X a ta) (hb:PE X b tb):PE X (.BinOp a op b pos) (tOp r ta tb):=by
 intro pins s σ H Q I h
 exact wpAny_BinOp (Di ha hb I h fun v u s2 x y H2 I2 rx ry q=>ho pins s2 σ H2 x y v u Q I2 rx ry q)
theorem cW {op:UnaryOp} {r:V→Hp→VK→Prop} (ho:UnR X (unaryOp op) r) (ha:PE X a ta):PE X (.UnaryOp op a pos) (tUn r ta):=by
 intro pins s σ H Q I h
 exact UnaryOp_ (thn (ha pins s σ H _ I h) fun v s1 ⟨x,H1,I1,r1,q1⟩=>ho pins s1 σ H1 x v Q I1 r1 q1)
theorem opI {f:Value→Value→Sem Value} {C:Int→Int→Prop} {g:Int→Int→Int}
  (rule:∀ (i j:Int) (t u:Tok) (s:Shared) (Q:Value→Shared→Prop) (E:Value→Shared→Prop),C i j→Q (.int (g i j) s.toks) { s with toks:=s.toks + 1 }→wpAny (model X.prog X.w) X.A (f (.int i t) (.int j u)) Q E s) :
  OpR X f (rI C fun i j=>.int (g i j)):=by
 intro pins s σ H x y v u Q I rx ry h
 obtain⟨i,j,rfl,rfl,hc,q⟩:=h
 obtain⟨t,rfl⟩:=rx
 obtain⟨t',rfl⟩:=ry
 exact rule i j t t' s _ _ hc ⟨.int (g i j),H,I.tok _,⟨_,rfl⟩,q⟩
theorem Dj {f:Value→Value→Sem Value} {g:Int→Int→Int}
  (rule:∀ (i j:Int) (t u:Tok) (s:Shared) (Q:Value→Shared→Prop) (E:Value→Shared→Prop),Q (.int (g i j) s.toks) { s with toks:=s.toks + 1 }→wpAny (model X.prog X.w) X.A (f (.int i t) (.int j u)) Q E s) :
  OpR X f (rI0 fun i j=>.int (g i j)):=by
 intro pins s σ H x y v u Q I rx ry h
 obtain⟨i,j,rfl,rfl,q⟩:=h
 obtain⟨t,rfl⟩:=rx
 obtain⟨t',rfl⟩:=ry
 exact rule i j t t' s _ _ ⟨.int (g i j),H,I.tok _,⟨_,rfl⟩,q⟩
theorem zy {f:Value→Value→Sem Value} {g:Int→Int→Bool}
  (rule:∀ (i j:Int) (t u:Tok) (s:Shared) (Q:Value→Shared→Prop) (E:Value→Shared→Prop),Q (.bool (g i j)) s→wpAny (model X.prog X.w) X.A (f (.int i t) (.int j u)) Q E s) :
  OpR X f (rI0 fun i j=>.bl (g i j)):=by
 intro pins s σ H x y v u Q I rx ry h
 obtain⟨i,j,rfl,rfl,q⟩:=h
 obtain⟨t,rfl⟩:=rx
 obtain⟨t',rfl⟩:=ry
 exact rule i j t t' s _ _ ⟨.bl (g i j),H,I,rfl,q⟩
noncomputable def IW (i j:Int):Prop:=0 < j∧j < 1073741824
noncomputable def Hf (i j:Int):Prop:=0≤j∧j≤1000000∧i.natAbs < 2 ^ 64
noncomputable def CMul (i j:Int):Prop:=(-(2 ^ 64) < i∧i < 2 ^ 64)∨(-(2 ^ 64) < j∧j < 2 ^ 64)
theorem CMul.ok {i j:Int} (h:CMul i j):IntMulOk i j:=by
 rcases h with ⟨h1,h2⟩ | ⟨h1,h2⟩
 ·exact .of_left (intBits_le_64 h1 h2)
 ·exact .of_right (intBits_le_64 h1 h2)
theorem two_pow_nn (k:Nat):(0:Int)≤2 ^ k:=by
 rw [two_pow_cast]
 exact Int.natCast_nonneg _
theorem bj:OpR X (binaryOp .Add) (rI0 fun i j=>.int (i + j)):=Dj fun _ _ _ _ _ _ _ q=>add_int q
theorem dz:OpR X (binaryOp .Sub) (rI0 fun i j=>.int (i - j)):=Dj fun _ _ _ _ _ _ _ q=>sub_int q
theorem cZ:OpR X (binaryOp .Mult) (rI CMul fun i j=>.int (i * j)):=opI fun _ _ _ _ _ _ _ hc q=>mul_int q hc.ok
theorem d9:OpR X (binaryOp .FloorDiv) (rI IW fun i j=>.int (i / j)):=opI fun i j _ _ _ _ _ hc q=>by
 have h1:(0:Int) < j:=hc.1
 have h2:j < 1073741824:=hc.2
 exact floordiv_int (by omega) (by rw [Int.fdiv_eq_ediv_of_nonneg i (by omega)];exact q) (.inl (PyProof.noPylong_small (by omega)))
theorem bu:OpR X (binaryOp .Mod) (rI (fun _ j=>0 < j) fun i j=>.int (i % j)):=opI fun i j _ _ _ _ _ hc q=>by
 have h1:(0:Int) < j:=hc
 exact mod_int' (by omega) (by rw [Int.fmod_eq_emod_of_nonneg i (by omega)];exact q)
theorem fj:OpR X (binaryOp .Pow) (rI Hf fun i j=>.int (i ^ j.toNat)):=opI fun _ _ _ _ _ _ _ hc q=>pow_int_small hc.1 hc.2.1 hc.2.2 q
theorem nC:OpR X (binaryOp .LShift) (rI Hf fun i j=>.int (i * 2 ^ j.toNat)):=opI fun _ _ _ _ _ _ _ hc q=>lshift_int_small hc.1 hc.2.1 hc.2.2 q
theorem Dk:OpR X (binaryOp .RShift) (rI (fun _ j=>0≤j) fun i j=>.int (i / 2 ^ j.toNat)):=opI fun i j _ _ _ _ _ hc q =>
 rshift_int hc (by rw [Int.fdiv_eq_ediv_of_nonneg i (two_pow_nn _)];exact q)
theorem nD:OpR X (binaryOp .BitAnd) (rI0 fun i j=>.int (Builtin.bitAnd i j)):=Dj fun _ _ _ _ _ _ _ q=>and_int q
theorem unI {f:Value→Sem Value} {g:Int→Int}
  (rule:∀ (i:Int) (t:Tok) (s:Shared) (Q:Value→Shared→Prop) (E:Value→Shared→Prop),Q (.int (g i) s.toks) { s with toks:=s.toks + 1 }→wpAny (model X.prog X.w) X.A (f (.int i t)) Q E s) :
  UnR X f (rU fun i=>.int (g i)):=by
 intro pins s σ H x v Q I rx h
 obtain⟨i,rfl,q⟩:=h
 obtain⟨t,rfl⟩:=rx
 exact rule i t s _ _ ⟨.int (g i),H,I.tok _,⟨_,rfl⟩,q⟩
theorem cz:UnR X (unaryOp .USub) (rU fun i=>.int (-i)):=unI fun _ _ _ _ _ q=>neg_int q
end
noncomputable def wV:V→V→Bool
 | .non,.non=>true | .non,.int _=>true | .int _,.non=>true | .non,.bl _=>true | .bl _,.non=>true | .non,.str _=>true | .str _,.non=>true
 | .int _,.int _=>true | .bl _,.bl _=>true | .str _,.str _=>true | .byt _,.byt _=>true
 | .int _,.str _=>true | .str _,.int _=>true | .bl _,.str _=>true | .str _,.bl _=>true
 | _,_=>false
noncomputable def rEq:R2:=fun x y H Q=>wV x y=true∧Q (.bl (decide (x=y))) H
noncomputable def rNe:R2:=fun x y H Q=>wV x y=true∧Q (.bl (!decide (x=y))) H
theorem sy {i j:Int}:decide (V.int i=V.int j)=(i == j):=by
 rw [Bool.eq_iff_iff]
 simp
theorem wW {i j:Bool}:decide (V.bl i=V.bl j)=(i == j):=by
 rw [Bool.eq_iff_iff]
 simp
theorem sE {i j:Str}:decide (V.str i=V.str j)=(i == j):=by
 rw [Bool.eq_iff_iff]
 simp
theorem sG {i j:Array UInt8}:decide (V.byt i=V.byt j)=(i.toList == j.toList):=by
 rw [Bool.eq_iff_iff]
 cases i
 cases j
 simp
section
variable {X:Cx} {a b c:Expr} {ta tb tc:TE} {pos:Pos}
theorem bO {pins:List (Addr×Obj)} {σ:St} {H:Hp} {s:Shared} {Q:VK} {k k':Bool} (I:Inv X pins σ H s) (q:Q (.bl k) H) (e:k=k'):EP X pins σ Q (.bool k') s:=by
 subst e
 exact⟨.bl k,H,I,rfl,q⟩
theorem bZ:OpR X (compareOp .Eq) rEq:=by
 intro pins s σ H x y v u Q I rx ry h
 obtain⟨hs,q⟩:=h
 cases x with
 | non =>
  cases rx
  cases y with
  | non=>cases ry;exact PySem.EqNone.eq_none_none (bO I q (by simp))
  | bl j=>cases ry;exact PySem.EqNone.eq_none_bool (bO I q (by simp))
  | int j=>obtain⟨t',rfl⟩:=ry;exact PySem.EqNone.eq_none_int (bO I q (by simp))
  | str j=>obtain⟨t',rfl⟩:=ry;exact PySem.EqNone.eq_none_str (bO I q (by simp))
  | _=>exact absurd (show false=true from hs) Bool.false_ne_true
 | bl i =>
  cases rx
  cases y with
  | non=>cases ry;exact PySem.EqNone.eq_bool_none (bO I q (by simp))
  | bl j=>cases ry;exact eq_bool (bO I q wW)
  | str j=>obtain⟨t',rfl⟩:=ry;exact PySem.EqMixed.eq_bool_str (bO I q (by simp))
  | _=>exact absurd (show false=true from hs) Bool.false_ne_true
 | int i =>
  obtain⟨t,rfl⟩:=rx
  cases y with
  | non=>cases ry;exact PySem.EqNone.eq_int_none (bO I q (by simp))
  | int j=>obtain⟨t',rfl⟩:=ry;exact eq_int (bO I q sy)
  | str j=>obtain⟨t',rfl⟩:=ry;exact PySem.EqMixed.eq_int_str (bO I q (by simp))
  | _=>exact absurd (show false=true from hs) Bool.false_ne_true
 | str i =>
  obtain⟨t,rfl⟩:=rx
  cases y with
  | non=>cases ry;exact PySem.EqNone.eq_str_none (bO I q (by simp))
  | bl j=>cases ry;exact PySem.EqMixed.eq_str_bool (bO I q (by simp))
  | int j=>obtain⟨t',rfl⟩:=ry;exact PySem.EqMixed.eq_str_int (bO I q (by simp))
  | str j=>obtain⟨t',rfl⟩:=ry;exact eq_str (bO I q sE)
  | _=>exact absurd (show false=true from hs) Bool.false_ne_true
 | byt i =>
  obtain⟨t,rfl⟩:=rx
  cases y with
  | byt j=>obtain⟨t',rfl⟩:=ry;exact PySem.W.eq_bytes (bO I q sG)
  | _=>exact absurd (show false=true from hs) Bool.false_ne_true
 | _=>cases y <;> exact absurd (show false=true from hs) Bool.false_ne_true
theorem wX:OpR X (compareOp .NotEq) rNe:=by
 intro pins s σ H x y v u Q I rx ry h
 obtain⟨hs,q⟩:=h
 cases x with
 | non =>
  cases rx
  cases y with
  | non=>cases ry;exact PySem.EqNone.ne_none_none (bO I q (by simp))
  | bl j=>cases ry;exact PySem.EqNone.ne_none_bool (bO I q (by simp))
  | int j=>obtain⟨t',rfl⟩:=ry;exact PySem.EqNone.ne_none_int (bO I q (by simp))
  | str j=>obtain⟨t',rfl⟩:=ry;exact PySem.EqNone.ne_none_str (bO I q (by simp))
  | _=>exact absurd (show false=true from hs) Bool.false_ne_true
 | bl i =>
  cases rx
  cases y with
  | non=>cases ry;exact PySem.EqNone.ne_bool_none (bO I q (by simp))
  | bl j=>cases ry;exact ne_bool (bO I q (congrArg not wW))
  | str j=>obtain⟨t',rfl⟩:=ry;exact PySem.EqMixed.ne_bool_str (bO I q (by simp))
  | _=>exact absurd (show false=true from hs) Bool.false_ne_true
 | int i =>
  obtain⟨t,rfl⟩:=rx
  cases y with
  | non=>cases ry;exact PySem.EqNone.ne_int_none (bO I q (by simp))
  | int j=>obtain⟨t',rfl⟩:=ry;exact ne_int (bO I q (congrArg not sy))
  | str j=>obtain⟨t',rfl⟩:=ry;exact PySem.EqMixed.ne_int_str (bO I q (by simp))
  | _=>exact absurd (show false=true from hs) Bool.false_ne_true
 | str i =>
  obtain⟨t,rfl⟩:=rx
  cases y with
  | non=>cases ry;exact PySem.EqNone.ne_str_none (bO I q (by simp))
  | bl j=>cases ry;exact PySem.EqMixed.ne_str_bool (bO I q (by simp))
  | int j=>obtain⟨t',rfl⟩:=ry;exact PySem.EqMixed.ne_str_int (bO I q (by simp))
  | str j=>obtain⟨t',rfl⟩:=ry;exact ne_str (bO I q (congrArg not sE))
  | _=>exact absurd (show false=true from hs) Bool.false_ne_true
 | byt i =>
  obtain⟨t,rfl⟩:=rx
  cases y with
  | byt j=>obtain⟨t',rfl⟩:=ry;exact PySem.W.ne_bytes (bO I q (congrArg not sG))
  | _=>exact absurd (show false=true from hs) Bool.false_ne_true
 | _=>cases y <;> exact absurd (show false=true from hs) Bool.false_ne_true
theorem dZ:OpR X (compareOp .Lt) (rI0 fun i j=>.bl (decide (i < j))):=zy fun _ _ _ _ _ _ _ q=>lt_int q
theorem dh:OpR X (compareOp .LtE) (rI0 fun i j=>.bl (decide (i≤j))):=zy fun _ _ _ _ _ _ _ q=>le_int q
theorem jQ:OpR X (compareOp .Gt) (rI0 fun i j=>.bl (decide (j < i))):=zy fun _ _ _ _ _ _ _ q=>gt_int q
theorem lR:OpR X (compareOp .GtE) (rI0 fun i j=>.bl (decide (j≤i))):=zy fun _ _ _ _ _ _ _ q=>ge_int q
theorem nF:OpR X (compareOp .Is) (fun x y H Q=>y=.non∧Q (.bl (decide (x=.non))) H):=by
 intro pins s σ H x y v u Q I rx ry h
 obtain⟨rfl,q⟩:=h
 cases ry
 refine is_none_gen (bO I q ?_)
 cases x <;> first
  | (cases rx;rfl)
  | (obtain⟨t,rfl⟩:=rx;rfl)
theorem nG:OpR X (compareOp .IsNot) (fun x y H Q=>y=.non∧Q (.bl (!decide (x=.non))) H):=by
 intro pins s σ H x y v u Q I rx ry h
 obtain⟨rfl,q⟩:=h
 cases ry
 refine isnot_none_gen (bO I q ?_)
 cases x <;> first
  | (cases rx;rfl)
  | (obtain⟨t,rfl⟩:=rx;rfl)
theorem aR (b:Expr) {op:CmpOp} (h:op≠.In:=by decide) (h2:op≠.NotIn:=by decide):behindInMarks op b=false:=by
 have e1:(op == CmpOp.In)=false:=by cases op <;> first | rfl | exact absurd rfl h
 have e2:(op == CmpOp.NotIn)=false:=by cases op <;> first | rfl | exact absurd rfl h2
 cases b <;> simp [behindInMarks,e1,e2]
theorem cX {op:CmpOp} {r:R2} (ho:OpR X (compareOp op) r) (ha:PE X a ta) (hb:PE X b tb) (hm:behindInMarks op b=false):PE X (.Compare a [op] [b] pos) (tOp r ta tb):=by
 intro pins s σ H Q I h
 exact wpAny_Compare1 (Di ha hb I h fun v u s2 x y H2 I2 rx ry q=>ho pins s2 σ H2 x y v u Q I2 rx ry q) hm
noncomputable def wY (t:TE):TT:=fun σ H Q=>t σ H fun x H'=>∃k,x=.bl k∧Q k H'
theorem aQ {op:CmpOp} {r:R2} (ho:OpR X (compareOp op) r) (ha:PE X a ta) (hb:PE X b tb) (hm:behindInMarks op b=false):PT X (.Compare a [op] [b] pos) (wY (tOp r ta tb)):=by
 intro pins s σ H Q I h
 refine wpAny_isTrue_Compare1 (thn (ha pins s σ H _ I h) fun v s1 ⟨x,H1,I1,r1,q1⟩=>thn (hb pins s1 σ H1 _ I1 q1) fun u s2 ⟨y,H2,I2,r2,q2⟩ =>
  thn (ho pins s2 σ H2 x y v u _ I2 r1 r2 q2) fun c s3 ⟨z,H3,I3,r3,k,e,q3⟩=>?_) hm
 subst e
 cases r3
 exact wpAny_truthy_bool ⟨H3,I3,q3⟩
noncomputable def qK (r r':R2) (ta tb tc:TE):TE:=fun σ H Q=>ta σ H fun x H1=>tb σ H1 fun y H2=>r x y H2 fun z H3=>∃k,z=.bl k ∧
 (if k=true then tc σ H3 fun w' H4=>r' y w' H4 Q else Q (.bl false) H3)
theorem cT {op op':CmpOp} {r r':R2} (ho:OpR X (compareOp op) r) (ho':OpR X (compareOp op') r') (ha:PE X a ta) (hb:PE X b tb) (hc:PE X c tc)
  (hm:lastMarks [op,op'] [b,c]=false:=by with_unfolding_all rfl):PE X (.Compare a [op,op'] [b,c] pos) (qK r r' ta tb tc):=by
 intro pins s σ H Q I h
 refine Compare_chain (thn (ha pins s σ H _ I h) fun v s1 ⟨x,H1,I1,r1,q1⟩=>chain_link (thn (hb pins s1 σ H1 _ I1 q1) fun u s2 ⟨y,H2,I2,r2,q2⟩ =>
  thn (ho pins s2 σ H2 x y v u _ I2 r1 r2 q2) fun d s3 ⟨z,H3,I3,r3,k,e,q3⟩=>?_)) hm
 subst e
 cases r3
 refine wpAny_truthy_bool ?_
 cases k with
 | false=>exact ite_ff ⟨.bl false,H3,I3,rfl,q3⟩
 | true=>exact ite_tt (chain_last (thn (hc pins s3 σ H3 _ I3 q3) fun w' s4 ⟨z',H4,I4,r4,q4⟩=>ho' pins s4 σ H4 y z' u w' Q I4 r2 r4 q4))
theorem jR {op op':CmpOp} {r r':R2} (ho:OpR X (compareOp op) r) (ho':OpR X (compareOp op') r') (ha:PE X a ta) (hb:PE X b tb) (hc:PE X c tc)
  (hm:lastMarks [op,op'] [b,c]=false:=by with_unfolding_all rfl):PT X (.Compare a [op,op'] [b,c] pos) (wY (qK r r' ta tb tc)):=by
 intro pins s σ H Q I h
 refine isTrue_chain (thn (ha pins s σ H _ I h) fun v s1 ⟨x,H1,I1,r1,q1⟩=>test_link (thn (hb pins s1 σ H1 _ I1 q1) fun u s2 ⟨y,H2,I2,r2,q2⟩ =>
  thn (ho pins s2 σ H2 x y v u _ I2 r1 r2 q2) fun d s3 ⟨z,H3,I3,r3,k,e,q3⟩=>?_)) hm
 subst e
 cases r3
 refine wpAny_truthy_bool ?_
 cases k with
 | false =>
  obtain⟨k',e',q'⟩:=q3
  cases e'
  exact ite_ff ⟨H3,I3,q'⟩
 | true =>
  refine ite_tt (test_last (thn (hc pins s3 σ H3 _ I3 q3) fun w' s4 ⟨z',H4,I4,r4,q4⟩=>thn (ho' pins s4 σ H4 y z' u w' _ I4 r2 r4 q4) fun d' s5 ⟨z2,H5,I5,r5,k2,e2,q5⟩=>?_))
  subst e2
  cases r5
  exact wpAny_truthy_bool ⟨H5,I5,q5⟩
theorem qL:(sizeLine:Nat) < 2 ^ 63:=by rw [sizeLine_eq];decide
theorem vals1 {x:V} {us:List Value} (r:Vals [x] us):∃u,us=[u]∧RelV x u:=by
 cases r with
 | cons r1 r2=>cases r2;exact⟨_,rfl,r1⟩
theorem vals2 {x y:V} {us:List Value} (r:Vals [x,y] us):∃u w',us=[u,w']∧RelV x u∧RelV y w':=by
 cases r with
 | cons r1 r2 =>
  cases r2 with
  | cons r3 r4=>cases r4;exact⟨_,_,rfl,r1,r3⟩
theorem uz (hc:X.calm=true):dC X (.builtin "max") (fun xs H Q=>∃i j,xs=[.int i,.int j]∧Q (.int (if j > i then j else i)) H):=by
 intro pins s σ H xs us Q I r h
 obtain⟨i,j,rfl,q⟩:=h
 obtain⟨u,w',rfl,⟨t,rfl⟩,⟨t',rfl⟩⟩:=vals2 r
 refine max_two_ints (I.ok.hd hc) fun h' tk k=>⟨_,H,I.kept k,?_,q⟩
 by_cases hj:j > i
 ·rw [if_pos hj,if_pos hj];exact⟨_,rfl⟩
 ·rw [if_neg hj,if_neg hj];exact⟨_,rfl⟩
theorem uA:dC X (.type "int") (fun xs H Q=>(∃i,xs=[.int i]∧Q (.int i) H)∨∃k,xs=[.bl k]∧Q (.int (if k then 1 else 0)) H):=by
 intro pins s σ H xs us Q I r h
 rcases h with ⟨i,rfl,q⟩ | ⟨k,rfl,q⟩
 ·obtain⟨u,rfl,t,rfl⟩:=vals1 r
  exact call_int_int ⟨.int i,H,I,⟨_,rfl⟩,q⟩
 ·obtain⟨u,rfl,r1⟩:=vals1 r
  cases r1
  exact call_int_bool ⟨.int (if k then 1 else 0),H,I.tok _,⟨_,rfl⟩,q⟩
end
end L2
namespace L2
open PySem PySem.Spec PyProof.Rows
structure ObjM (h:Heap) (x dx C:Addr) (mA:Str→Option Value):Prop where
 obj:h.get? x=some (instObj C dx)
 ns:h.Ns1 dx mA
 ne:dx≠x
theorem uB {h:Heap} {dx:Addr} {mA:Str→Option Value} (n:h.Ns1 dx mA):∃od,h.get? dx=some od∧∀name,lookIn name od=some (mA name):=by
 obtain⟨o,es,ep,ho,hd,hk,_,hm⟩:=n
 refine⟨o,ho,fun name=>?_⟩
 have e:=hm name
 unfold nsFind findBy at e
 rw [← Array.find?_toList] at e
 unfold lookIn
 rw [hd]
 dsimp only
 split
 ·rename_i y q
  rw [q] at e
  exact congrArg some e
 ·rename_i q
  rw [q] at e
  have a:es.toList.any (·.refKey)=false:=by
   rw [List.any_eq_false]
   intro y hy
   obtain⟨z,t,hkey⟩:=hk y (Array.mem_toList_iff.mp hy)
   simp [DictEntry.refKey,hkey]
  have a':¬ es.toList.any (·.refKey)=true:=by rw [a];exact Bool.false_ne_true
  rw [if_neg a']
  exact congrArg some e
theorem ObjM.look {h:Heap} {x dx C:Addr} {mA:Str→Option Value} (I:ObjM h x dx C mA):∃od,PySem.W.InstAt h x (instObj C dx) C (some od)∧∀name,lookIn name od=some (mA name) :=
 let ⟨od,ho,hl⟩:=uB I.ns
 ⟨od,⟨I.obj,rfl,rfl,ho⟩,hl⟩
section
variable {prog:Program} {w:World} {A:Around} {E:Value→Shared→Prop} {s:Shared} {K:PySem.W.Frag} {x dx C f:Addr} {mA:Str→Option Value} {name:Str} {v:Value}
theorem zz {expr:Bool} {Q:Value→Shared→Prop} (X:K.In s.heap) (I:ObjM s.heap x dx C mA) (hg:plainGet K C name=true) (hh:hasDictIn K C=true)
  (ha:findIn K (.ref C) name=some none) (hv:mA name=some v) (hv':handedIn v=true) (h:Q v { s with toks:=s.toks + 1 }) :
  wpAny (model prog w) A (getAttr (.ref x) name expr) Q E s:=by
 obtain⟨od,J,hl⟩:=I.look
 exact PySem.W.get_value X J (plainGet_of hg).1 (PySem.W.findObj_own hh ha rfl (by rw [hl,hv])) hv' h
theorem wZ {pl:Sem Bool} {Q:Value×List Value→Shared→Prop} (X:K.In s.heap) (I:ObjM s.heap x dx C mA) (hg:plainGet K C name=true)
  (hf:findIn K (.ref C) name=some (some (.ref f))) (ht:isFn K (.ref f)=true) (hv:mA name=none) (h:Q (.ref f,[.ref x]) s) :
  wpAny (model prog w) A (getMethod (.ref x) name pl) Q E s:=by
 obtain⟨od,J,hl⟩:=I.look
 exact PySem.W.method_fn X J (plainGet_of hg).1 (plainGet_of hg).2 hf (beq_iff_eq.mp ht) (by show (lookIn name od).map (·.isSome)=some false;rw [hl,hv];rfl) h
theorem zA {ns:List Str} {Q:Unit→Shared→Prop} (X:K.In s.heap) (I:ObjM s.heap x dx C mA)
  (hs:findIn K (.ref C) "__setattr__" = some (some (.builtin "object.__setattr__"))) (hp:plainOver K C=true) (ht:takerIn K C name=some none) (hh:hasDictIn K C=true)
  (hw:PySem.Within mA ns) (hsz:ns.length≤sizeLine)
  (h:∀h',ObjM h' x dx C (fun y=>if y=name then some v else mA y)→Heap.SameBut dx s.heap h'→Q () { s with heap:=h',toks:=s.toks + 2 }) :
  wpAny (model prog w) A (setAttr (.ref x) name v) Q E s:=by
 obtain⟨od,J,hl⟩:=I.look
 refine PySem.W.set_plain X J hs (PySem.W.osa_open (s:={ s with toks:=s.toks + 1 }) (r:=none) X J hp ht fun b=>?_)
 obtain⟨cd,hc,hd'⟩:=PySem.W.any_some hh
 have hx:s.heap.get? x=some ⟨.ref C,some dx,.plain,#[]⟩:=I.obj
 refine wpAny_bind (wpAny_pure (wpAny_bind (wpAny_bind (wpAny_loadPart hx (wpAny_bind (PySem.W.Looks.here (s:={ s with toks:=s.toks + 1 }) (PySem.W.looks_clsIn X hc) ?_))))))
 rw [hd']
 refine wpAny_pure (a:=some dx) (wpAny_bind (wpAny_pure (wpAny_bind ?_)))
 refine wpAny_nsSet1 (s:={ s with toks:=s.toks + 1 }) I.ns fun h' hn2 hs2=>?_
 obtain⟨oD,esD,epD,hoD,hdD,hcD⟩:=hn2.count (PySem.Within.cons name v hw)
 refine wpAny_bind (wpAny_lookBehind hoD (by rw [hdD];exact pastItsLine_dict (Nat.le_trans hcD (by rw [List.length_cons];omega))) ?_)
 exact wpAny_pure (h _ ⟨(hs2.2 _ (Ne.symm I.ne)).trans I.obj,hn2,I.ne⟩ hs2)
theorem w6 {R:Result→Shared→Prop} {vs:List Value} {kw:List (Str×Value)} (X:K.In s.heap) (hm:makesIn K C=true)
  (hi:findIn K (.ref C) "__init__" = some (some (.ref f))) (hf:typeIn K (.ref f)=some (.type "function"))
  (h:codeAny (model prog w) (A.under (.builtin "type.__call__" ⟨.ref C :: vs,kw⟩)) (.call (.ref f) ⟨.ref (s.heap.objs.size + 1) :: vs,kw⟩) (PySem.W.InitBack (s.heap.objs.size + 1) R)
   { s with heap:=(s.heap.push emptyDict).push (instObj C s.heap.objs.size) }) :
  codeAny (model prog w) A (.call (.ref C) ⟨vs,kw⟩) R s:=by
 obtain⟨hh,g,d,t,os⟩:=s
 exact PySem.W.make_core (PySem.W.makes_of X hm) (PySem.W.looks_findIn X hi) (fun self=>PySem.W.bind_fn X self hf) (.inl rfl) h
end
noncomputable def bR (f:Str) (v:V):List (Str×V)→List (Str×V)
 | []=>[(f,v)]
 | (g,x) :: r=>if g=f then (g,v) :: r else (g,x) :: bR f v r
theorem aC (f g:Str) (v:V):∀fs:List (Str×V),(bR f v fs).lookup g=if g=f then some v else fs.lookup g
 | []=>by
  show List.lookup g [(f,v)]=_
  by_cases h:g=f
  ·have hb:(g == f)=true:=beq_iff_eq.mpr h
   simp only [List.lookup,hb,if_pos h]
  ·have hb:(g == f)=false:=beq_eq_false_iff_ne.mpr h
   simp only [List.lookup,hb,if_neg h]
 | (k,x) :: r=>by
  have ih:=aC f g v r
  rw [show bR f v ((k,x) :: r)=(if k=f then (k,v) :: r else (k,x) :: bR f v r) from rfl]
  by_cases hk:k=f
  ·rw [if_pos hk]
   by_cases h:g=k
   ·have hb:(g == k)=true:=beq_iff_eq.mpr h
    simp only [List.lookup,hb,if_pos (h.trans hk)]
   ·have hb:(g == k)=false:=beq_eq_false_iff_ne.mpr h
    simp only [List.lookup,hb,if_neg (fun e:g=f=>h (e.trans hk.symm))]
  ·rw [if_neg hk]
   by_cases h:g=k
   ·have hb:(g == k)=true:=beq_iff_eq.mpr h
    simp only [List.lookup,hb,if_neg (fun e:g=f=>hk (h.symm.trans e))]
   ·have hb:(g == k)=false:=beq_eq_false_iff_ne.mpr h
    simp only [List.lookup,hb]
    exact ih
theorem jj (f:Str) (v:V):∀fs:List (Str×V),f∈(bR f v fs).map (·.1)∧∀g,g∈fs.map (·.1)→g∈(bR f v fs).map (·.1)
 | []=>⟨by simp [bR],fun g h=>by simp at h⟩
 | (k,x) :: r=>by
  obtain⟨i1,i2⟩:=jj f v r
  rw [show bR f v ((k,x) :: r)=(if k=f then (k,v) :: r else (k,x) :: bR f v r) from rfl]
  by_cases hk:k=f
  ·rw [if_pos hk]
   subst hk
   exact⟨by simp,fun g h=>by simpa using h⟩
  ·rw [if_neg hk]
   refine⟨?_,fun g h=>?_⟩
   ·rw [List.map_cons]
    exact List.mem_cons_of_mem _ i1
   ·rw [List.map_cons] at h ⊢
    rcases List.mem_cons.mp h with e | e
    ·exact List.mem_cons.mpr (.inl e)
    ·exact List.mem_cons_of_mem _ (i2 g e)
theorem bf (f:Str) (v:V):∀fs:List (Str×V),(bR f v fs).length≤fs.length + 1
 | []=>by simp [bR]
 | (k,x) :: r=>by
  have ih:=bf f v r
  rw [show bR f v ((k,x) :: r)=(if k=f then (k,v) :: r else (k,x) :: bR f v r) from rfl]
  by_cases hk:k=f
  ·rw [if_pos hk,List.length_cons,List.length_cons];omega
  ·rw [if_neg hk,List.length_cons,List.length_cons];omega
theorem RelO.some_of {v:V} {o:Option Value} (r:RelO (some v) o):∃u,o=some u∧RelV v u:=by
 cases o with
 | none=>exact (show False from r).elim
 | some u=>exact⟨u,rfl,r⟩
theorem RelO.none_of {o:Option Value} (r:RelO none o):o=none:=by
 cases o with
 | none=>rfl
 | some u=>exact (show False from r).elim
theorem uC {v:V} {u:Value} (r:RelV v u):handedIn u=true:=by
 cases v with
 | non=>cases (show u=Value.none from r);rfl
 | bl b=>cases (show u=Value.bool b from r);rfl
 | int i=>obtain⟨t,e⟩:=(show ∃t,u=Value.int i t from r);cases e;rfl
 | str x=>obtain⟨t,e⟩:=(show ∃t,u=Value.str x t from r);cases e;rfl
 | byt b=>obtain⟨t,e⟩:=(show ∃t,u=Value.bytes b t from r);cases e;rfl
 | flt b=>obtain⟨t,e⟩:=(show ∃t,u=Value.float b t from r);cases e;rfl
 | ref a=>cases (show u=Value.ref a from r);rfl
 | ty n=>cases (show u=Value.type n from r);rfl
section
variable {P:Program} {w:World} {H H':Hp} {h h':Heap} {a C dx:Addr} {fs fs':List (Str×V)}
theorem jG (hok:HOk P w H h) (e:H a=some (.ins C dx fs)):∃mA,ObjM h a dx C mA∧(∀f,RelO (fs.lookup f) (mA f))∧PySem.Within mA (fs.map (·.1))∧fs.length≤1000∧H dx=some (.own a):=by
 obtain⟨d,z,ne,ob,mA,n,r,q⟩:=(show ObjOk P w H h a (.ins C dx fs) from hok a _ e)
 exact⟨mA,⟨ob,n,ne⟩,r,q,z,d⟩
end
structure Cls (K:PySem.W.Frag) (C:Addr):Prop where
 pg:plainGet K C Str.empty=true
 hd:hasDictIn K C=true
 po:plainOver K C=true
 sa:findIn K (.ref C) "__setattr__" = some (some (.builtin "object.__setattr__"))
theorem Cls.get {K:PySem.W.Frag} {C:Addr} (c:Cls K C) (f:Str):plainGet K C f=true:=c.pg
noncomputable def NoAttr (K:PySem.W.Frag) (C:Addr) (f:Str):Prop:=findIn K (.ref C) f=some none
theorem NoAttr.taker {K:PySem.W.Frag} {C:Addr} {f:Str} (n:NoAttr K C f):takerIn K C f=some none:=by
 unfold takerIn
 rw [show findIn K (.ref C) f=some none from n]
 rfl
structure Meth (K:PySem.W.Frag) (C:Addr) (m:Str) (f:Addr):Prop where
 at_:findIn K (.ref C) m=some (some (.ref f))
 fn:isFn K (.ref f)=true
 kp:keepIn K (.ref f)=true
section
variable {X:Cx} {pins:List (Addr×Obj)} {σ:St} {H:Hp} {s:Shared} {a C dx:Addr} {fs:List (Str×V)} {f:Str} {v:V} {A:Around} {E:Value→Shared→Prop}
theorem qM {b:Bool} {Q:Value→Shared→Prop} (I:Inv X pins σ H s) (e:H a=some (.ins C dx fs)) (c:Cls X.K C) (n:NoAttr X.K C f) (l:fs.lookup f=some v)
  (h:∀u s',Inv X pins σ H s'→RelV v u→Q u s'):wpAny (model X.prog X.w) A (getAttr (.ref a) f b) Q E s:=by
 obtain⟨mA,O,r,_,_,_⟩:=jG I.hok e
 obtain⟨u,hu,ru⟩:=RelO.some_of (v:=v) (o:=mA f) (by rw [← l];exact r f)
 exact zz I.kIn O (c.get f) c.hd n hu (uC ru) (h u _ (I.tok _) ru)
theorem qN {m:Str} {g:Addr} {pl:Sem Bool} {Q:Value×List Value→Shared→Prop} (I:Inv X pins σ H s) (e:H a=some (.ins C dx fs)) (c:Cls X.K C) (k:Meth X.K C m g) (l:fs.lookup m=none)
  (h:Q (.ref g,[.ref a]) s):wpAny (model X.prog X.w) A (getMethod (.ref a) m pl) Q E s:=by
 obtain⟨mA,O,r,_,_,_⟩:=jG I.hok e
 have hn:mA m=none:=RelO.none_of (by rw [← l];exact r m)
 exact wZ I.kIn O (c.get m) k.at_ k.fn hn h
theorem qO {y:V} {u:Value} {Q:Unit→Shared→Prop} (I:Inv X pins σ H s) (e:H a=some (.ins C dx fs)) (c:Cls X.K C) (n:NoAttr X.K C f) (hl:fs.length < 1000) (ry:RelV y u)
  (h:∀s',Inv X pins σ (upd H a (.ins C dx (bR f y fs))) s'→Q () s'):wpAny (model X.prog X.w) A (setAttr (.ref a) f u) Q E s:=by
 obtain⟨mA,O,r,wi,_,ho⟩:=jG I.hok e
 have hz:(fs.map (·.1)).length≤sizeLine:=by rw [List.length_map,sizeLine_eq];omega
 refine zA I.kIn O c.sa c.po n.taker c.hd wi hz fun h' O' sb=>h _ ?_
 have hd:∃o,h'.get? dx=some o:=let ⟨o,_,_,e',_⟩:=O'.ns;⟨o,e'⟩
 refine I.write (x:=a) (e:=dx) (by rw [e];exact True.intro) (.inr ho) (fun b q hb z=>(sb.2 b hb).trans z) hd ?_
 refine⟨by rw [aG O.ne];exact ho,?_,O.ne,O'.obj,_,O'.ns,fun g=>?_,fun g hg=>?_⟩
 ·have:=bf f y fs;omega
 ·show RelO ((bR f y fs).lookup g) (if g=f then some u else mA g)
  rw [aC]
  by_cases q:g=f
  ·rw [if_pos q,if_pos q];exact ry
  ·rw [if_neg q,if_neg q];exact r g
 ·by_cases q:g=f
  ·rw [q];exact (jj f y fs).1
  ·refine (jj f y fs).2 g (wi g fun z=>hg ?_)
   show (if g=f then some u else mA g)=none
   rw [if_neg q];exact z
theorem Inv.made (I:Inv X pins σ H s):Inv X pins σ (upd (upd H s.heap.objs.size (.own (s.heap.objs.size + 1))) (s.heap.objs.size + 1) (.ins C s.heap.objs.size []))
  { s with heap:=(s.heap.push emptyDict).push (instObj C s.heap.objs.size) }:=by
 have e1:(s.heap.push emptyDict).get? s.heap.objs.size=some emptyDict:=Heap.get?_push_size s.heap rfl
 have e2:((s.heap.push emptyDict).push (instObj C s.heap.objs.size)).get? (s.heap.objs.size + 1)=some (instObj C s.heap.objs.size):=by
  have:=Heap.get?_push_size (s.heap.push emptyDict) (o:=instObj C s.heap.objs.size) rfl
  rwa [Heap.size_push] at this
 have e3:(s.heap.push emptyDict).Ns s.heap.objs.size (fun _=>none):=⟨emptyDict,#[],_,e1,rfl,(fun e he=>absurd he (by simp)),fun _=>rfl⟩
 have I1:=I.laid (a:=s.heap.objs.size) (o:=.own (s.heap.objs.size + 1)) (h':=s.heap.push emptyDict) (t':=s.toks) (fun b u q=>Heap.get?_push_of_some _ q) (Nat.le_refl _) ⟨_,e1⟩
 refine I1.laid (a:=s.heap.objs.size + 1) (o:=.ins C s.heap.objs.size []) (t':=s.toks) (fun b u q=>Heap.get?_push_of_some _ q) (Nat.le_of_eq (Heap.size_push _ _)) ?_
 have ne:s.heap.objs.size≠s.heap.objs.size + 1:=Nat.ne_of_lt (Nat.lt_succ_self _)
 refine⟨by rw [aG ne,aj],Nat.zero_le _,ne,e2,fun _=>none,(Heap.Ns1.of_empty e3).at fun o q=>Heap.get?_push_of_some _ q,fun _=>True.intro,fun y hy=>absurd rfl hy⟩
theorem zB {prog:Program} {w:World} {env:Env} {e:Expr} {f:Str} {pos:Pos} {s:Shared} {Q:Value→Shared→Prop} (hb:attributeBase e f env (eval e env)=eval e env)
  (h:wpAny (model prog w) A (eval e env) (fun o s₁=>wpAny (model prog w) A (getAttr o f true) Q E s₁) E s):wpAny (model prog w) A (eval (.Attribute e f pos) env) Q E s :=
 Attribute_any_ h (by rw [arm_eval_Attribute,hb])
end
noncomputable def Dl (K:PySem.W.Frag) (ta:TE) (f:Str):TE:=fun σ H Q=>ta σ H fun x H1=>∃a C dx fs v,x=.ref a∧H1 a=some (.ins C dx fs)∧Cls K C∧NoAttr K C f∧fs.lookup f=some v∧Q v H1
noncomputable def Hg (K:PySem.W.Frag) (ta tv:TE) (f:Str):TS:=fun D σ H=>tv σ H fun y H1=>ta σ H1 fun x H2=>∃a C dx fs,x=.ref a∧H2 a=some (.ins C dx fs)∧Cls K C∧NoAttr K C f∧fs.length < 1000 ∧
 D.nx σ (upd H2 a (.ins C dx (bR f y fs)))
section
variable {X:Cx} {o e value:Expr} {f:Str} {pos pos' tpos:Pos} {ta tv:TE}
theorem aZ (he:PE X e ta) (hb:attributeBase e f X.env (eval e X.env)=eval e X.env):PE X (.Attribute e f pos) (Dl X.K ta f):=by
 intro pins s σ H Q I h
 refine zB hb (thn (he pins s σ H _ I h) fun u s1 ⟨x,H1,I1,rx,a,C,dx,fs,v,ex,ea,c,n,l,q⟩=>?_)
 subst ex
 obtain rfl:u=Value.ref a:=rx
 exact qM I1 ea c n l fun u' s2 I2 ru=>⟨v,H1,I2,ru,q⟩
theorem cA (ha:PE X o ta) (hv:PE X value tv) (hs:swapsWith value (some (.Attribute o f pos')) pos.line X.env=pure false):PS X (.Assign [.Attribute o f pos'] value pos) (Hg X.K ta tv f):=by
 intro pins s σ H D I h
 refine plainObj_wpAny_Assign_Attribute (thn (hv pins s σ H _ I h) fun u s1 ⟨y,H1,I1,ry,q⟩=>thn (ha pins s1 σ H1 _ I1 q) fun ov s2 ⟨x,H2,I2,rx,a,C,dx,fs,ex,ea,c,n,l,q2⟩=>?_) hs
 subst ex
 obtain rfl:ov=Value.ref a:=rx
 exact qO I2 ea c n l ry fun s3 I3=>⟨σ,_,I3,q2⟩
end
section
variable {X:Cx} {pins:List (Addr×Obj)} {σ:St} {H:Hp} {s:Shared} {A:Around} {E:Value→Shared→Prop} {Q:Value→Shared→Prop} {c:Value} {b:Bool}
inductive jk (K:PySem.W.Frag) (H:Hp):V→Value→Prop where
 | non:jk K H .non (.type "NoneType")
 | bl (x:Bool):jk K H (.bl x) (.type "bool")
 | int (i:Int):jk K H (.int i) (.type "int")
 | str (x:Str):jk K H (.str x) (.type "str")
 | flt (x:UInt64):jk K H (.flt x) (.type "float")
 | lst {a:Addr} {xs:List V} (e:H a=some (.lst xs)):jk K H (.ref a) (.type "list")
 | frz {a:Addr} {o:Obj} {xs:List V} (e:H a=some (.frz o (.lst xs))):jk K H (.ref a) (.type "list")
 | tup {a:Addr} {xs:List V} (e:H a=some (.tup xs)):jk K H (.ref a) (.type "tuple")
 | dK {a:Addr} {kvs:List (Key×V)} (e:H a=some (.dK kvs)):jk K H (.ref a) (.type "dict")
 | dT {a:Addr} {kvs:List (List Key×V)} (e:H a=some (.dT kvs)):jk K H (.ref a) (.type "dict")
 | ins {a C dx:Addr} {fs:List (Str×V)} (e:H a=some (.ins C dx fs)) (cl:Cls K C) (ha:findIn K (.ref C) "__class__" = some (some (.builtin "object.__class__")))
   (hn:specialIn K (.builtin "object.__class__") "__get__" = some (some (.builtin "getset_descriptor.__get__"))) (htk:takesIn K (.builtin "object.__class__")=some true)
   (hm:mroIn K C (.type "object")=some true):jk K H (.ref a) (.ref C)
theorem lU {x:V} {u t:Value} (I:Inv X pins σ H s) (rx:RelV x u) (ty:jk X.K H x t) (e:kitOne X.K t c=some b) (h:∀tk,Q (.bool b) { s with toks:=tk }) :
  wpAny (model X.prog X.w) A (call (.builtin "isinstance") [u,c]) Q E s:=by
 cases ty with
 | non=>cases (show u=Value.none from rx);exact kia_one PySem.W.kitx_none I.kIn True.intro e (fun z=>nomatch z) h
 | bl y=>cases (show u=Value.bool y from rx);exact kia_one PySem.W.kitx_bool I.kIn True.intro e (fun z=>nomatch z) h
 | int i=>obtain⟨t,q⟩:=(show ∃t,u=Value.int i t from rx);cases q;exact kia_one PySem.W.kitx_int I.kIn True.intro e (fun z=>nomatch z) h
 | str y=>obtain⟨t,q⟩:=(show ∃t,u=Value.str y t from rx);cases q;exact kia_one PySem.W.kitx_str I.kIn True.intro e (fun z=>nomatch z) h
 | flt y=>obtain⟨t,q⟩:=(show ∃t,u=Value.float y t from rx);cases q;exact kia_one PySem.W.kitx_float I.kIn True.intro e (fun z=>nomatch z) h
 | @lst a xs ea =>
  cases (show u=Value.ref a from rx)
  obtain⟨_,_,n,_,h1⟩:=(show ObjOk X.prog X.w H s.heap a (.lst xs) from I.hok a _ ea)
  exact kia_one kitx_list I.kIn ⟨_,h1,rfl⟩ e (fun z=>nomatch z) h
 | @frz a ob xs ea =>
  cases (show u=Value.ref a from rx)
  obtain⟨_,_,_,n,_,h1⟩:=(show ObjOk X.prog X.w H s.heap a (.frz ob (.lst xs)) from I.hok a _ ea)
  exact kia_one kitx_list I.kIn ⟨_,h1,rfl⟩ e (fun z=>nomatch z) h
 | @tup a xs ea =>
  cases (show u=Value.ref a from rx)
  obtain⟨_,_,_,p⟩:=(show ObjOk X.prog X.w H s.heap a (.tup xs) from I.hok a _ ea)
  obtain⟨o,h1,h2,_⟩:=p
  exact kia_one PySem.W.kitx_tuple I.kIn ⟨o,h1,h2⟩ e (fun z=>nomatch z) h
 | @dK a kvs ea =>
  cases (show u=Value.ref a from rx)
  obtain⟨_,_,vs,_,p⟩:=(show ObjOk X.prog X.w H s.heap a (.dK kvs) from I.hok a _ ea)
  obtain⟨o,es,ep,h1,h2,_⟩:=p
  exact kia_one kitx_dict I.kIn ⟨o,h1,h2.1⟩ e (fun z=>nomatch z) h
 | @dT a kvs ea =>
  cases (show u=Value.ref a from rx)
  obtain⟨_,_,xs,_,o,es,ep,h1,h2,_⟩:=(show ObjOk X.prog X.w H s.heap a (.dT kvs) from I.hok a _ ea)
  exact kia_one kitx_dict I.kIn ⟨o,h1,h2.1⟩ e (fun z=>nomatch z) h
 | @ins a C dx fs ea cl ha hn htk hm =>
  cases (show u=Value.ref a from rx)
  obtain⟨mA,O,_⟩:=jG I.hok ea
  obtain⟨od,J,_⟩:=O.look
  exact kia_one (PySem.W.kitx_own (cl.get _) cl.hd ha hn htk hm) I.kIn J e (fun z=>nomatch z) h
end
end L2
namespace L2
open PySem PySem.Spec PyProof.Rows
structure Room (k:Nat) (A:Around):Prop where
 hd:A.handled=none
 dp:A.depth + 3 * k + 5 < recursionLimit
 un:A.units + 16 * k + 200 < cLine
theorem Room.mono {j k:Nat} {A:Around} (r:Room k A) (h:j≤k):Room j A:=⟨r.hd,by have:=r.dp;omega,by have:=r.un;omega⟩
theorem Room.deeper {k:Nat} {A:Around} (r:Room (k + 1) A) (env:Env):Room k (A.deeper env) :=
 ⟨r.hd,by have:=r.dp;show A.depth + 1 + 3 * k + 5 < _;omega,by have:=r.un;show A.units + 3 + 16 * k + 200 < _;omega⟩
theorem qP {A:Around} {C:Addr} {us:List Value} {kw:List (Str×Value)}:(A.under (.builtin "type.__call__" ⟨.ref C :: us,kw⟩)).depth=A.depth + 1:=by
 first | rfl | simp [Around.under,Code.weight,Code.isCreation,Code.isGuard,Code.isCaller,Code.frames,Code.isFrame,guardIds]
theorem qQ {A:Around} {C:Addr} {us:List Value} {kw:List (Str×Value)}:(A.under (.builtin "type.__call__" ⟨.ref C :: us,kw⟩)).units=A.units + 1:=by
 first | rfl | simp [Around.under,Code.cUnits,Code.frames,Code.isFrame]
theorem Room.make {k:Nat} {A:Around} (r:Room (k + 1) A) (C:Addr) (us:List Value) (kw:List (Str×Value)):Room k (A.under (.builtin "type.__call__" ⟨.ref C :: us,kw⟩)) :=
 ⟨r.hd,by have:=r.dp;rw [qP];omega,by have:=r.un;rw [qQ];omega⟩
theorem Room.depth {k:Nat} {A:Around} (r:Room k A):A.depth < recursionLimit:=by have:=r.dp;omega
theorem Room.units {k:Nat} {A:Around} (r:Room k A):A.units + 64 < cLine:=by have:=r.un;omega
noncomputable def Hh:TA:=fun _ H Q=>Q [] H
noncomputable def BK (ta:TE) (tr:TA):TA:=fun σ H Q=>ta σ H fun x H1=>tr σ H1 fun xs H2=>Q (x :: xs) H2
section
variable {X:Cx} {e:Expr} {es:List Expr} {te:TE} {t:TA} {pos:Pos}
theorem ak:PA X [] Hh:=fun _ _ _ _ H Q I h=>Calls.spliced_nil ⟨[],H,I,.nil,h⟩
theorem aa (ha:PE X e te) (hr:PA X es t) (hs:starEach (e :: es) X.env=(false,eval e X.env) :: starEach es X.env:=by rfl):PA X (e :: es) (BK te t):=by
 intro pos pins s σ H Q I h
 rw [hs]
 show wpAny _ _ (spliced ((false,eval e X.env) :: backTo pos (starEach es X.env))) _ _ s
 refine Calls.spliced_cons (thn (ha pins s σ H _ I h) fun u s1 ⟨x,H1,I1,r1,q1⟩=>?_)
 exact thn (hr pos pins s1 σ H1 _ I1 q1) fun us s2 ⟨xs,H2,I2,r2,q2⟩=>⟨x :: xs,H2,I2,.cons r1 r2,q2⟩
noncomputable def Hi (t:TA):TE:=fun σ H Q=>t σ H fun xs H1=>xs.length≤sizeLine∧∀p,H1 p=none→Q (.ref p) (upd H1 p (.tup xs))
noncomputable def Hj (t:TA):TE:=fun σ H Q=>t σ H fun xs H1=>xs.length≤sizeLine∧∀p,H1 p=none→Q (.ref p) (upd H1 p (.lst xs))
theorem aP {x1} (h:PA X es t):PE X (.Tuple es x1 pos) (Hi t):=by
 intro pins s σ H Q I hq
 refine wpAny_Tuple_spliced (thn (h pos pins s σ H _ I hq) fun us s1 ⟨xs,H1,I1,r,z,q⟩=>⟨by rw [← r.length];exact z,?_⟩)
 have hf:H1 s1.heap.objs.size=none:=I1.hok.fresh (Nat.le_refl _)
 refine⟨.ref s1.heap.objs.size,upd H1 s1.heap.objs.size (.tup xs),I1.laid (t':=s1.toks) (fun b u e=>Heap.get?_push_of_some _ e) (Nat.le_refl _) ?_,rfl,q _ hf⟩
 exact⟨z,us,r,⟨_,Heap.get?_push_size _ rfl,rfl,_,rfl⟩⟩
theorem bw (h:PA X es t):PE X (.List es pos) (Hj t):=by
 intro pins s σ H Q I hq
 refine wpAny_List_spliced (thn (h pos pins s σ H _ I hq) fun us s1 ⟨xs,H1,I1,r,z,q⟩=>⟨by rw [← r.length];exact z,?_⟩)
 have hf:H1 s1.heap.objs.size=none:=I1.hok.fresh (Nat.le_refl _)
 refine⟨.ref s1.heap.objs.size,upd H1 s1.heap.objs.size (.lst xs),I1.laid (t':=s1.toks) (fun b u e=>Heap.get?_push_of_some _ e) (Nat.le_refl _) ?_,rfl,q _ hf⟩
 exact⟨z,us,0,r,Heap.get?_push_size _ rfl⟩
end
noncomputable abbrev Sp:=List V→Hp→VK→XK→Prop
noncomputable abbrev CXT:=List Env→Hp→Shared→XK→Value→Shared→Prop
structure Env0 (P:Program) (w:World) (K:PySem.W.Frag) (mg:Str→Option Value) (base:Heap) (A:Around) (outer:List Env) (s:Shared) (H:Hp):Prop where
 frames:A.frames=some outer
 mod:Mod K mg base
 bs:∀b o,base.get? b=some o→s.heap.get? b=some o∧H b=none
 bsz:base.objs.size≤s.heap.objs.size
 funs:s.heap.FunFrames base outer
 frf:∀b∈frs outer,H b=none
 hok:HOk P w H s.heap
 bare:AllBare s.gens
noncomputable def CE (outer:List Env) (P:Program) (w:World) (H:Hp) (s:Shared) (Q:VK) (u:Value) (s':Shared):Prop :=
 ∃v H',s'.os=s.os∧AllBare s'.gens∧Un (frs outer) [] H H' s.heap s'.heap∧HOk P w H' s'.heap∧RelV v u∧Q v H'
noncomputable def CR (CX:CXT) (outer:List Env) (P:Program) (w:World) (H:Hp) (s:Shared) (Q:VK) (E:XK) (r:Result) (s':Shared):Prop :=
 match r with
 | .ok (.ret u)=>CE outer P w H s Q u s'
 | .ok _=>False
 | .error e=>CX outer H s E e s'
structure bA (P:Program) (w:World) (K:PySem.W.Frag) (mg:Str→Option Value) (base:Heap) (CX:CXT) (k:Nat) (f:Addr) (fd:FuncData) (ps:List Str) (sp:Sp):Prop where
 len:∀vs H Q E,sp vs H Q E→vs.length=ps.length
 run:∀ (A:Around) (outer:List Env) (s:Shared) (H:Hp) (args:Args) (us:List Value) (vs:List V) (Q:VK) (E:XK),Room k A→Env0 P w K mg base A outer s H→BindsTo s fd args (ps.zip us)→Vals vs us→sp vs H Q E →
  codeAny (model P w) A (.call (.ref f) args) (CR CX outer P w H s Q E) s
theorem Env0.make {P:Program} {w:World} {K:PySem.W.Frag} {mg:Str→Option Value} {base:Heap} {A:Around} {outer:List Env} {s:Shared} {H:Hp} (e:Env0 P w K mg base A outer s H) (C:Addr) (us:List Value) (kw:List (Str×Value)) :
  Env0 P w K mg base (A.under (.builtin "type.__call__" ⟨.ref C :: us,kw⟩)) outer s H:=⟨by first | exact e.frames | (simpa [Around.under,Code.envs,Code.isFrame,pushEnvs] using e.frames),e.mod,e.bs,e.bsz,e.funs,e.frf,e.hok,e.bare⟩
section
variable {X:Cx} {pins:List (Addr×Obj)} {σ:St} {H:Hp} {s s':Shared}
theorem Inv.env0 (I:Inv X pins σ H s):Env0 X.prog X.w X.K X.mg X.base X.A X.stack s H :=
 ⟨I.ok.frames,I.ok.mod,I.bs,Nat.le_trans I.ok.bsz I.sz,I.stack,I.stkFree,I.hok,I.bare⟩
theorem Inv.after {Q:VK} {u:Value} (I:Inv X pins σ H s) (h:CE X.stack X.prog X.w H s Q u s'):EP X pins σ Q u s':=by
 obtain⟨v,H',os,bare,un,hok,r,q⟩:=h
 obtain⟨hh,g,d,t,os'⟩:=s'
 obtain rfl:os'=s.os:=os
 exact⟨v,H',I.call (h':=hh) (g':=g) (d':=d) (t':=t) (ch:=[]) un hok bare (fun b z=>absurd z (by simp)),r,q⟩
end
noncomputable def xf (sp:Sp) (dvs:List V) (E:XK) (t:TA):TE:=fun σ H Q=>t σ H fun vs H1=>sp (vs ++ dvs) H1 Q E
noncomputable def xg (C:Addr) (m:Str) (sp:Sp) (dvs:List V) (E:XK) (ta:TE) (t:TA):TE:=fun σ H Q=>ta σ H fun x H1=>∃a dx fs,x=.ref a∧H1 a=some (.ins C dx fs)∧fs.lookup m=none ∧
 t σ H1 fun vs H2=>sp (x :: (vs ++ dvs)) H2 Q E
noncomputable def xj (C:Addr) (sp:Sp) (dvs:List V) (E:XK) (t:TA):TE:=fun σ H Q=>t σ H fun vs H1=>∀x dx,H1 x=none→H1 dx=none→dx≠x →
 sp (.ref x :: (vs ++ dvs)) (upd (upd H1 dx (.own x)) x (.ins C dx [])) (fun v H2=>v=.non∧Q (.ref x) H2) E
noncomputable def Binds (K:PySem.W.Frag) (fd:FuncData) (ps:List Str) (ds:List Value):Prop :=
 ∀ (s:Shared) (us:List Value),K.In s.heap→(us ++ ds).length=ps.length→BindsTo s fd ⟨us,[]⟩ (ps.zip (us ++ ds))
theorem Binds.all {K:PySem.W.Frag} {fd:FuncData} {ps:List Str} (h:∀us:List Value,us.length=ps.length→bindArgs fd ⟨us,[]⟩=pure (ps.zip us)):Binds K fd ps []:=fun s us _ hl=>by
 rw [List.append_nil] at hl ⊢
 exact .of_eq (h us hl)
noncomputable def jl (CX:CXT) (X:Cx) (E:XK):Prop:=∀ (pins:List (Addr×Obj)) (σ:St) (H:Hp) (s:Shared) (e:Value) (s':Shared),Inv X pins σ H s→CX X.stack H s E e s'→X.xe e s'
section
variable {X:Cx} {CX:CXT} {k:Nat} {f C:Addr} {fd:FuncData} {ps:List Str} {sp:Sp} {dvs:List V} {ds:List Value} {E:XK} {x m:Str} {p pos apos:Pos} {e o:Expr} {es:List Expr} {ta:TE} {t:TA}
theorem xm {pins:List (Addr×Obj)} {σ:St} {H:Hp} {s:Shared} {Q:VK} {us:List Value} {vs:List V} (F:bA X.prog X.w X.K X.mg X.base CX k f fd ps sp) (hr:Room k X.A) (hb:Binds X.K fd ps ds) (hd:Vals dvs ds) (hx:jl CX X E)
  (I:Inv X pins σ H s) (r:Vals vs us) (h:sp (vs ++ dvs) H Q E):wpAny (model X.prog X.w) X.A (call (.ref f) us) (EP X pins σ Q) X.xe s:=by
 have r2:Vals (vs ++ dvs) (us ++ ds):=r.append hd
 have hl:(us ++ ds).length=ps.length:=by rw [← r2.length];exact F.len _ _ _ _ h
 refine wpAny_call (codeAny_mono (F.run X.A X.stack s H ⟨us,[]⟩ (us ++ ds) (vs ++ dvs) Q E hr I.env0 (hb s us I.kIn hl) r2 h) fun r s' hq=>?_)
 cases r with
 | error e=>exact hx pins σ H s e s' I hq
 | ok fl =>
  cases fl with
  | ret u=>exact I.after hq
  | next=>exact False.elim hq
  | brk=>exact False.elim hq
  | cont=>exact False.elim hq
theorem zE (F:bA X.prog X.w X.K X.mg X.base CX k f fd ps sp) (hr:Room k X.A) (hg:Gl X x) (hm:X.mg x=some (.ref f)) (hk:keepIn X.K (.ref f)=true) (hb:Binds X.K fd ps ds) (hd:Vals dvs ds) (hx:jl CX X E)
  (ha:PA X (e :: es) t) (hdb:(x == ("__debug__":Str))=false:=by decide) (he:starEach (e :: es) X.env=(false,eval e X.env) :: starEach es X.env:=by rfl) (hpl:(backTo pos (starEach es X.env)).any (·.1)=false:=by rfl) :
  PE X (.Call (.Name x p) (e :: es) [] pos) (xf sp dvs E t):=by
 intro pins s σ H Q I h
 refine wpAny_Call_Name_kw (ni I hg hm ?_ hdb)
 refine callWith_K (h₀:=X.base) I.ok.mod.kin hk (thn (ha pos pins s σ H _ I h) fun us s1 ⟨vs,H1,I1,r,q⟩=>⟨I1.kIn,?_⟩) he hpl
 exact xm F hr hb hd hx I1 r q
theorem zF {pl:Sem Bool} (he:PE X o ta) (c:Cls X.K C) (hm:Meth X.K C m f) (F:bA X.prog X.w X.K X.mg X.base CX k f fd ps sp) (hr:Room k X.A) (hb:Binds X.K fd ps ds) (hd:Vals dvs ds) (hx:jl CX X E) (ha:PA X (e :: es) t)
  (hst:starEach (e :: es) X.env=(false,eval e X.env) :: starEach es X.env:=by rfl) (hpl:(backTo pos (starEach es X.env)).any (·.1)=false:=by rfl)
  (ht:eval (.Call (.Attribute o m apos) (e :: es) [] pos) X.env=(do
   let ov←eval o X.env
   standAt apos.atName
   let (f,first)←holding [ov] (getMethod ov m pl)
   callWith pos f first (backTo pos (starEach (e :: es) X.env)) (backToKw pos (keywordEach [] X.env))):=by rfl) :
  PE X (.Call (.Attribute o m apos) (e :: es) [] pos) (xg C m sp dvs E ta t):=by
 intro pins s σ H Q I h
 refine PySem.W.methodCall_KW (pl:=pl) (thn (he pins s σ H _ I h) fun u s1 ⟨x,H1,I1,rx,a,dx,fs,ex,ea,l,q⟩=>?_) ht
 subst ex
 obtain rfl:u=Value.ref a:=rx
 refine qN I1 ea c hm l ?_
 refine callWith_K (first:=[.ref a]) (h₀:=X.base) I.ok.mod.kin hm.kp (thn (ha pos pins s1 σ H1 _ I1 q) fun us s2 ⟨vs,H2,I2,r,q2⟩=>⟨I2.kIn,?_⟩) hst hpl
 exact xm (us:=.ref a :: us) (vs:=.ref a :: vs) F hr hb hd hx I2 (.cons rfl r) q2
structure Mk (K:PySem.W.Frag) (C f:Addr):Prop where
 makes:makesIn K C=true
 init:findIn K (.ref C) "__init__" = some (some (.ref f))
 fn:isFn K (.ref f)=true
 kp:keepIn K (.ref C)=true
theorem xn {pins:List (Addr×Obj)} {σ:St} {H:Hp} {s:Shared} {Q:VK} {us:List Value} {vs:List V} (M:Mk X.K C f) (F:bA X.prog X.w X.K X.mg X.base CX k f fd ps sp) (hr:Room (k + 1) X.A) (hb:Binds X.K fd ps ds) (hd:Vals dvs ds)
  (hx:jl CX X E) (I:Inv X pins σ H s) (r:Vals vs us)
  (h:∀x dx,H x=none→H dx=none→dx≠x→sp (.ref x :: (vs ++ dvs)) (upd (upd H dx (.own x)) x (.ins C dx [])) (fun v H2=>v=.non∧Q (.ref x) H2) E) :
  wpAny (model X.prog X.w) X.A (call (.ref C) us) (EP X pins σ Q) X.xe s:=by
 have hq:=h (s.heap.objs.size + 1) s.heap.objs.size (I.hok.fresh (Nat.le_succ _)) (I.hok.fresh (Nat.le_refl _)) (Nat.ne_of_lt (Nat.lt_succ_self _))
 have I2:=Inv.made (C:=C) I
 have r2:Vals (V.ref (s.heap.objs.size + 1) :: (vs ++ dvs)) (Value.ref (s.heap.objs.size + 1) :: (us ++ ds)):=.cons rfl (r.append hd)
 have hl:(Value.ref (s.heap.objs.size + 1) :: us ++ ds).length=ps.length:=by
  have e:=r2.length
  rw [F.len _ _ _ _ hq] at e
  exact e.symm
 refine wpAny_call (w6 (f:=f) I.kIn M.makes M.init (beq_iff_eq.mp M.fn) (codeAny_mono (F.run _ X.stack _ _ ⟨Value.ref (s.heap.objs.size + 1) :: us,[]⟩ (Value.ref (s.heap.objs.size + 1) :: (us ++ ds)) _ _ E (hr.make C us [])
  (I2.env0.make C us []) (hb _ (Value.ref (s.heap.objs.size + 1) :: us) I2.kIn hl) r2 hq) fun r s' hq'=>?_))
 cases r with
 | error e=>exact hx pins σ _ _ e s' I2 hq'
 | ok fl =>
  cases fl with
  | ret u =>
   obtain⟨v,H',I3,rv,ev,q3⟩:=I2.after hq'
   subst ev
   exact⟨rv,⟨V.ref (s.heap.objs.size + 1),H',I3,rfl,q3⟩⟩
  | next=>exact False.elim hq'
  | brk=>exact False.elim hq'
  | cont=>exact False.elim hq'
theorem zG (M:Mk X.K C f) (F:bA X.prog X.w X.K X.mg X.base CX k f fd ps sp) (hr:Room (k + 1) X.A) (hg:Gl X x) (hm:X.mg x=some (.ref C)) (hb:Binds X.K fd ps ds) (hd:Vals dvs ds) (hx:jl CX X E)
  (ha:PA X (e :: es) t) (hdb:(x == ("__debug__":Str))=false:=by decide) (he:starEach (e :: es) X.env=(false,eval e X.env) :: starEach es X.env:=by rfl) (hpl:(backTo pos (starEach es X.env)).any (·.1)=false:=by rfl) :
  PE X (.Call (.Name x p) (e :: es) [] pos) (xj C sp dvs E t):=by
 intro pins s σ H Q I h
 refine wpAny_Call_Name_kw (ni I hg hm ?_ hdb)
 refine callWith_K (h₀:=X.base) I.ok.mod.kin M.kp (thn (ha pos pins s σ H _ I h) fun us s1 ⟨vs,H1,I1,r,q⟩=>⟨I1.kIn,?_⟩) he hpl
 exact xn M F hr hb hd hx I1 r q
end
section
variable {X:Cx} {CX:CXT} {k:Nat} {f C:Addr} {fd:FuncData} {ps ks:List Str} {sp:Sp} {E:XK} {x m:Str} {p pos apos kpos:Pos} {e o:Expr} {es:List Expr} {kws:List Keyword} {te ta:TE} {t tk:TA} {nm:Option Str}
variable {g:List Value→List Value→List Value} {gV:List V→List V→List V}
end
structure aN (N P:List Str) (sc:Scope):Prop where
 kind:sc.kind=.function
 co:sc.isCoroutine=false
 gen:sc.isGenerator=false
 nd:N.Nodup
 pre:N.take P.length=P
 par:∀x∈P,sc.names.lookup x=some .local∨sc.names.lookup x=some .cell
 nofree:∀y∈sc.names,y.2≠.free
theorem lV {kindOf:Str→Option NameKind} {x:Str}:∀ {binds:List (Str×Value)} {m:Str→Option Value},(∀v,(x,v)∉binds)→bindL kindOf binds m x=m x
 | [],_,_=>rfl
 | (n,v) :: r,m,h=>by
  unfold bindL
  rw [lV fun w hw=>h w (List.mem_cons_of_mem _ hw)]
  split
  ·have:x≠n:=by rintro rfl;exact h v List.mem_cons_self
   simp [this]
  ·rfl
theorem lW {kindOf:Str→Option NameKind} {x:Str}:∀ {binds:List (Str×Value)} {m:Str→Option Value},(∀v,(x,v)∉binds)→bindC kindOf binds m x=m x
 | [],_,_=>rfl
 | (n,v) :: r,m,h=>by
  unfold bindC
  rw [lW fun w hw=>h w (List.mem_cons_of_mem _ hw)]
  split
  ·rfl
  ·have:x≠n:=by rintro rfl;exact h v List.mem_cons_self
   simp [this]
theorem lX {kindOf:Str→Option NameKind} {x:Str} {v:Value}:∀ {P:List Str} {vs:List Value} {i:Nat} {m:Str→Option Value},P.Nodup→P[i]? = some x→vs[i]? = some v→kindOf x=some .local →
  bindL kindOf (P.zip vs) m x=some v
 | [],_,_,_,_,h,_,_=>by simp at h
 | _ :: _,[],_,_,_,_,h,_=>by simp at h
 | p :: P,w :: vs,0,m,nd,h1,h2,hk=>by
  simp at h1 h2;subst h1;subst h2
  show bindL kindOf ((p,w) :: P.zip vs) m p=_
  unfold bindL
  rw [lV fun v hv=>(List.nodup_cons.mp nd).1 (List.of_mem_zip hv).1,if_pos hk]
  simp
 | p :: P,w :: vs,i + 1,m,nd,h1,h2,hk=>by
  show bindL kindOf ((p,w) :: P.zip vs) m x=_
  unfold bindL
  exact lX (i:=i) (List.nodup_cons.mp nd).2 (by simpa using h1) (by simpa using h2) hk
theorem lY {kindOf:Str→Option NameKind} {x:Str} {v:Value}:∀ {P:List Str} {vs:List Value} {i:Nat} {m:Str→Option Value},P.Nodup→P[i]? = some x→vs[i]? = some v→kindOf x≠some .local →
  bindC kindOf (P.zip vs) m x=some v
 | [],_,_,_,_,h,_,_=>by simp at h
 | _ :: _,[],_,_,_,_,h,_=>by simp at h
 | p :: P,w :: vs,0,m,nd,h1,h2,hk=>by
  simp at h1 h2;subst h1;subst h2
  show bindC kindOf ((p,w) :: P.zip vs) m p=_
  unfold bindC
  rw [lW fun v hv=>(List.nodup_cons.mp nd).1 (List.of_mem_zip hv).1,if_neg hk]
  simp
 | p :: P,w :: vs,i + 1,m,nd,h1,h2,hk=>by
  show bindC kindOf ((p,w) :: P.zip vs) m x=_
  unfold bindC
  exact lY (i:=i) (List.nodup_cons.mp nd).2 (by simpa using h1) (by simpa using h2) hk
noncomputable def start (N:List Str) (vs:List V):St:=vs.map some ++ List.replicate (N.length - vs.length) none
noncomputable def qR (CX:CXT) (P:Program) (w:World) (K:PySem.W.Frag) (mg:Str→Option Value) (base:Heap) (N:List Str) (qual:Str) (scope:Scope) (f:Addr) (cd:Value) (A:Around) (outer:List Env) (s:Shared) (H:Hp) (E:XK):Cx where
 prog:=P
 w:=w
 K:=K
 mg:=mg
 base:=base
 A:=A.deeper (envOfC qual scope s.heap.objs.size f cd)
 N:=N
 s₀:=s
 H₀:=H
 env:=envOfC qual scope s.heap.objs.size f cd
 outer:=outer
 stack:=envOfC qual scope s.heap.objs.size f cd :: outer
 ex:=[]
 calm:=true
 fn:=fun _=>true
 pn:=[]
 xe:=fun e s'=>wpAny (model P w) (A.deeper (envOfC qual scope s.heap.objs.size f cd)) (leaving (envOfC qual scope s.heap.objs.size f cd) e) (fun _ s''=>CX outer H s E e s'') (fun e' s''=>CX outer H s E e' s'') s'
theorem o5 {sc:Scope} {n:Nat} {x:Str} (h:sc.names.lookup x=some .cell):∃c,(cellsFrom n sc.names []).lookup x=some c:=by
 have q:=PySem.W.cellsFrom_some sc.names n [] (.inl h)
 exact Option.isSome_iff_exists.mp q
theorem uD {CX:CXT} {P:Program} {w:World} {K:PySem.W.Frag} {mg:Str→Option Value} {base:Heap} {N ps:List Str} {qual:Str} {scope:Scope} {f:Addr} {cd:Value} {A:Around} {outer:List Env} {s s1:Shared} {H:Hp} {E:XK} {us:List Value} {vs:List V}
  (S:aN N ps scope) (hd:A.handled=none) (e0:Env0 P w K mg base A outer s H) (hl:vs.length=ps.length) (r:Vals vs us)
  (x:InCallC s s.heap.objs.size (bindL (envOfC qual scope s.heap.objs.size f cd).kindOf (ps.zip us) fun _=>none) (cellsFrom (s.heap.objs.size + 1) scope.names []) (bindC (envOfC qual scope s.heap.objs.size f cd).kindOf (ps.zip us) fun _=>none) s1) :
  Inv (qR CX P w K mg base N qual scope f cd A outer s H E) [] (start N vs) H s1:=by
 have hpl:ps.length≤N.length:=by have:=congrArg List.length S.pre;rw [List.length_take] at this;omega
 obtain⟨h1,tk,rfl,hk⟩:=x.done
 have noA:∀b:Addr,b∉(qR CX P w K mg base N qual scope f cd A outer s H E).ex:=fun b z=>absurd (show b∈([]:List Addr) from z) (by simp)
 refine⟨⟨e0.mod,S.kind,rfl,rfl,Nat.le_refl _,fun y z c h1 h2=>?_,fun y hy=>?_,fun y c _ h=>?_,fun _=>hd,Around.frames_deeper e0.frames,.inr ⟨rfl,rfl⟩,fun b z=>absurd z (noA b),e0.bs,e0.bsz,fun b _ _=>noA b,fun b z=>absurd z (noA b),e0.funs,e0.frf⟩,
  rfl,e0.bare,Un.kept hk,⟨_,x.toInCall.ns,fun i y v h1 h2 h3=>?_⟩,fun y c h=>⟨_,x.cell y c h⟩,e0.hok.fresh (Nat.le_refl _),fun y c h=>?_,fun p hp=>absurd (show p∈([]:List (Addr×Obj)) from hp) (by simp),e0.hok.kept hk,?_⟩
 ·exact name_of_addr x.apart (PySem.mem_of_lookup h1) (PySem.mem_of_lookup h2)
 ·have hy:scope.names.lookup y=some .cell∨scope.names.lookup y=some .free:=hy
  rcases hy with hy | hy
  ·exact o5 hy
  ·exact absurd rfl (S.nofree _ (PySem.mem_of_lookup hy))
 ·exact Nat.le_of_lt (x.above y c (PySem.mem_of_lookup h))
 ·have hi:i < vs.length:=by
   unfold start at h2
   by_cases hi:i < vs.length
   ·exact hi
   ·rw [List.getElem?_append_right (by simpa using hi)] at h2
    rw [List.getElem?_replicate] at h2
    split at h2 <;> cases h2
  have ha:vs[i]? = some v:=by
   unfold start at h2
   rw [List.getElem?_append_left (by simpa using hi),List.getElem?_map] at h2
   cases e:vs[i]? with
   | none=>rw [e] at h2;cases h2
   | some a=>rw [e] at h2;cases h2;rfl
  obtain⟨u,hu,rv⟩:=r.get ha
  have hp:ps[i]? = some y:=by
   rw [← S.pre,List.getElem?_take_of_lt (by omega)];exact h1
  have ndP:ps.Nodup:=by rw [← S.pre];exact S.nd.sublist (List.take_sublist _ _)
  refine⟨u,rv,?_⟩
  rcases S.par y (List.mem_of_getElem? hp) with k | k
  ·exact .inl ⟨k,lX ndP hp hu k⟩
  ·obtain⟨c,e⟩:=o5 (n:=s.heap.objs.size + 1) k
   refine .inr ⟨.inl k,c,e,?_⟩
   have q:=x.cell y c e
   rw [lY ndP hp hu (by show scope.names.lookup y≠_;rw [k];decide)] at q
   exact q
 ·exact e0.hok.fresh (Nat.le_of_lt (x.above y c (PySem.mem_of_lookup h)))
 ·unfold start
  show _=N.length
  rw [List.length_append,List.length_map,List.length_replicate]
  omega
theorem Hk {CX:CXT} {P:Program} {w:World} {K:PySem.W.Frag} {mg:Str→Option Value} {base:Heap} {k:Nat} {f:Addr} {name qual:Str} {params:Arguments} {body:List Stmt} {scope:Scope} {dV kV doc pm cdv ct oc:Value} {an od:Option Addr}
  {osl:Array (Option Value)} {N ps:List Str} {sp:Sp} (lk:K.lookup f=some ⟨oc,od,.func (PySem.W.fnOf name qual params body scope dV kV doc pm an cdv ct),osl⟩) (hcd:PySem.W.codeIn K cdv qual=true) (S:aN N ps scope)
  (len:∀vs H Q E,sp vs H Q E→vs.length=ps.length)
  (hbody:∀ (A:Around) (outer:List Env) (s:Shared) (H:Hp) (vs:List V) (Q:VK) (E:XK),Room k (A.deeper (envOfC qual scope s.heap.objs.size f cdv))→sp vs H Q E →
   ∃t,PSs (qR CX P w K mg base N qual scope f cdv A outer s H E) body t∧t { nx:=fun _ H'=>Q .non H',rt:=Q } (start N vs) H) :
  bA P w K mg base CX (k + 1) f (PySem.W.fnOf name qual params body scope dV kV doc pm an cdv ct) ps sp:=by
 refine⟨len,fun A outer s H args us vs Q E hr e0 hb r hsp=>?_⟩
 have hl:=len _ _ _ _ hsp
 have KX:K.In s.heap:=e0.mod.kin.keeps fun b o e=>(e0.bs b o e).1
 have lim:s.heap.NoLimit:=e0.mod.nolimit.keeps fun b o e=>(e0.bs b o e).1
 have hkind:∀y∈ps.zip us,scope.names.lookup y.1=some .local∨(scope.names.lookup y.1=some .cell∧((cellsFrom (s.heap.objs.size + 1) scope.names []).lookup y.1).isSome=true):=fun ⟨n,v⟩ hy=>by
  rcases S.par n (List.of_mem_zip hy).1 with q | q
  ·exact .inl q
  ·exact .inr ⟨q,PySem.W.cellsFrom_some _ _ _ (.inl q)⟩
 refine codeAny_call_function hr.depth (KX _ _ lk) rfl S.co S.gen rfl (PySem.W.codeRec_of KX hcd) (hb _ _ _ _ ?_)
 refine wpAny_newFunctionEnv_cells S.kind hkind fun env he s1 x=>?_
 subst he
 refine⟨lim.keeps x.toInCall.keep,codeAny_func ?_⟩
 obtain⟨t,ht,hq⟩:=hbody A outer s H vs Q E (hr.deeper _) hsp
 have I:Inv (qR CX P w K mg base N qual scope f cdv A outer s H E) [] (start N vs) H s1:=uD S hr.hd e0 hl r x
 refine wpAny_mono (ht [] s1 (start N vs) H _ I hq) (fun fl s' hs=>?_) fun e s' hs=>hs
 have fin:∀ {σ':St} {H':Hp} {v:V} {u:Value},Inv (qR CX P w K mg base N qual scope f cdv A outer s H E) [] σ' H' s'→RelV v u→Q v H'→CE outer P w H s Q u s' :=
  fun {σ' H' v u} J rv q=>⟨v,H',J.os,J.bare,J.base,J.hok,rv,q⟩
 cases fl with
 | ret u =>
  obtain⟨v,σ',H',J,rv,q⟩:=hs
  exact fin J rv q
 | next =>
  obtain⟨σ',H',J,q⟩:=hs
  exact fin (v:=V.non) (u:=Value.none) J rfl q
 | brk =>
  obtain⟨_,_,_,q⟩:=hs
  exact False.elim q
 | cont =>
  obtain⟨_,_,_,q⟩:=hs
  exact False.elim q
end L2
namespace L2
open PySem PySem.Spec PyProof.Rows
section
variable {X:Cx} {x:Str} {p pos:Pos} {e:Expr} {es:List Expr} {t:TA} {id T:String} {r:List V→Hp→VK→Prop}
noncomputable def tCB (r:List V→Hp→VK→Prop) (t:TA):TE:=fun σ H Q=>t σ H fun vs H1=>r vs H1 Q
theorem bx (hc:dC X (.builtin id) r) (hg:Gl X x) (hm:X.mg x=none) (hv:bootBuiltins x=some (.builtin id)) (ha:PA X (e :: es) t) (hn:x ≠ "__name__" := by decide) (hdb:(x == ("__debug__":Str))=false:=by decide)
  (he:starEach (e :: es) X.env=(false,eval e X.env) :: starEach es X.env:=by rfl) (hpl:(backTo pos (starEach es X.env)).any (·.1)=false:=by rfl):PE X (.Call (.Name x p) (e :: es) [] pos) (tCB r t):=by
 intro pins s σ H Q I h
 refine wpAny_Call_Name_kw (ir I hg hm hv ?_ hn hdb)
 exact PyProof.Rows.callWith_builtin1 (thn (ha pos pins s σ H _ I h) fun us s1 ⟨vs,H1,I1,r1,q1⟩=>hc pins s1 σ H1 vs us Q I1 r1 q1) he hpl
theorem bG (hc:dC X (.type T) r) (hg:Gl X x) (hm:X.mg x=none) (hv:bootBuiltins x=some (.type T)) (ha:PA X (e :: es) t) (hn:x ≠ "__name__" := by decide) (hdb:(x == ("__debug__":Str))=false:=by decide)
  (he:starEach (e :: es) X.env=(false,eval e X.env) :: starEach es X.env:=by rfl) (hpl:(backTo pos (starEach es X.env)).any (·.1)=false:=by rfl):PE X (.Call (.Name x p) (e :: es) [] pos) (tCB r t):=by
 intro pins s σ H Q I h
 refine wpAny_Call_Name_kw (ir I hg hm hv ?_ hn hdb)
 exact PyProof.Rows.callWith_type1 (thn (ha pos pins s σ H _ I h) fun us s1 ⟨vs,H1,I1,r1,q1⟩=>hc pins s1 σ H1 vs us Q I1 r1 q1) he hpl
end
end L2
namespace HT
open PySem PyProof.Rows
section
open PySem.SeqAt
open PySem.AutoSeq1 (wpAny_loadPart')
open PySem.MeetsSeq PySem.MeetsSeq2 PySem.MeetsSeq3
end
section
variable {prog:Program} {w:World} {A:Around} {E:Value→Shared→Prop} {s:Shared}
theorem cat_tup {t b:Addr} {vs ws:List Value} {Q:Value→Shared→Prop} (ht:IsTup s.heap t vs.toArray) (hb:IsTup s.heap b ws.toArray) (hv:vs≠[])
  (h1:ws=[]→Q (.ref t) s) (h2:ws≠[]→Q (.ref s.heap.objs.size) { s with heap:=s.heap.push { cls:=.type "tuple",data:=.seq (vs ++ ws).toArray } })
  (hsz:vs.length + ws.length≤sizeLine):wpAny (model prog w) A (binaryOp .Add (.ref t) (.ref b)) Q E s:=by
 obtain⟨⟨cls,dd,data,sl⟩,ho,hc,n,hd⟩:=id ht
 obtain⟨⟨cls2,dd2,data2,sl2⟩,ho2,hc2,n2,hd2⟩:=id hb
 simp only at hc hd hc2 hd2
 subst hc hd hc2 hd2
 have e:vs.toArray ++ ws.toArray=(vs ++ ws).toArray:=by simp
 by_cases hw:ws=[]
 ·exact concat_meets ⟨_,ho,rfl⟩ ⟨_,ho2,rfl⟩ noFill_tuple_add seq_tuple_add PySem.F.slot_tuple_add PySem.F.entry_tuple_add (PySem.F.args_tuple_add_2 _ _)
   (tuple_addW1 t b vs.toArray ws.toArray n n2 dd dd2 sl sl2 (by simpa using hv) (by simp [hw])) ⟨ho,ho2,h1 hw⟩
 ·refine concat_meets ⟨_,ho,rfl⟩ ⟨_,ho2,rfl⟩ noFill_tuple_add seq_tuple_add PySem.F.slot_tuple_add PySem.F.entry_tuple_add (PySem.F.args_tuple_add_2 _ _)
   (tuple_addW2 t b vs.toArray ws.toArray n n2 dd dd2 sl sl2 (by simpa using hv) (by simpa using hw) (by rw [List.size_toArray,List.size_toArray];exact hsz)) ⟨ho,ho2,?_⟩
  rw [e]
  exact h2 hw
noncomputable def sIx (n d:Nat):Option Int→Nat
 | none=>d
 | some v=>if v < 0 then (v + (n:Int)).toNat else min v.toNat n
theorem Dm (n d:Nat) (hd:d≤n) (o:Option Int):sIx n d o≤n:=by
 cases o with
 | none=>exact hd
 | some v =>
  show (if v < 0 then (v + (n:Int)).toNat else min v.toNat n)≤n
  by_cases hv:v < 0
  ·rw [if_pos hv];omega
  ·rw [if_neg hv];exact Nat.min_le_right _ _
theorem sH (v:Int) (n d:Nat):(if v < 0 then max (v + (n:Int)) 0 else min v (n:Int))=((sIx n d (some v):Nat):Int):=by
 show (if v < 0 then max (v + (n:Int)) 0 else min v (n:Int))=(((if v < 0 then (v + (n:Int)).toNat else min v.toNat n):Nat):Int)
 by_cases hv:v < 0
 ·simp only [if_pos hv];omega
 ·simp only [if_neg hv];omega
theorem qT (lo hi:Option Int) (n:Nat):Builtin.Slice.sliceAdjust lo hi 1 (n:Int)=(((sIx n 0 lo:Nat):Int),((sIx n n hi:Nat):Int)):=by
 have h1:¬ ((1:Int) < 0):=by omega
 unfold Builtin.Slice.sliceAdjust
 simp only [h1,if_false]
 refine Prod.ext ?_ ?_
 ·cases lo with
  | none=>rfl
  | some v=>exact sH v n 0
 ·cases hi with
  | none=>rfl
  | some v=>exact sH v n n
theorem qU (i j:Nat):Builtin.Slice.slicePlaces (i:Int) (j:Int) 1=j - i:=by
 unfold Builtin.Slice.slicePlaces
 have h1:(1:Int) > 0:=by omega
 simp only [h1,if_true,Int.ediv_one]
 split <;> omega
theorem jT {v:Value} {o:Option Int} {Q:Option Int→Shared→Prop} (p:IsPart v o) (h:Q o s):wpAny (model prog w) A (Builtin.Slice.slicePartIndex v) Q E s:=by
 cases p with
 | none=>exact slicePart_none h
 | int i t=>exact slicePart_int h
theorem fB {sl:Addr} {vl vu:Value} {lo hi:Option Int} {n:Nat} {Q:Int×Int×Nat→Shared→Prop} (hs:s.heap.IsSliceOf sl vl vu .none) (pl:IsPart vl lo) (pu:IsPart vu hi)
  (h:Q (((sIx n 0 lo:Nat):Int),1,sIx n n hi - sIx n 0 lo) s):wpAny (model prog w) A (Builtin.Slice.sliceApplied (.ref sl) (pure (n:Int))) Q E s:=by
 obtain⟨os,hos,hcs,hds⟩:=id hs
 unfold Builtin.Slice.sliceApplied Builtin.Slice.sliceFields
 refine wpAny_bind (wpAny_bind (wpAny_field hos hds (x:=vl) rfl (wpAny_bind (wpAny_field hos hds (x:=vu) rfl (wpAny_bind (wpAny_field hos hds (x:=.none) rfl (wpAny_pure ?_)))))))
 refine wpAny_bind (slicePart_none ?_)
 show wpAny _ _ (if ((1:Int) == 0)=true then _ else _) _ _ s
 rw [if_neg (by decide)]
 refine wpAny_bind (jT pl (wpAny_bind (jT pu (wpAny_bind (wpAny_pure ?_)))))
 show wpAny _ _ (match Builtin.Slice.sliceAdjust lo hi 1 (n:Int) with | (lo,hi)=>pure (lo,(1:Int),Builtin.Slice.slicePlaces lo hi 1)) _ _ s
 rw [qT lo hi n]
 show wpAny _ _ (pure (((sIx n 0 lo:Nat):Int),(1:Int),Builtin.Slice.slicePlaces ((sIx n 0 lo:Nat):Int) ((sIx n n hi:Nat):Int) 1)) _ _ s
 rw [qU]
 exact wpAny_pure h
theorem xq (xs:Array Value) (i k:Nat):((List.range k).filterMap fun (m:Nat)=>xs[((i:Int) + (m:Int) * 1).toNat]?).toArray=((xs.toList.drop i).take k).toArray:=by
 have e:(fun (m:Nat)=>xs[((i:Int) + (m:Int) * 1).toNat]?)=fun m=>xs[i + m]?:=by
  funext m
  have:((i:Int) + (m:Int) * 1).toNat=i + m:=by omega
  rw [this]
 rw [e]
 have:=pick_run xs i k
 rw [List.filterMap_map] at this
 have e2:((fun x=>xs[x]?) ∘ fun x=>i + x)=fun m=>xs[i + m]?:=rfl
 rw [e2] at this
 rw [this]
theorem getItem_tuple_cut {t sl:Addr} {items:Array Value} {vl vu:Value} {lo hi:Option Int} {Q:Value→Shared→Prop} (ht:IsTup s.heap t items) (hs:s.heap.IsSliceOf sl vl vu .none) (pl:IsPart vl lo) (pu:IsPart vu hi)
  (hw:¬ (sIx items.size 0 lo=0∧sIx items.size items.size hi=items.size))
  (h:Q (.ref s.heap.objs.size) { s with heap:=s.heap.push { cls:=.type "tuple",data:=.seq ((items.toList.drop (sIx items.size 0 lo)).take (sIx items.size items.size hi - sIx items.size 0 lo)).toArray } })
  (hsz:items.size≤sizeLine):wpAny (model prog w) A (getItem (.ref t) (.ref sl)) Q E s:=by
 have htake:sizeOk (.seq ((items.toList.drop (sIx items.size 0 lo)).take (sIx items.size items.size hi - sIx items.size 0 lo)).toArray):=by
  show ((items.toList.drop (sIx items.size 0 lo)).take (sIx items.size items.size hi - sIx items.size 0 lo)).toArray.size≤sizeLine
  rw [List.size_toArray,List.length_take,List.length_drop,Array.length_toList]
  omega
 have hj:sIx items.size items.size hi≤items.size:=Dm _ _ (Nat.le_refl _) hi
 obtain⟨os,hos,hcs,hds⟩:=id hs
 have hTs:s.TypeIs (.ref sl) "slice" := ⟨os,hos,hcs⟩
 unfold getItem
 try with_reducible refine wpAny_holding ?_
 first | refine wpAny_bind (wpAny_pure ?_) | skip
 refine wpAny_bind (wpAny_sequenceKey ht.typeIs (by decide) ?_)
 refine wpAny_bind (wpAny_callSpecial?_slot (name:=Str.ofString "__getitem__") ht.typeIs PyProof.Rows.slot_tuple_getitem
  (wpAny_call_entry PyProof.Rows.slot_tuple_getitem ht.typeIs entry_tuple_getitem ?_ (args_tuple_getitem _ _)))
 show wpAny _ _ (Builtin.Tuple.tupleItemsOf (.ref t) >>= _) _ _ s
 refine wpAny_bind (tupleItemsOf_ ht ?_)
 refine wpAny_bind (wpAny_typeOf hTs ?_)
 rw [if_pos (by decide)]
 refine wpAny_bind (fB hs pl pu ?_)
 have hno:¬ ((((sIx items.size 0 lo:Nat):Int) == 0 && (1:Int) == 1 && (sIx items.size items.size hi - sIx items.size 0 lo) == items.size)=true):=by
  intro q
  rw [Bool.and_eq_true,Bool.and_eq_true] at q
  have q1:((sIx items.size 0 lo:Nat):Int)=0:=eq_of_beq q.1.1
  have q2:sIx items.size items.size hi - sIx items.size 0 lo=items.size:=eq_of_beq q.2
  exact hw ⟨by omega,by omega⟩
 show wpAny _ _ (if (((sIx items.size 0 lo:Nat):Int) == 0 && (1:Int) == 1 && (sIx items.size items.size hi - sIx items.size 0 lo) == items.size)=true then _ else _) _ _ s
 rw [if_neg hno,xq]
 first
  | exact wpAny_bind (m:=Builtin.Tuple.tupleExact _) (wpAny_newObj_type (wpAny_pure ⟨_,rfl,wpAny_pure h⟩) htake)
  | exact wpAny_bind (m:=Builtin.Tuple.tupleExact _) (wpAny_newObj_type (wpAny_bind (wpAny_pure (wpAny_pure ⟨_,rfl,wpAny_pure h⟩))) htake)
  | exact wpAny_bind (wpAny_bind (m:=Builtin.Tuple.tupleExact _) (wpAny_newObj_type (wpAny_pure (wpAny_pure ⟨_,rfl,wpAny_pure h⟩)) htake))
  | exact wpAny_bind (wpAny_bind (m:=Builtin.Tuple.tupleExact _) (wpAny_newObj_type (wpAny_pure ⟨_,rfl,wpAny_pure h⟩) htake))
end
end HT
namespace L2
open PySem PySem.Spec PyProof.Rows
noncomputable abbrev TO:=St→Hp→(Option Int→Hp→Prop)→Prop
noncomputable def PO (X:Cx) (e:Option Expr) (t:TO):Prop :=
 ∀ (pins:List (Addr×Obj)) (s:Shared) (σ:St) (H:Hp) (Q:Option Int→Hp→Prop),Inv X pins σ H s→t σ H Q →
  wpAny (model X.prog X.w) X.A (evalPart e X.env) (fun u s'=>∃o H',Inv X pins σ H' s'∧IsPart u o∧Q o H') X.xe s
noncomputable def sJ:TO:=fun _ H Q=>Q none H
noncomputable def BL (t:TE):TO:=fun σ H Q=>t σ H fun x H1=>∃i,x=.int i∧Q (some i) H1
theorem intsAre_of {ns:List Int}:∀ {us:List Value},Vals (ns.map V.int) us→IntsAre us ns:=by
 induction ns with
 | nil=>intro us r;rw [List.map_nil] at r;cases r;exact .nil
 | cons n ns ih =>
  intro us r
  rw [List.map_cons] at r
  cases r with
  | cons r1 r2 =>
   obtain⟨t,e⟩:=r1
   subst e
   exact .cons n t (ih r2)
section
variable {X:Cx} {e:Expr} {te:TE} {lo hi:Option Expr} {tl th:TO} {pos p2:Pos}
theorem sO:PO X none sJ:=by
 intro pins s σ H Q I h
 rw [evalPart_none]
 exact wpAny_pure ⟨none,H,I,.none,h⟩
theorem sS (h:PE X e te):PO X (some e) (BL te):=by
 intro pins s σ H Q I hw
 rw [evalPart_some]
 refine thn (h pins s σ H _ I hw) fun u s1 ⟨x,H1,I1,r1,q1⟩=>?_
 obtain⟨i,rfl,q⟩:=q1
 obtain⟨t,rfl⟩:=r1
 exact⟨some i,H1,I1,.int i t,q⟩
noncomputable def SlR (X:Cx) (r:V→Option Int→Option Int→Hp→VK→Prop):Prop :=
 ∀ (pins:List (Addr×Obj)) (s:Shared) (σ:St) (H:Hp) (x:V) (v vl vu:Value) (lo hi:Option Int) (sl:Addr) (Q:VK),Inv X pins σ H s→RelV x v→s.heap.IsSliceOf sl vl vu .none→IsPart vl lo→IsPart vu hi→r x lo hi H Q →
  ∃T id,typeLookup (.type T) "__getitem__" = pure (some (.builtin id))∧s.TypeIs v T∧wpAny (model X.prog X.w) X.A (getItem v (.ref sl)) (EP X pins σ Q) X.xe s
noncomputable def tSl (r:V→Option Int→Option Int→Hp→VK→Prop) (te:TE) (tl th:TO):TE:=fun σ H Q=>te σ H fun x H1=>tl σ H1 fun l H2=>th σ H2 fun u H3=>r x l u H3 Q
theorem o6 {r:V→Option Int→Option Int→Hp→VK→Prop} (hr:SlR X r) (he:PE X e te) (hl:PO X lo tl) (hu:PO X hi th):PE X (.Subscript e (.Slice lo hi none p2) pos) (tSl r te tl th):=by
 intro pins s σ H Q I h
 refine Subscript_ (thn (he pins s σ H _ I h) fun v s1 ⟨x,H1,I1,r1,q1⟩=>?_)
 refine wpAny_Slice (thn (hl pins s1 σ H1 _ I1 q1) fun vl s2 ⟨l,H2,I2,pl,q2⟩=>thn (hu pins s2 σ H2 _ I2 q2) fun vu s3 ⟨u,H3,I3,pu,q3⟩=>?_)
 rw [evalPart_none]
 refine wpAny_pure ?_
 have I4:Inv X pins σ H3 { s3 with heap:=s3.heap.push { cls:=.type "slice",data:=.fields #[vl,vu,.none] } }:=I3.kept (t':=s3.toks) fun b ob q=>Heap.get?_push_of_some _ q
 obtain⟨T,id,hT,ht,hg⟩:=hr pins { s3 with heap:=s3.heap.push { cls:=.type "slice",data:=.fields #[vl,vu,.none] } } σ H3 x v vl vu l u s3.heap.objs.size Q I4 r1 (Heap.IsSliceOf.new ..) pl pu q3
 show wpAny (model X.prog X.w) X.A (subscriptTail e (.Slice lo hi none p2) v (.ref s3.heap.objs.size)) (EP X pins σ Q) X.xe { s3 with heap:=s3.heap.push { cls:=.type "slice",data:=.fields #[vl,vu,.none] } }
 exact tail_any (ops:=[.ref s3.heap.objs.size,v]) ht hT hg (by with_unfolding_all rfl)
noncomputable def lE (xs:List V) (lo hi:Option Int):List V:=(xs.drop (HT.sIx xs.length 0 lo)).take (HT.sIx xs.length xs.length hi - HT.sIx xs.length 0 lo)
theorem jB (xs:List V) (lo hi:Option Int):(lE xs lo hi).length≤xs.length:=by
 unfold lE
 rw [List.length_take,List.length_drop]
 omega
noncomputable def Hl (K:PySem.W.Frag):V→Option Int→Option Int→Hp→VK→Prop:=fun x lo hi H Q=>∃a xs,x=.ref a∧SqT K H a xs ∧
 ¬ (HT.sIx xs.length 0 lo=0∧HT.sIx xs.length xs.length hi=xs.length)∧∀p,H p=none→Q (.ref p) (upd H p (.tup (lE xs lo hi)))
theorem Dn:SlR X (Hl X.K):=by
 intro pins s σ H x v vl vu lo hi sl Q I rx hs pl pu h
 obtain⟨a,xs,rfl,hx,hw,q⟩:=h
 cases rx
 obtain⟨its,r,ht,hz⟩:=I.tuple hx
 have hlen:its.toArray.size=xs.length:=by rw [List.size_toArray];exact r.length.symm
 refine⟨"tuple",_,PyProof.Rows.slot_tuple_getitem.lookup,ht.typeIs,?_⟩
 refine HT.getItem_tuple_cut ht hs pl pu (by rw [hlen];exact hw) ?_ (by rw [hlen];exact hz)
 rw [hlen]
 refine⟨.ref s.heap.objs.size,_,I.laid (t':=s.toks) (o:=.tup (lE xs lo hi)) (fun b ob q=>Heap.get?_push_of_some _ q) (Nat.le_refl _) ?_,rfl,q _ (I.hok.fresh (Nat.le_refl _))⟩
 exact⟨Nat.le_trans (jB xs lo hi) hz,_,(r.drop (HT.sIx xs.length 0 lo)).take (HT.sIx xs.length xs.length hi - HT.sIx xs.length 0 lo),IsTup.new _ _⟩
noncomputable def Hm (K:PySem.W.Frag):R2:=fun x y H Q=>∃a b xs ys,x=.ref a∧y=.ref b∧SqT K H a xs∧SqT K H b ys∧xs≠[]∧xs.length + ys.length≤sizeLine ∧
 (ys=[]→Q (.ref a) H)∧(ys≠[]→∀p,H p=none→Q (.ref p) (upd H p (.tup (xs ++ ys))))
theorem Vals.nil_iff {xs:List V} {us:List Value} (r:Vals xs us):us=[]↔xs=[]:=by
 cases r with
 | nil=>simp
 | cons _ _=>simp
theorem zH:OpR X (binaryOp .Add) (Hm X.K):=by
 intro pins s σ H x y v u Q I rx ry h
 obtain⟨a,b,xs,ys,rfl,rfl,ha,hb,hx,hz,q1,q2⟩:=h
 cases rx
 cases ry
 obtain⟨its,r1,p1,_⟩:=I.tuple ha
 obtain⟨its2,r2,p2,_⟩:=I.tuple hb
 refine HT.cat_tup p1 p2 (fun z=>hx (r1.nil_iff.mp z)) (fun z=>⟨.ref a,H,I,rfl,q1 (r2.nil_iff.mp z)⟩) (fun z=>?_) (by rw [← r1.length,← r2.length];exact hz)
 refine⟨.ref s.heap.objs.size,_,I.laid (t':=s.toks) (o:=.tup (xs ++ ys)) (fun b ob q=>Heap.get?_push_of_some _ q) (Nat.le_refl _) ?_,rfl,q2 (fun w=>z (r2.nil_iff.mpr w)) _ (I.hok.fresh (Nat.le_refl _))⟩
 exact⟨by rw [List.length_append];exact hz,_,r1.append r2,IsTup.new _ _⟩
end
end L2
namespace L2
open PySem PySem.Spec PyProof.Rows
noncomputable def ixN (n:Nat) (i:Int):Option Nat:=if 0≤i then (if i < n then some i.toNat else none) else if -(n:Int)≤i then some (i + n).toNat else none
noncomputable def atI {α:Type} (xs:List α) (i:Int):Option α:=(ixN xs.length i).bind fun j=>xs[j]?
theorem zJ {n:Nat} {i:Int} {j:Nat} (h:ixN n i=some j):seqIndex? i n=some j∧j < n∧-(n:Int)≤i∧i < n:=by
 unfold ixN at h
 by_cases h0:0≤i
 ·rw [if_pos h0] at h
  by_cases h1:i < n
  ·rw [if_pos h1] at h
   have e:i.toNat=j:=Option.some.inj h
   exact⟨by rw [seqIndex_of h0 h1,e],by omega,by omega,h1⟩
  ·rw [if_neg h1] at h;cases h
 ·rw [if_neg h0] at h
  by_cases h1:-(n:Int)≤i
  ·rw [if_pos h1] at h
   have e:(i + n).toNat=j:=Option.some.inj h
   exact⟨by rw [seqIndex_neg (by omega) h1,e],by omega,h1,by omega⟩
  ·rw [if_neg h1] at h;cases h
theorem sU {α:Type} {xs:List α} {i:Int} {v:α} (h:atI xs i=some v):∃j,seqIndex? i xs.length=some j∧xs[j]? = some v∧j < xs.length∧-(xs.length:Int)≤i∧i < xs.length:=by
 unfold atI at h
 cases e:ixN xs.length i with
 | none=>rw [e] at h;cases h
 | some j =>
  rw [e] at h
  obtain⟨h1,h2,h3,h4⟩:=zJ e
  exact⟨j,h1,h,h2,h3,h4⟩
theorem cY {α:Type} {xs:List α} {j:Nat} {v:α} (h:xs[j]? = some v):atI xs (j:Int)=some v:=by
 have hj:j < xs.length:=(List.getElem?_eq_some_iff.mp h).1
 have e:ixN xs.length (j:Int)=some j:=by
  unfold ixN
  rw [if_pos (by omega),if_pos (by omega)];simp
 unfold atI;rw [e];exact h
noncomputable def zK (b:Expr):Prop:=∀o i,subscripted b false o i=operate [o,i] (getItem o i)
noncomputable def IxR (X:Cx) (r:R2):Prop :=
 ∀ (value slice:Expr) (pins:List (Addr×Obj)) (s:Shared) (σ:St) (H:Hp) (x y:V) (v u:Value) (Q:VK),Inv X pins σ H s→RelV x v→RelV y u→r x y H Q →
  subscripted slice false v u=operate [v,u] (getItem v u)→wpAny (model X.prog X.w) X.A (subscriptTail value slice v u) (EP X pins σ Q) X.xe s
noncomputable def MtR (X:Cx) (id:String) (r:V→List V→Hp→VK→Prop):Prop :=
 ∀ (pins:List (Addr×Obj)) (s:Shared) (σ:St) (H:Hp) (x:V) (xs:List V) (v:Value) (us:List Value) (Q:VK),Inv X pins σ H s→RelV x v→Vals xs us→r x xs H Q →
  wpAny (model X.prog X.w) X.A (call (.builtin id) (v :: us)) (EP X pins σ Q) X.xe s
section
variable {X:Cx} {a b:Expr} {ta tb:TE} {pos:Pos}
theorem bc {r:R2} (hr:IxR X r) (ha:PE X a ta) (hb:PE X b tb) (hs:zK b):PE X (.Subscript a b pos) (tOp r ta tb):=by
 intro pins s σ H Q I h
 exact Subscript_ (Di ha hb I h fun v u s2 x y H2 I2 rx ry q=>hr a b pins s2 σ H2 x y v u Q I2 rx ry q (hs _ _))
noncomputable def Do (K:PySem.W.Frag):R2:=fun x y H Q=>∃p xs i v,x=.ref p∧y=.int i∧SqL K H p xs∧atI xs i=some v∧Q v H
noncomputable def Dp (K:PySem.W.Frag):R2:=fun x y H Q=>∃p xs i v,x=.ref p∧y=.int i∧SqT K H p xs∧atI xs i=some v∧Q v H
theorem cD:IxR X (Do X.K):=by
 intro value slice pins s σ H x y v u Q I rx ry h hs
 obtain⟨p,xs,i,z,rfl,rfl,hq,he,q⟩:=h
 cases rx
 obtain⟨t,rfl⟩:=ry
 obtain⟨its,r,pl,hz⟩:=I.list hq
 obtain⟨j,h1,h2,h3,h4,h5⟩:=sU he
 obtain⟨w,ew,rw'⟩:=r.get h2
 have hl:=r.length
 have hn:=qL
 have fin:EP X pins σ Q w s:=⟨z,H,I,rw',q⟩
 by_cases h0:0≤i
 ·have hj:i.toNat=j:=by
   rw [seqIndex_of h0 h5] at h1
   exact Option.some.inj h1
  exact item_listR pl.isList h0 (by omega) (by rw [hj];simpa using ew) fin hs
 ·have hj:(i + (its.toArray.size:Int)).toNat=j:=by
   rw [seqIndex_neg (by omega) h4] at h1
   rw [List.size_toArray,← hl]
   exact Option.some.inj h1
  exact subscriptTail_builtinR (x:=w) pl.isList.typeIs slot_list_getitem.lookup
   (wpAny_getItem_list_neg (Q:=fun r s'=>r=w∧EP X pins σ Q r s') pl.isList (by omega) (by rw [List.size_toArray] <;> omega) (by omega) (by rw [hj];simpa using ew) ⟨rfl,fin⟩) hs
theorem bI:IxR X (Dp X.K):=by
 intro value slice pins s σ H x y v u Q I rx ry h hs
 obtain⟨p,xs,i,z,rfl,rfl,hq,he,q⟩:=h
 cases rx
 obtain⟨t,rfl⟩:=ry
 obtain⟨its,r,pl,hz⟩:=I.tuple hq
 obtain⟨j,h1,h2,h3,h4,h5⟩:=sU he
 obtain⟨w,ew,rw'⟩:=r.get h2
 have hl:=r.length
 have hn:=qL
 have fin:EP X pins σ Q w s:=⟨z,H,I,rw',q⟩
 exact subscriptTail_builtinR (x:=w) pl.typeIs slot_tuple_getitem.lookup
  (getItem_tuple (j:=j) (Q:=fun r s'=>r=w∧EP X pins σ Q r s') pl (by omega) (by omega) (by rw [List.size_toArray,← hl];exact h1) (by simpa using ew) ⟨rfl,fin⟩) hs
noncomputable def Hn:V→V→V→Hp→(Hp→Prop)→Prop:=fun o i v H Q=>∃p xs k j,o=.ref p∧i=.int k∧H p=some (.lst xs)∧ixN xs.length k=some j∧Q (upd H p (.lst (xs.set j v)))
theorem nH (lo hi:Option Int) (n:Nat):(sliceBounds lo hi none n).1=((HT.sIx n 0 lo:Nat):Int)∧(sliceBounds lo hi none n).2.1=((HT.sIx n n hi:Nat):Int)∧(sliceBounds lo hi none n).2.2=1:=by
 refine⟨?_,?_,rfl⟩
 ·cases lo with
  | none=>simp [sliceBounds,HT.sIx]
  | some i =>
   simp only [sliceBounds,HT.sIx,Option.getD_none,show (1:Int) > 0 by decide,if_true]
   by_cases h:i < 0
   ·simp only [h,if_true] <;> omega
   ·simp only [h,if_false] <;> omega
 ·cases hi with
  | none=>simp [sliceBounds,HT.sIx]
  | some i =>
   simp only [sliceBounds,HT.sIx,Option.getD_none,show (1:Int) > 0 by decide,if_true]
   by_cases h:i < 0
   ·simp only [h,if_true] <;> omega
   ·simp only [h,if_false] <;> omega
theorem lF (its:List Value) (lo hi:Option Int):slicePick its.toArray lo hi none=((its.drop (HT.sIx its.length 0 lo)).take (HT.sIx its.length its.length hi - HT.sIx its.length 0 lo)).toArray:=by
 obtain⟨h1,h2,h3⟩:=nH lo hi its.toArray.size
 unfold slicePick
 rw [h1,h2,h3]
 simp only [sliceRange_one,pick_run,List.size_toArray] <;> rfl
noncomputable def Ho (K:PySem.W.Frag):V→Option Int→Option Int→Hp→VK→Prop:=fun x lo hi H Q=>∃a xs,x=.ref a∧SqL K H a xs∧∀p,H p=none→Q (.ref p) (upd H p (.lst (lE xs lo hi)))
theorem zL:SlR X (Ho X.K):=by
 intro pins s σ H x v vl vu lo hi sl Q I rx hs pl pu h
 obtain⟨a,xs,rfl,hx,q⟩:=h
 cases rx
 obtain⟨its,r,ht,hz⟩:=I.list hx
 have hlen:=r.length
 refine⟨"list",_,slot_list_getitem.lookup,ht.isList.typeIs,?_⟩
 refine wpAny_getItem_list_slice ht.isList hs pl pu .none (by simp) ?_ (by rw [List.size_toArray] <;> omega)
 rw [lF,← hlen]
 refine⟨.ref s.heap.objs.size,_,I.laid (t':=s.toks) (o:=.lst (lE xs lo hi)) (fun b ob q=>Heap.get?_push_of_some _ q) (Nat.le_refl _) ?_,rfl,q _ (I.hok.fresh (Nat.le_refl _))⟩
 exact⟨Nat.le_trans (jB xs lo hi) hz,_,0,(r.drop (HT.sIx xs.length 0 lo)).take (HT.sIx xs.length xs.length hi - HT.sIx xs.length 0 lo),Heap.get?_push_size _ rfl⟩
noncomputable def BP:V→Bool
 | .non=>true
 | .bl _=>true
 | .int _=>true
 | .str _=>true
 | _=>false
noncomputable def eqV:V→V→Bool
 | .non,.non=>true
 | .bl a,.bl b=>a == b
 | .bl a,.int b=>(if a then 1 else 0) == b
 | .int a,.bl b=>a == (if b then 1 else 0)
 | .int a,.int b=>a == b
 | .str a,.str b=>a == b
 | _,_=>false
noncomputable def inV (x:V) (xs:List V):Bool:=xs.any fun y=>eqV y x
noncomputable def rIn (K:PySem.W.Frag) (neg:Bool):R2:=fun x y H Q=>∃p xs,y=.ref p∧(SqL K H p xs∨SqT K H p xs)∧BP x=true∧xs.all BP=true∧Q (.bl (if neg then !inV x xs else inV x xs)) H
theorem nJ:dC X (.builtin "len") (fun xs H Q=>∃p ys,xs=[.ref p]∧(SqL X.K H p ys∨SqT X.K H p ys)∧Q (.int ys.length) H):=by
 intro pins s σ H xs us Q I r h
 obtain⟨p,ys,rfl,hq,q⟩:=h
 obtain⟨u,rfl,rx⟩:=vals1 r
 cases rx
 have hn:=qL
 rcases hq with hq | hq
 ·obtain⟨its,r',pl,hz⟩:=I.list hq
  have hlen:=r'.length
  exact Calls.call_len_list pl.isList (by simp only [List.size_toArray] <;> omega) ⟨.int ys.length,H,I.tok _,⟨s.toks + 1,by rw [List.size_toArray,hlen]⟩,q⟩
 ·obtain⟨its,r',pl,hz⟩:=I.tuple hq
  have hlen:=r'.length
  exact len_tuple pl (by simp only [List.size_toArray] <;> omega) ⟨.int ys.length,H,I.tok _,⟨s.toks + 1,by rw [List.size_toArray,hlen]⟩,q⟩
theorem nM:dC X (.type "list") (fun xs H Q=>∃p ys,xs=[.ref p]∧(SqL X.K H p ys∨SqT X.K H p ys)∧∀l,H l=none→Q (.ref l) (upd H l (.lst ys))):=by
 intro pins s σ H xs us Q I r h
 obtain⟨p,ys,rfl,hq,q⟩:=h
 obtain⟨u,rfl,rx⟩:=vals1 r
 cases rx
 have fin:∀ (its:List Value),Vals ys its→ys.length≤sizeLine→∀ (h':Heap) (c':Nat),(∀b o',s.heap.get? b=some o'→h'.get? b=some o') →
   h'.get? s.heap.objs.size=some { cls:=.type "list",dict:=none,data:=.seq its.toArray c',slots:=#[] }→EP X pins σ Q (.ref s.heap.objs.size) { s with heap:=h' }:=fun its r' hz h' c' kp e =>
  ⟨.ref s.heap.objs.size,_,I.laid (t':=s.toks) kp (Nat.le_refl _) (show ObjOk X.prog X.w _ h' _ (.lst ys) from ⟨hz,its,c',r',e⟩),rfl,q _ (I.hok.fresh (Nat.le_refl _))⟩
 rcases hq with hq | hq
 ·obtain⟨its,r',pl,hz⟩:=I.list hq
  have hlen:=r'.length
  obtain⟨o,ho,hc,n,hd⟩:=pl.isList
  exact call_list_seq p (.inl rfl) ho hc hd (fun h' c' kp e=>fin its r' hz h' c' kp e) (by simp only [List.size_toArray] <;> omega)
 ·obtain⟨its,r',pl,hz⟩:=I.tuple hq
  have hlen:=r'.length
  obtain⟨o,ho,hc,n,hd⟩:=pl
  exact call_list_seq p (.inr rfl) ho hc hd (fun h' c' kp e=>fin its r' hz h' c' kp e) (by simp only [List.size_toArray] <;> omega)
theorem lG:dC X (.type "tuple") (fun xs H Q=>∃p ys,xs=[.ref p]∧((SqL X.K H p ys∧∀l,H l=none→Q (.ref l) (upd H l (.tup ys)))∨(SqT X.K H p ys∧Q (.ref p) H))):=by
 intro pins s σ H xs us Q I r h
 obtain⟨p,ys,rfl,h⟩:=h
 obtain⟨u,rfl,rx⟩:=vals1 r
 cases rx
 rcases h with ⟨hq,q⟩ | ⟨hq,q⟩
 ·obtain⟨its,r',pl,hz⟩:=I.list hq
  have hlen:=r'.length
  refine call_tuple_list pl.isList (fun h' kp=>?_) (by simp only [List.size_toArray] <;> omega)
  have I1:Inv X pins σ H { s with heap:=h' }:=I.kept (t':=s.toks) kp
  have I2:Inv X pins σ (upd H h'.objs.size (.tup ys)) { s with heap:=h'.push { cls:=.type "tuple",data:=.seq its.toArray } } :=
   I1.laid (t':=s.toks) (fun b o e=>Heap.get?_push_of_some _ e) (Nat.le_refl _) (show ObjOk X.prog X.w _ _ _ (.tup ys) from ⟨hz,its,r',IsTup.new _ _⟩)
  exact⟨.ref h'.objs.size,_,I2,rfl,q _ (I1.hok.fresh (Nat.le_refl _))⟩
 ·obtain⟨its,r',pl,hz⟩:=I.tuple hq
  exact call_tuple_same pl ⟨.ref p,H,I,rfl,q⟩
noncomputable def tyV (K:PySem.W.Frag) (T:String) (x:V) (H:Hp):Prop:=match x with
 | .str _=>T = "str"
 | .int _=>T = "int"
 | .ref p=>(T = "list" ∧ ∃xs,SqL K H p xs)∨(T = "tuple" ∧ ∃o,K.lookup p=some o∧o.cls=.type "tuple" ∧ o.dict=none) ∨
   (T = "dict" ∧ ((∃kvs,H p=some (.dK kvs))∨∃kvs,H p=some (.dT kvs)))∨(T = "set" ∧ ∃S n,H p=some (.set S n))
 | _=>False
theorem xu {pins:List (Addr×Obj)} {σ:St} {H:Hp} {s:Shared} {T:String} {x:V} {v:Value} (I:Inv X pins σ H s) (r:RelV x v) (ty:tyV X.K T x H) :
  s.TypeIs v T∧∀a,v=.ref a→∃ob,s.heap.get? a=some ob∧ob.dict=none:=by
 cases x with
 | str z =>
  obtain⟨t,rfl⟩:=r
  cases (show T = "str" from ty)
  exact⟨typeIs_str s z t,fun _ e=>nomatch e⟩
 | int i =>
  obtain⟨t,rfl⟩:=r
  cases (show T = "int" from ty)
  exact⟨typeIs_int s i t,fun _ e=>nomatch e⟩
 | ref p =>
  cases r
  rcases ty with ⟨rfl,xs,hq⟩ | ⟨rfl,o,hk,hc,hd⟩ | ⟨rfl,hk⟩ | ⟨rfl,S,n,hk⟩
  ·obtain⟨its,_,pl,_⟩:=I.list hq
   refine⟨pl.isList.typeIs,fun a e=>?_⟩
   cases e
   obtain⟨o,n,e,c,hd,_⟩:=pl
   exact⟨o,e,hd⟩
  ·refine⟨⟨o,I.kIn p o hk,hc⟩,fun a e=>?_⟩
   cases e
   exact⟨o,I.kIn _ o hk,hd⟩
  ·have z:∃o,s.heap.get? p=some o∧o.ExactDict:=by
    rcases hk with ⟨kvs,hk⟩ | ⟨kvs,hk⟩
    ·obtain⟨_,_,_,_,o,_,_,e,ex,_⟩:=I.hok p _ hk
     exact⟨o,e,ex⟩
    ·obtain⟨_,_,_,_,o,_,_,e,ex,_⟩:=I.hok p _ hk
     exact⟨o,e,ex⟩
   obtain⟨o,e,ex⟩:=z
   refine⟨⟨o,e,ex.1⟩,fun a e2=>?_⟩
   cases e2
   exact⟨o,e,ex.2.1⟩
  ·obtain⟨o,_,_,_,e,ex,_⟩:=I.hok p _ hk
   refine⟨⟨o,e,ex.1⟩,fun a e2=>?_⟩
   cases e2
   exact⟨o,e,ex.2.1⟩
 | _=>exact False.elim ty
noncomputable def Hq (K:PySem.W.Frag) (T:String) (r:V→List V→Hp→VK→Prop) (to:TE):TE:=fun σ H Q=>to σ H fun x H1=>tyV K T x H1∧r x [] H1 Q
noncomputable def tBM (K:PySem.W.Frag) (T:String) (r:V→List V→Hp→VK→Prop) (to:TE) (t:TA):TE:=fun σ H Q=>to σ H fun x H1=>tyV K T x H1∧t σ H1 fun xs H2=>r x xs H2 Q
variable {o e:Expr} {es:List Expr} {to:TE} {t:TA} {name:Str} {apos cpos:Pos} {T id:String} {r:V→List V→Hp→VK→Prop}
theorem qW (pa:PlainAttrs T) (slot:Slot T name id) (hty:typeOf (.builtin id)=pure (.type "method_descriptor")) (hm:MtR X id r) (ho:PE X o to)
  (hbase:attributeBase o name X.env (eval o X.env)=eval o X.env:=by rfl) (hline:(apos.endLine == cpos.line)=true:=by rfl):PE X (.Call (.Attribute o name apos) [] [] cpos) (Hq X.K T r to):=by
 intro pins s σ H Q I h
 refine wpAny_Call_method0_late hbase hline (thn (ho pins s σ H _ I h) fun v s1 ⟨x,H1,I1,r1,ty,q1⟩=>?_)
 obtain⟨h1,h2⟩:=xu I1 r1 ty
 exact⟨T,id,pa,slot,hty,h1,h2,Calls.callWith_builtin rfl (PySem.evalArgs_none (hm pins s1 σ H1 x [] v [] Q I1 r1 .nil q1))⟩
theorem d7 (pa:PlainAttrs T) (slot:Slot T name id) (hty:typeOf (.builtin id)=pure (.type "method_descriptor")) (hm:MtR X id r) (ho:PE X o to) (ha:PA X (e :: es) t)
  (hbase:attributeBase o name X.env (eval o X.env)=eval o X.env:=by rfl)
  (hfew:((backTo cpos (starEach (e :: es) X.env)).all (fun x=>!x.1) && (backToKw cpos (keywordEach [] X.env)).all (fun x=>x.1.isSome)
   && decide ((e :: es).length + ([]:List Keyword).length + (if ([]:List Keyword).isEmpty then 0 else 1) < 30))=true:=by rfl)
  (hline:(apos.endLine == cpos.line)=true:=by rfl) (hs:starEach (e :: es) X.env=(false,eval e X.env) :: starEach es X.env:=by rfl) (hplain:(backTo cpos (starEach es X.env)).any (·.1)=false:=by rfl) :
  PE X (.Call (.Attribute o name apos) (e :: es) [] cpos) (tBM X.K T r to t):=by
 intro pins s σ H Q I h
 refine wpAny_Call_method_late hbase hfew hline rfl (thn (ho pins s σ H _ I h) fun v s1 ⟨x,H1,I1,r1,ty,q1⟩=>?_)
 obtain⟨h1,h2⟩:=xu I1 r1 ty
 refine⟨T,id,pa,slot,hty,h1,h2,?_⟩
 have hA:=ha cpos pins s1 σ H1 _ I1 q1
 rw [hs] at hA ⊢
 refine Calls.callWith_builtin (by show (false || (backTo cpos (starEach es X.env)).any (·.1))=false;rw [hplain] <;> rfl) (Calls.evalArgs_plain ?_)
 exact thn hA fun us s2 ⟨vs,H2,I2,r2,q2⟩=>hm pins s2 σ H2 x vs v us Q I2 r1 r2 q2
/- xs.append(e),list.index on a module's tuple .. are MtR facts of 06m -/
end
end L2
namespace L2
open PySem PySem.Spec PyProof.Rows
noncomputable def MtM (X:Cx) (id:String) (r:V→List V→Hp→VK→Prop):Prop :=
 ∀ (pins:List (Addr×Obj)) (s:Shared) (σ:St) (H:Hp) (x:V) (xs:List V) (v:Value) (us:List Value) (Q:VK),Inv X pins σ H s→RelV x v→Vals xs us→r x xs H Q →
  wpAny (model X.prog X.w) X.A (call (.builtin id) (v :: us)) (EP X pins σ Q) X.xe s
theorem Vals.one:∀ {x:V} {us:List Value},Vals [x] us→∃u,us=[u]∧RelV x u
 | _,_,.cons r .nil=>⟨_,rfl,r⟩
theorem Vals.zero:∀ {us:List Value},Vals [] us→us=[]
 | _,.nil=>rfl
theorem Vals.dropLast {xs:List V} {us:List Value} (h:Vals xs us):Vals xs.dropLast us.dropLast:=by
 induction h with
 | nil=>exact .nil
 | cons r t ih =>
  cases t with
  | nil=>exact .nil
  | cons q t'=>exact .cons r ih
theorem qX {α:Type} (l:List α):l.eraseIdx (l.length - 1)=l.dropLast:=by
 induction l with
 | nil=>rfl
 | cons a r ih =>
  cases r with
  | nil=>rfl
  | cons b r =>
   have e:(a :: b :: r).length - 1=((b :: r).length - 1) + 1:=by
    have h1:(a :: b :: r).length=r.length + 2:=rfl
    have h2:(b :: r).length=r.length + 1:=rfl
    omega
   rw [e,List.eraseIdx_cons_succ,ih]
   all_goals rfl
section
variable {X:Cx} {pins:List (Addr×Obj)} {σ:St} {H:Hp} {s:Shared} {l b:Addr} {xs ys zs:List V}
theorem Inv.lset {its its':List Value} {n:Nat} {f:Array Value→Array Value} {t':Nat} (I:Inv X pins σ H s) (hH:H l=some (.lst xs))
  (e:s.heap.get? l=some { cls:=.type "list",data:=.seq its.toArray n }) (hf:f its.toArray=its'.toArray) (hv:Vals ys its') (hz:ys.length≤sizeLine) :
  Inv X pins σ (upd H l (.lst ys)) { s with heap:=s.heap.update l (Obj.mapSeq f),toks:=t' }:=by
 have q:=PySem.IsL.update e f
 rw [hf] at q
 refine I.write (x:=l) (e:=l) (by rw [hH];exact trivial) (.inl rfl) (fun b' u hb hu=>(Heap.get?_update_other s.heap (Obj.mapSeq f) (Ne.symm hb)).trans hu) ⟨_,q⟩ ?_
 exact⟨hz,its',_,hv,q⟩
theorem Inv.lnew {its:List Value} {t':Nat} (I:Inv X pins σ H s) (hv:Vals ys its) (hz:ys.length≤sizeLine) :
  Inv X pins σ (upd H s.heap.objs.size (.lst ys)) { s with heap:=s.heap.push { cls:=.type "list",data:=.seq its.toArray },toks:=t' } :=
 I.laid (fun _ _ q=>Heap.get?_push_of_some _ q) (Nat.le_refl _) ⟨hz,its,0,hv,Heap.get?_push_size _ rfl⟩
theorem Inv.fresh (I:Inv X pins σ H s):H s.heap.objs.size=none:=I.hok.fresh (Nat.le_refl _)
theorem Inv.lstM (I:Inv X pins σ H s) (hH:H l=some (.lst xs)):xs.length≤sizeLine∧∃ (its:List Value) (n:Nat),Vals xs its∧xs.length=its.length∧s.heap.get? l=some { cls:=.type "list",data:=.seq its.toArray n }:=by
 obtain⟨z,its,n,r,e⟩:=I.hok l _ hH
 exact⟨z,its,n,r,r.length,e⟩
theorem xx {n:Nat} (h:n≤sizeLine):Builtin.List.listTooLong n=false:=by
 unfold Builtin.List.listTooLong
 exact decide_eq_false (by omega)
end
section
variable {X:Cx}
noncomputable def sV:V→List V→Hp→VK→Prop:=fun x vs H Q=>∃l xs y,x=.ref l∧vs=[y]∧H l=some (.lst xs)∧xs.length < sizeLine∧Q .non (upd H l (.lst (xs ++ [y])))
theorem cj:MtM X "list.append" sV:=by
 intro pins s σ H x vs v us Q I rx rv h
 obtain⟨l,xs,y,rfl,rfl,hH,hz,q⟩:=h
 cases rx
 obtain⟨u,rfl,ru⟩:=rv.one
 obtain⟨z,its,n,r,hl,e⟩:=I.lstM hH
 refine call_meets F.slot_list_append ⟨_,e,rfl⟩ F.entry_list_append (F.args_list_append_2 _ _) (PySem.list_append l its.toArray n u (by rw [List.size_toArray];omega)) ⟨e,?_⟩
 refine⟨.non,_,I.lset (its':=its ++ [u]) hH e (by simp) (r.append (.cons ru .nil)) ?_,rfl,q⟩
 rw [List.length_append,List.length_singleton]
 omega
noncomputable def sW:V→List V→Hp→VK→Prop:=fun x vs H Q=>∃l b xs zs,x=.ref l∧vs=[.ref b]∧H l=some (.lst xs)∧H b=some (.lst zs)∧xs.length + zs.length≤sizeLine∧Q .non (upd H l (.lst (xs ++ zs)))
theorem jm:MtM X "list.extend" sW:=by
 intro pins s σ H x vs v us Q I rx rv h
 obtain⟨l,b,xs,zs,rfl,rfl,hH,hB,hz,q⟩:=h
 cases rx
 obtain⟨u,rfl,ru⟩:=rv.one
 cases ru
 obtain⟨z,its,n,r,hl,e⟩:=I.lstM hH
 obtain⟨z2,its2,n2,r2,hl2,e2⟩:=I.lstM hB
 have hsz:its.toArray.size + its2.toArray.size≤sizeLine:=by rw [List.size_toArray,List.size_toArray];omega
 have hlong:¬ (!its.toArray.isEmpty && Builtin.List.listTooLong (its.toArray.size + its2.toArray.size))=true:=by
  rw [xx hsz,Bool.and_false]
  exact Bool.false_ne_true
 refine call_meets F.slot_list_extend ⟨_,e,rfl⟩ F.entry_list_extend (F.args_list_extend_2 _ _)
  (AutoSeq1.list_extend_list_list_0 l its.toArray n b its2.toArray n2 hlong (by rw [List.size_toArray];omega) (by omega)) ⟨e,e2,?_⟩
 refine⟨.non,_,I.lset (its':=its ++ its2) hH e (by simp) (r.append r2) ?_,rfl,q⟩
 rw [List.length_append]
 omega
noncomputable def Ja:V→List V→Hp→VK→Prop:=fun x vs H Q=>∃l xs y,x=.ref l∧vs=[]∧H l=some (.lst xs)∧xs[xs.length - 1]? = some y∧Q y (upd H l (.lst xs.dropLast))
theorem Dq:MtM X "list.pop" Ja:=by
 intro pins s σ H x vs v us Q I rx rv h
 obtain⟨l,xs,y,rfl,rfl,hH,hy,q⟩:=h
 cases rx
 have hus:=rv.zero
 subst hus
 obtain⟨z,its,n,r,hl,e⟩:=I.lstM hH
 obtain⟨u,hu,ru⟩:=r.get hy
 have hy':its.toArray[its.toArray.size - 1]? = some u:=by
  show its.toArray[its.length - 1]? = some u
  rw [← Array.getElem?_toList,← hl]
  exact hu
 refine call_meets F.slot_list_pop ⟨_,e,rfl⟩ F.entry_list_pop (F.args_list_pop_1 _) (MeetsSeq.list_pop_last l its.toArray n u hy' (by rw [List.size_toArray];omega)) ⟨e,?_⟩
 refine⟨y,_,I.lset (its':=its.dropLast) hH e ?_ r.dropLast ?_,ru,q⟩
 ·show its.toArray.eraseIdxIfInBounds (its.toArray.size - 1)=its.dropLast.toArray
  rw [List.size_toArray,List.eraseIdxIfInBounds_toArray,qX]
 ·rw [List.length_dropLast]
  omega
noncomputable def xF:V→List V→Hp→VK→Prop:=fun x vs H Q=>∃l xs,x=.ref l∧vs=[]∧H l=some (.lst xs)∧Q .non (upd H l (.lst []))
theorem xG:MtM X "list.clear" xF:=by
 intro pins s σ H x vs v us Q I rx rv h
 obtain⟨l,xs,rfl,rfl,hH,q⟩:=h
 cases rx
 have hus:=rv.zero
 subst hus
 obtain⟨z,its,n,r,hl,e⟩:=I.lstM hH
 refine call_meets F.slot_list_clear ⟨_,e,rfl⟩ F.entry_list_clear (F.args_list_clear_1 _) (AutoSeq1.list_clear_list_0 l its.toArray n (by rw [List.size_toArray];omega)) ⟨e,?_⟩
 exact⟨.non,_,I.lset (its':=[]) (ys:=[]) hH e rfl .nil (Nat.zero_le _),rfl,q⟩
noncomputable def Hr:R2:=fun x y H Q=>∃l b xs zs,x=.ref l∧y=.ref b∧H l=some (.lst xs)∧H b=some (.lst zs)∧xs.length + zs.length≤sizeLine∧∀p,H p=none→Q (.ref p) (upd H p (.lst (xs ++ zs)))
theorem xH:OpR X (binaryOp .Add) Hr:=by
 intro pins s σ H x y v u Q I rx ry h
 obtain⟨l,b,xs,zs,rfl,rfl,hH,hB,hz,q⟩:=h
 cases rx
 cases ry
 obtain⟨z,its,n,r,hl,e⟩:=I.lstM hH
 obtain⟨z2,its2,n2,r2,hl2,e2⟩:=I.lstM hB
 refine PySem.P.add_list e e2 ?_ (by rw [List.size_toArray,List.size_toArray];omega)
 have ea:its.toArray ++ its2.toArray=(its ++ its2).toArray:=by simp
 rw [ea]
 exact⟨.ref _,_,I.lnew (t':=s.toks) (r.append r2) (by rw [List.length_append];omega),rfl,q _ I.fresh⟩
noncomputable def Jb:R2:=fun x y H Q=>∃l k xs,x=.ref l∧y=.int k∧H l=some (.lst xs)∧-(2 ^ 63)≤k∧k < 2 ^ 63∧xs.length * k.toNat≤sizeLine ∧
 ∀p,H p=none→Q (.ref p) (upd H p (.lst (List.replicate k.toNat xs).flatten))
end
section
variable {prog:Program} {w:World} {A:Around} {E:Value→Shared→Prop} {s:Shared}
end
section
variable {X:Cx}
end
end L2
namespace Att
open PySem PySem.W PySem.Calls PyProof.Rows
theorem jE {P:Params} {h:Heap}:∀ (ns:List Int) (vs:List Value),WellAll P h vs (ns.map WData.int)→IntsAre vs ns:=by
 intro ns
 induction ns with
 | nil =>
  intro vs w
  rw [List.map_nil] at w
  cases w
  exact .nil
 | cons n ns ih =>
  intro vs w
  rw [List.map_cons] at w
  cases w with
  | cons a b =>
   cases a
   exact .cons _ _ (ih _ b)
theorem uE {l:OpenLaw} {n:Nat} (hn:l.most=some n) {P:Params} {h:Heap} {args:List WData} {vals:List Value}
  (hpre:l.row.toRowW.claim.pre args=true) (hwl:WellAll P h vals args) :
  ∃a vs ns,vals=[Value.ref a]∧args=[WData.list (ns.map WData.int)]∧h.get? a=some { cls:=.type "list",data:=.seq vs.toArray }∧IntsAre vs ns∧ns.length≤n:=by
 have hsh:WShape.hasAll [] args [.list .int]=true:=(pre_splitW hpre).1
 have hc:l.pre.holds [] { args:=args } = true:=(pre_splitW hpre).2
 obtain⟨d,r,rfl,h1,h2⟩:=hasAllW_cons hsh
 obtain rfl:=hasAllW_nil h2
 obtain⟨xs,rfl,h3⟩:=hasW_list h1
 obtain⟨ns,rfl⟩:=items_int h3
 have hlen:ns.length≤n:=by
  unfold OpenLaw.pre at hc
  have h4:(WTm.not (.lt (.lit (.int (n:Int))) (.len (.arg 0)))).holds [] { args:=[.list (ns.map .int)] } = true:=by
   have h4:=(holds_andW hc).1
   rw [hn] at h4
   exact h4
  have h5:=condW_of h4 (w_not (w_lt w_lit (w_len_list (w_arg rfl))))
  rw [List.length_map] at h5
  refine Nat.le_of_not_lt fun q=>?_
  have q':(n:Int) < ((ns.length:Nat):Int):=by omega
  first
   | (rw [decide_eq_true q'] at h5;exact absurd h5 (by decide))
   | (simp at h5;omega)
 cases hwl with
 | cons w1 w2 =>
  cases w2
  cases w1 with
  | list ho hall=>exact⟨_,_,ns,rfl,rfl,ho,jE ns _ hall,hlen⟩
theorem uF (l:OpenLaw) (args:List WData):l.row.toRowW.claim.post args (.bool true) args=true :=
 postW_of (r:=l.row.toRowW) (X:=(true == true))
  (show WShape.has [] (.bool true) .bool=true by first | rfl | decide | simp [WShape.has,WShape.arms,WShape.armsAll])
  (show (WTm.eq .res (.lit (.bool true))).value [] { args:=args,res:=some (.bool true),after:=args } = some (.bool (true == true)) from w_eq_bool (w_res rfl) w_lit) rfl
theorem attach_call {l:OpenLaw} {n:Nat} {q:Program} {loose:List Str} {XP:(Str→Option Value)→Heap→Prop} {YP:World→Heap→Prop} {d:DefRec}
  (hn:l.most=some n) (hdf:d.params.defaults=[])
  (call:∀ (w:World) (s₀ s₁:Shared) (mg mb:Str→Option Value) (fa:Addr) (o:Obj) (pm cd doc:Value) (a:Addr) (vs:List Value) (ns:List Int),
   Ground q loose [] XP w s₀ mg mb s₁.heap→YP w s₁.heap →
   s₁.heap.get? fa=some o→o.data=.func (docDef d.name d.params d.body d.scope pm cd doc)→s₁.heap.CodeRec cd d.name→mg d.name=some (.ref fa) →
   s₁.heap.get? a=some { cls:=.type "list",data:=.seq vs.toArray }→IntsAre vs ns→ns.length≤n→s₁.gens = #[] →
   codeAny (model l.prog w) callerA (.call (.ref fa) ⟨[.ref a],[]⟩) (fun r s'=>r=.ok (.ret (.bool true))∧OldK s₁.heap s'.heap∧s'.os=s₁.os∧AllBare s'.gens) s₁) :
  WalkO q loose XP YP l.row.toRowW d [] (fun f vs=>PySem.call f vs):=by
 intro w s₀ s₁ mg mb G Y fa o pm cd doc dV kV ho hd hcd hD hmg hg args vals as hpre hlay hrd hwl hlo
 obtain rfl:dV=.none:=Dflts.none hD hdf
 obtain rfl:kV=.none:=Dflts.noKw hD
 obtain⟨a,vs,ns,rfl,rfl,hobj,hints,hlen⟩:=uE hn hpre hwl
 refine enter_call (codeAny_mono (call w s₀ s₁ mg mb fa o pm cd doc a vs ns G Y ho (fd_plain hd) hcd hmg hobj hints hlen hg) fun r s' hq=>?_)
 obtain⟨rfl,h2,h3,h4⟩:=hq
 exact⟨.inl ⟨.bool true,.bool true,[],rfl,fun _=>rfl,.bool true,uF l _,fun _=>⟨List.Pairwise.nil,fun _ hm=>(nomatch hm)⟩⟩,h2,h3,h4⟩
section
variable {prog:Program} {w:World} {A:Around} {E:Value→Shared→Prop} {s:Shared} {K:Frag}
end
end Att
namespace L2
open PySem PySem.Spec PyProof.Rows
theorem lZ:∀ {vs:List Value} {ns:List Int},IntsAre vs ns→Vals (ns.map V.int) vs
 | _,_,.nil=>.nil
 | _,_,.cons n t h=>.cons ⟨t,rfl⟩ (lZ h)
noncomputable def Only (H:Hp):Prop:=∀b,H b=none∨∃o xs,H b=some (.frz o (.lst xs))
theorem xJ {P:Program} {w:World} {K:PySem.W.Frag} {mg mb:Str→Option Value} {CX:CXT} {k:Nat} {fa a:Addr} {fd:FuncData} {x:Str} {sp:Sp} {s₁:Shared} {vs:List Value} {ns:List Int}
  (KX:K.In s₁.heap) (hns:s₁.heap.Ns mainGlobals mg) (hb:s₁.heap.Ns builtinsNs mb) (hbb:∀x:Str,x ≠ "__name__" → mb x=bootBuiltins x) (hlim:s₁.heap.NoLimit) (hg:s₁.gens = #[])
  (ha:s₁.heap.get? a=some { cls:=.type "list",data:=.seq vs.toArray }) (hi:IntsAre vs ns) (hl:ns.length≤sizeLine) (hr:Room k callerA)
  (F:∀base:Heap,K.In base→base.Ns mainGlobals mg→bA P w K mg base CX k fa fd [x] sp) (hbind:∀ (s:Shared) (u:Value),BindsTo s fd ⟨[u],[]⟩ [(x,u)])
  (hsp:∀H:Hp,Only H→SqL K H a (ns.map V.int)→sp [.ref a] H (fun v _=>v=.bl true) fun _ _ _=>False)
  (hCX:∀H e s',CX [] H s₁ (fun _ _ _=>False) e s'→False) :
  codeAny (model P w) callerA (.call (.ref fa) ⟨[.ref a],[]⟩) (fun r s'=>r=.ok (.ret (.bool true))∧OldK s₁.heap s'.heap∧s'.os=s₁.os∧AllBare s'.gens) s₁:=by
 have rv:=lZ hi
 have lenV:=hi.length
 have core:∀H:Hp,Only H→SqL K H a (ns.map V.int)→HOk P w H s₁.heap→(∀b,H b≠none→b=a)→(H a≠none→K.lookup a=none) →
   codeAny (model P w) callerA (.call (.ref fa) ⟨[.ref a],[]⟩) (fun r s'=>r=.ok (.ret (.bool true))∧OldK s₁.heap s'.heap∧s'.os=s₁.os∧AllBare s'.gens) s₁:=by
  intro H hO hS hok hA hK
  have base_of:∀ {b:Addr} {o:Obj},s₁.heap.get? b=some o→H b=none→(m8 s₁.heap H).get? b=some o:=fun e n=>wO e n
  have noA:∀ {b:Addr} {o:Obj} {es:Array DictEntry} {ep:Nat},s₁.heap.get? b=some o→o.data=.dict es ep→H b=none:=fun {b o es ep} e d=>by
   cases q:H b with
   | none=>rfl
   | some u =>
    have e':b=a:=hA b (by rw [q];simp)
    subst e'
    rw [ha] at e;cases e
    have d':Data.seq vs.toArray _=Data.dict es ep:=d
    cases d'
  have nsK:∀ {b:Addr} {m:Str→Option Value},s₁.heap.Ns b m→(m8 s₁.heap H).Ns b m:=fun {b m} ⟨o,es,ep,e,d,r⟩=>⟨o,es,ep,base_of e (noA e d),d,r⟩
  have hKb:K.In (m8 s₁.heap H):=fun b o e=>base_of (KX b o e) (by
   cases q:H b with
   | none=>rfl
   | some u =>
    have e':b=a:=hA b (by rw [q];simp)
    subst e'
    rw [hK (by rw [q];simp)] at e;cases e)
  have hM:Mod K mg (m8 s₁.heap H):=⟨hKb,nsK hns,⟨mb,nsK hb,hbb⟩,let ⟨mc,h1,h2⟩:=hlim;⟨mc,nsK h1,h2⟩⟩
  have e0:Env0 P w K mg (m8 s₁.heap H) callerA [] s₁ H:=⟨rfl,hM,fun b o e=>zm e,Nat.le_of_eq (uw _ _),trivial,fun b hb=>absurd (show b∈([]:List Addr) from hb) (by simp),hok,.of_eq hg⟩
  refine codeAny_mono ((F _ hKb (nsK hns)).run callerA [] s₁ H ⟨[.ref a],[]⟩ [.ref a] [.ref a] _ _ hr e0 (hbind s₁ (.ref a)) (.cons rfl .nil) (hsp H hO hS)) fun r s' h=>?_
  cases r with
  | error e=>exact (hCX H e s' h).elim
  | ok fl =>
   cases fl with
   | next=>exact False.elim h
   | brk=>exact False.elim h
   | cont=>exact False.elim h
   | ret u =>
    obtain⟨v,H',os,bare,un,hok',r',q⟩:=h
    have q':v=.bl true:=q
    subst q'
    obtain rfl:u=Value.bool true:=r'
    refine⟨rfl,OldK.of_keep fun b o e=>?_,os,bare⟩
    cases q:H b with
    | none=>exact un.keep b o e q (by intro z;exact absurd (show b∈([]:List Addr) from z) (by simp)) (by simp)
    | some u =>
     rcases hO b with z | ⟨ob,xs,z⟩
     ·rw [q] at z;cases z
     ·have z2:=un.frzs b ob _ z
      obtain⟨e1,_⟩:=hok b _ z
      obtain⟨e2,_⟩:=hok' b _ z2
      rw [e] at e1;cases e1
      exact e2
 cases hk:K.lookup a with
 | some o =>
  have e:=KX a o hk
  rw [ha] at e
  cases e
  refine core (fun _=>none) (fun _=>.inl rfl) (.inr ⟨_,vs.toArray,_,hk,rfl,rfl,rfl,by rw [List.size_toArray,lenV];exact hl,by simpa using rv⟩) (fun b u z=>by have z':(none:Option HO)=some u:=z;cases z') (fun b z=>absurd rfl z) fun z=>absurd rfl z
 | none =>
  refine core (fun b=>if b=a then some (.frz { cls:=.type "list",data:=.seq vs.toArray } (.lst (ns.map V.int))) else none) (fun b=>?_) (.inl (.inr ⟨{ cls:=.type "list",data:=.seq vs.toArray },if_pos rfl⟩)) (fun b u z=>?_) (fun b z=>?_) fun _=>hk
  ·by_cases hb:b=a
   ·exact .inr ⟨_,_,if_pos hb⟩
   ·exact .inl (if_neg hb)
  ·by_cases hb:b=a
   ·have z':=(if_pos hb).symm.trans z
    cases z'
    subst hb
    exact⟨ha,by rw [List.length_map];exact hl,vs,_,rv,ha⟩
   ·have z':=(if_neg hb).symm.trans z
    cases z'
  ·by_cases hb:b=a
   ·exact hb
   ·exact absurd (if_neg hb) z
end L2
namespace L2
open PySem PySem.Spec PyProof.Rows
theorem walk_of {l:PySem.W.OpenLaw} {n k:Nat} {q:Program} {loose:List Str} {XP:(Str→Option Value)→Heap→Prop} {YP:World→Heap→Prop} {d:DefRec} {K:Params→PySem.W.Frag} {CX:World→CXT} {sp:World→Sp} {x:Str}
  (hn:l.most=some n) (hn2:n≤sizeLine) (hdf:d.params.defaults=[]) (hr:Room k callerA)
  (hY:∀ (w:World) (h:Heap),YP w h→(K w.params).In h)
  (F:∀ (w:World) (mg:Str→Option Value) (fa:Addr) (h:Heap),(K w.params).In h→h.Ns mainGlobals mg→mg d.name=some (.ref fa) →
   ∃fd:FuncData,(∀ (s:Shared) (u:Value),BindsTo s fd ⟨[u],[]⟩ [(x,u)]) ∧
    ∀base:Heap,(K w.params).In base→base.Ns mainGlobals mg→bA l.prog w (K w.params) mg base (CX w) k fa fd [x] (sp w))
  (hsp:∀ (w:World) (H:Hp) (a:Addr) (ns:List Int),ns.length≤n→Only H→SqL (K w.params) H a (ns.map V.int)→sp w [.ref a] H (fun v _=>v=.bl true) fun _ _ _=>False)
  (hCX:∀ (w:World) (H:Hp) (s:Shared) (e:Value) (s':Shared),CX w [] H s (fun _ _ _=>False) e s'→False) :
  PySem.W.WalkO q loose XP YP l.row.toRowW d [] (fun f vs=>PySem.call f vs):=by
 refine Att.attach_call hn hdf fun w s₀ s₁ mg mb fa o pm cd doc a vs ns G Y ho hd hcd hmg hobj hints hlen hg=>?_
 have KX:=hY w _ Y
 obtain⟨fd,hb,hF⟩:=F w mg fa _ KX G.T.g hmg
 exact xJ KX G.T.g G.T.b G.T.builtins G.T.nolimit hg hobj hints (Nat.le_trans hlen hn2) hr hF hb (fun H hO hS=>hsp w H a ns hlen hO hS) fun H e s'=>hCX w H s₁ e s'
end L2
/- THE LAST THEOREM (shape;LID,My.* are yours):
  My.Adr: a structure of the addresses that your layer names (classes,functions);My.Txt K t: a structure (Prop) of the equations over K;
  My.txt_mk:{K} {implicit addresses ..} (e1:nsIn K mainGlobals "law" = some (some (.ref f))) (e2:K.lookup f=some ⟨oc,od,.func (fnOf "law" "law" params body scope dV kV doc pm an cdv ct),sl⟩) (e3:codeIn K cdv "law" = true) ..:∃t,My.Txt K t
(the tactic k_is has no namespace: write k_is) -/
namespace L2
open PySem PySem.Spec PyProof.Rows
noncomputable def inClass (s:Stmt) (j:Nat):Stmt:=match s with
 | .ClassDef _ _ _ body _ _ _ _ _ _ _=>body.getD j (.Pass ⟨0,0,0,0⟩)
 | _=>.Pass ⟨0,0,0,0⟩
noncomputable def aL (s:Stmt):Arguments:=match s with
 | .FunctionDef _ a _ _ _ _ _ _ _ _=>a
 | _=>{ posonlyargs:=[],args:=[],vararg:=none,kwonlyargs:=[],kw_defaults:=[],kwarg:=none,defaults:=[] }
noncomputable def aJ (s:Stmt):List Stmt:=match s with
 | .FunctionDef _ _ b _ _ _ _ _ _ _=>b
 | _=>[]
noncomputable def aq (s:Stmt):Scope:=match s with
 | .FunctionDef _ _ _ _ _ _ sc _ _ _=>sc
 | _=>{ kind:=.function,names:=[],isGenerator:=false,isCoroutine:=false }
noncomputable abbrev CX0:CXT:=fun _ _ _ _ _ _=>False
noncomputable abbrev E0:XK:=fun _ _ _=>False
theorem xK {X:Cx}:jl CX0 X E0:=fun _ _ _ _ _ _ _ h=>h.elim
structure Fun (K:PySem.W.Frag) (x qual:Str) (st:Stmt) (f:Addr) (fd:FuncData):Prop where
 ex:∃ (oc:Value) (od:Option Addr) (kV doc pm:Value) (an:Option Addr) (cdv ct:Value) (osl:Array (Option Value)),
  fd=PySem.W.fnOf x qual (aL st) (aJ st) (aq st) .none kV doc pm an cdv ct∧K.lookup f=some ⟨oc,od,.func fd,osl⟩∧PySem.W.codeIn K cdv qual=true
 kp:keepIn K (.ref f)=true
section
variable {P:Program} {w:World} {K:PySem.W.Frag} {mg:Str→Option Value} {base:Heap}
theorem Fun.ok {x qual:Str} {st:Stmt} {f:Addr} {fd:FuncData} {N ps:List Str} {k:Nat} {sp:Sp} (F:Fun K x qual st f fd) (S:aN N ps (aq st)) (len:∀vs H Q E,sp vs H Q E→vs.length=ps.length)
  (hbody:∀ (cdv:Value) (A:Around) (outer:List Env) (s:Shared) (H:Hp) (vs:List V) (Q:VK) (E:XK),Room k (A.deeper (envOfC qual (aq st) s.heap.objs.size f cdv))→sp vs H Q E →
   ∃t,PSs (qR CX0 P w K mg base N qual (aq st) f cdv A outer s H E).nox (aJ st) t∧t { nx:=fun _ H'=>Q .non H',rt:=Q } (start N vs) H):bA P w K mg base CX0 (k + 1) f fd ps sp:=by
 obtain⟨oc,od,kV,doc,pm,an,cdv,ct,osl,rfl,lk,hcd⟩:=F.ex
 refine Hk lk hcd S len fun A outer s H vs Q E hr hsp=>?_
 obtain⟨t,h,q⟩:=hbody cdv A outer s H vs Q E hr hsp
 exact⟨t,h.nox,q⟩
theorem Fun.binds {x qual:Str} {st:Stmt} {f:Addr} {fd:FuncData} {ps:List Str} (F:Fun K x qual st f fd)
  (h:∀ (kV doc pm:Value) (an:Option Addr) (cdv ct:Value) (us:List Value),us.length=ps.length→bindArgs (PySem.W.fnOf x qual (aL st) (aJ st) (aq st) .none kV doc pm an cdv ct) ⟨us,[]⟩=pure (ps.zip us)):Binds K fd ps []:=by
 obtain⟨oc,od,kV,doc,pm,an,cdv,ct,osl,rfl,lk,hcd⟩:=F.ex
 exact .all (h kV doc pm an cdv ct)
theorem aU {x qual:Str} {st:Stmt} {f:Addr} {oc:Value} {od an:Option Addr} {osl:Array (Option Value)} {kV doc pm cdv ct:Value} (l:K.lookup f=some ⟨oc,od,.func (PySem.W.fnOf x qual (aL st) (aJ st) (aq st) .none kV doc pm an cdv ct),osl⟩)
  (c:PySem.W.codeIn K cdv qual=true) (k:keepIn K (.ref f)=true):Fun K x qual st f (PySem.W.fnOf x qual (aL st) (aJ st) (aq st) .none kV doc pm an cdv ct):=⟨⟨oc,od,kV,doc,pm,an,cdv,ct,osl,rfl,l,c⟩,k⟩
end
theorem dU {A:Around} {k:Nat} (hr:Room k A):A.units + 1 < cLine:=Nat.lt_of_le_of_lt (Nat.add_le_add_left (by decide:1≤64) _) hr.units
theorem aW {n:Nat} (h:n≤1000):n < sizeLine:=Nat.lt_of_le_of_lt h (by decide)
section
variable {X:Cx}
theorem pv (i:Nat) {x:Str} {pos:Pos} (hN:X.N[i]? = some x:=by rfl) (hv:Vis X.env.scope x:=by first | exact Or.inl rfl | exact Or.inr (Or.inl rfl) | exact Or.inr (Or.inr rfl)) (hd:(x == ("__debug__":Str))=false:=by decide)
  (hcd:(x == ("__classdict__":Str))=false:=by decide):PE X (.Name x pos) (Dc i):=Dd hN hv hd hcd
end
noncomputable def Same (H H':Hp):Prop:=∀b o,H b=some o→H' b=some o
theorem Same.refl (H:Hp):Same H H:=fun _ _ h=>h
theorem Same.trans {H H1 H2:Hp} (a:Same H H1) (b:Same H1 H2):Same H H2:=fun c o h=>b c o (a c o h)
theorem Same.free {H H':Hp} (e:Same H H') {l:Addr} (h:H' l=Option.none):H l=Option.none:=by
 cases q:H l with
 | none=>rfl
 | some o =>
  rw [e l o q] at h
  cases h
theorem Same.seq {K:PySem.W.Frag} {H H':Hp} {a:Addr} {xs:List V} (e:Same H H') (h:SqL K H a xs):SqL K H' a xs:=by
 rcases h with (h | ⟨o,h⟩) | h
 ·exact .inl (.inl (e _ _ h))
 ·exact .inl (.inr ⟨o,e _ _ h⟩)
 ·exact .inr h
end L2
set_option maxHeartbeats 4000000
namespace L2
open PySem PySem.Spec PyProof.Rows
structure Cal (P:Program) (w:World) (K:PySem.W.Frag) (mg:Str→Option Value) (base:Heap) (x:Str) (ps:List Str) (k:Nat) (sp:Sp):Prop where
 ex:∃ (f:Addr) (fd:FuncData),bA P w K mg base CX0 k f fd ps sp∧Binds K fd ps []∧keepIn K (.ref f)=true∧mg x=some (.ref f)
theorem aM {X:Cx} {x:Str} {ps:List Str} {k:Nat} {sp:Sp} {e:Expr} {es:List Expr} {t:TA} {p pos:Pos} (C:Cal X.prog X.w X.K X.mg X.base x ps k sp) (hr:Room k X.A) (hg:Gl X x) (ha:PA X (e :: es) t)
  (hdb:(x == ("__debug__":Str))=false:=by decide) (he:starEach (e :: es) X.env=(false,eval e X.env) :: starEach es X.env:=by rfl) (hpl:(backTo pos (starEach es X.env)).any (·.1)=false:=by rfl) :
  PE X (.Call (.Name x p) (e :: es) [] pos) (xf sp [] E0 t):=by
 obtain⟨f,fd,F,b,hk,hm⟩:=C.ex
 exact zE F hr hg hm hk b .nil xK ha hdb he hpl
noncomputable def nP (n T:String):Bool:=n == T || (n == "bool" && T == "int")
noncomputable def tyN (H:Hp) (x:V) (n:String):Prop:=match x with
 | .bl _=>n = "bool"
 | .int _=>n = "int"
 | .str _=>n = "str"
 | .ref a=>(n = "list" ∧ ∃xs,H a=some (.lst xs))∨(n = "tuple" ∧ ∃xs,H a=some (.tup xs))
 | _=>False
theorem zM {H:Hp} {i:Int} {n:String}:tyN H (.int i) n=(n = "int"):=rfl
theorem Dr {H:Hp} {i:Bool} {n:String}:tyN H (.bl i) n=(n = "bool"):=rfl
theorem zN {H:Hp} {i:Str} {n:String}:tyN H (.str i) n=(n = "str"):=rfl
theorem zO {H:Hp} {a:Addr} {n:String}:tyN H (.ref a) n=((n = "list" ∧ ∃xs,H a=some (.lst xs))∨(n = "tuple" ∧ ∃xs,H a=some (.tup xs))):=rfl
noncomputable def okT (T:String):Prop:=T = "int" ∨ T = "bool" ∨ T = "str" ∨ T = "list" ∨ T = "tuple"
theorem zP {K:PySem.W.Frag} {n T:String} (hn:okT n) (hT:okT T):kitOne K (.type n) (.type T)=some (nP n T):=by
 rcases hn with rfl | rfl | rfl | rfl | rfl <;> rcases hT with rfl | rfl | rfl | rfl | rfl <;> rfl
theorem Ds {K:PySem.W.Frag} {H:Hp} {x:V} {n:String} (h:tyN H x n):jk K H x (.type n)∧okT n:=by
 cases x with
 | bl b=>cases (show n = "bool" from h);exact⟨.bl b,by simp [okT]⟩
 | int i=>cases (show n = "int" from h);exact⟨.int i,by simp [okT]⟩
 | str i=>cases (show n = "str" from h);exact⟨.str i,by simp [okT]⟩
 | ref a =>
  rcases (show (n = "list" ∧ ∃xs,H a=some (.lst xs))∨(n = "tuple" ∧ ∃xs,H a=some (.tup xs)) from h) with ⟨rfl,xs,e⟩ | ⟨rfl,xs,e⟩
  ·exact⟨.lst e,by simp [okT]⟩
  ·exact⟨.tup e,by simp [okT]⟩
 | _=>exact False.elim h
theorem zQ:okT "int" := by simp [okT]
theorem xM:okT "bool" := by simp [okT]
theorem zR:okT "str" := by simp [okT]
theorem xN:okT "list" := by simp [okT]
theorem uG:okT "tuple" := by simp [okT]
theorem zT:nP "int" "int" = true:=rfl
theorem zU:nP "int" "bool" = false:=rfl
theorem zV:nP "bool" "bool" = true:=rfl
theorem zW:nP "bool" "int" = true:=rfl
theorem zX:nP "str" "str" = true:=rfl
theorem zY:nP "list" "list" = true:=rfl
theorem zZ:nP "tuple" "tuple" = true:=rfl
noncomputable def Hs:List V→Hp→VK→Prop:=fun xs H Q=>∃x T n,xs=[x,.ty T]∧okT T∧tyN H x n∧Q (.bl (nP n T)) H
theorem o7 {X:Cx}:dC X (.builtin "isinstance") Hs:=by
 intro pins s σ H xs us Q I r h
 obtain⟨x,T,n,rfl,hT,ty,q⟩:=h
 obtain⟨u,u',rfl,rx,rT⟩:=vals2 r
 obtain rfl:u'=Value.type T:=rT
 obtain⟨ty',hn⟩:=Ds (K:=X.K) ty
 exact lU I rx ty' (zP hn hT) fun tk=>⟨.bl _,H,I.tok _,rfl,q⟩
theorem Aa {i j:Int}:wV (.int i) (.int j)=true:=rfl
theorem Ab {i j:Bool}:wV (.bl i) (.bl j)=true:=rfl
theorem Ac {i j:Str}:wV (.str i) (.str j)=true:=rfl
theorem BR {i j:Int}:decide (V.int i=V.int j)=decide (i=j):=by
 by_cases h:i=j
 ·subst h;simp
 ·have:¬ V.int i=V.int j:=fun e=>h (V.int.inj e)
  simp [h,this]
noncomputable def Ht (t u:TS):TS:=fun D σ H=>∃R:St→Hp→Prop,t { D with nx:=R } σ H∧∀σ' H',R σ' H'→u D σ' H'
theorem gR {X:Cx} {st:Stmt} {rest:List Stmt} {t u:TS} (h1:PS X st t) (h2:PSs X rest u):PSs X (st :: rest) (Ht t u):=by
 intro pins s σ H D I h
 obtain⟨R,ha,hb⟩:=h
 refine wpAny_execs_cons (thn (h1 pins s σ H { D with nx:=R } I ha) fun f s1 q=>?_)
 cases f with
 | next =>
  obtain⟨σ',H',I',q⟩:=q
  exact h2 pins s1 σ' H' D I' (hb σ' H' q)
 | ret v=>exact q
 | brk=>exact q
 | cont=>exact q
theorem jn {t u:TS} {D:Ends} {σ:St} {H:Hp} (R:St→Hp→Prop) (h1:t { D with nx:=R } σ H) (h2:∀σ' H',R σ' H'→u D σ' H'):Ht t u D σ H:=⟨R,h1,h2⟩
theorem bH {lo:Int} {n:Nat} {σ:St} {H:Hp} {DN:St→Hp→Prop} {B:(St→Hp→Prop)→V→St→Hp→Prop} (Pv:Nat→St→Hp→Prop) (h0:Pv 0 σ H)
  (hs:∀i σ H,i < n→Pv i σ H→B (Pv (i + 1)) (.int (lo + i)) σ H) (hd:∀σ H,Pv n σ H→DN σ H) :
  ∃W:Nat→Nat→St→Hp→Prop,(∃m,W 0 m σ H)∧∀i m σ H,W i m σ H →
   ((Itr lo n).stop i H∧DN σ H)∨((Itr lo n).go i H∧∃N:St→Hp→Prop,(∀σ' H',N σ' H'→∃m',m' < m∧W (i + 1) m' σ' H')∧∀x H',(Itr lo n).yld i H x H'→B N x σ H'):=by
 refine⟨fun i m σ H=>m=n - i∧i≤n∧Pv i σ H,⟨n,by simp,Nat.zero_le _,h0⟩,?_⟩
 rintro i m σ H ⟨rfl,hi,p⟩
 by_cases hlt:i < n
 ·refine .inr ⟨hlt,Pv (i + 1),fun σ' H' p'=>⟨n - (i + 1),by omega,rfl,hlt,p'⟩,fun x H' y=>?_⟩
  obtain⟨e,y⟩:=y
  subst e y
  exact hs i σ _ hlt p
 ·have e:i=n:=by lia
  subst e
  exact .inl ⟨Nat.le_refl _,hd σ H p⟩
theorem bB {K:PySem.W.Frag} {a:Addr} {xs:List V} {σ:St} {H:Hp} {DN:St→Hp→Prop} {B:(St→Hp→Prop)→V→St→Hp→Prop} (Pv:Nat→St→Hp→Prop) (h0:Pv 0 σ H)
  (hl:∀i σ H,i≤xs.length→Pv i σ H→SqL K H a xs)
  (hs:∀i x σ H,xs[i]? = some x→Pv i σ H→B (Pv (i + 1)) x σ H) (hd:∀σ H,Pv xs.length σ H→DN σ H) :
  ∃W:Nat→Nat→St→Hp→Prop,(∃m,W 0 m σ H)∧∀i m σ H,W i m σ H →
   ((Itl K a).stop i H∧DN σ H)∨((Itl K a).go i H∧∃N:St→Hp→Prop,(∀σ' H',N σ' H'→∃m',m' < m∧W (i + 1) m' σ' H')∧∀x H',(Itl K a).yld i H x H'→B N x σ H'):=by
 refine⟨fun i m σ H=>m=xs.length - i∧i≤xs.length∧Pv i σ H,⟨xs.length,by simp,Nat.zero_le _,h0⟩,?_⟩
 rintro i m σ H ⟨rfl,hi,p⟩
 have q:=hl i σ H hi p
 by_cases hlt:i < xs.length
 ·refine .inr ⟨⟨xs,xs[i],q,by simp [hlt]⟩,Pv (i + 1),fun σ' H' p'=>⟨xs.length - (i + 1),by omega,rfl,hlt,p'⟩,fun x H' y=>?_⟩
  obtain⟨e,y⟩:=y
  subst e
  exact hs i x σ _ (y xs q) p
 ·have e:i=xs.length:=by lia
  subst e
  exact .inl ⟨⟨xs,q,Nat.le_refl _⟩,hd σ H p⟩
theorem iJ {K:PySem.W.Frag} {a:Addr} {xs:List V} {σ:St} {H:Hp} {DN:St→Hp→Prop} {B:(St→Hp→Prop)→V→St→Hp→Prop} (Pv:Nat→St→Hp→Prop) (h0:Pv 0 σ H)
  (hl:∀i σ H,i≤xs.length→Pv i σ H→SqT K H a xs)
  (hs:∀i x σ H,xs[i]? = some x→Pv i σ H→B (Pv (i + 1)) x σ H) (hd:∀σ H,Pv xs.length σ H→DN σ H) :
  ∃W:Nat→Nat→St→Hp→Prop,(∃m,W 0 m σ H)∧∀i m σ H,W i m σ H →
   ((Itt K a).stop i H∧DN σ H)∨((Itt K a).go i H∧∃N:St→Hp→Prop,(∀σ' H',N σ' H'→∃m',m' < m∧W (i + 1) m' σ' H')∧∀x H',(Itt K a).yld i H x H'→B N x σ H'):=by
 refine⟨fun i m σ H=>m=xs.length - i∧i≤xs.length∧Pv i σ H,⟨xs.length,by simp,Nat.zero_le _,h0⟩,?_⟩
 rintro i m σ H ⟨rfl,hi,p⟩
 have q:=hl i σ H hi p
 by_cases hlt:i < xs.length
 ·refine .inr ⟨⟨xs,xs[i],q,by simp [hlt]⟩,Pv (i + 1),fun σ' H' p'=>⟨xs.length - (i + 1),by omega,rfl,hlt,p'⟩,fun x H' y=>?_⟩
  obtain⟨e,y⟩:=y
  subst e
  exact hs i x σ _ (y xs q) p
 ·have e:i=xs.length:=by lia
  subst e
  exact .inl ⟨⟨xs,q,Nat.le_refl _⟩,hd σ H p⟩
end L2
namespace L2
open PySem PySem.Spec PyProof.Rows
noncomputable def fK (env:Env) (cs:List (Str×Addr)) (y:Str×NameKind):List (Str×Addr):=if y.2 == .free then (y.1,(env.cells.lookup y.1).getD 0) :: cs else cs
noncomputable def nQ (names:List (Str×NameKind)) (env:Env):List (Str×Addr):=names.foldl (fK env) []
theorem jU {env:Env}:∀ (names:List (Str×NameKind)) (acc:List (Str×Addr)),(∀y∈names,y.2=.free→∃c,env.cells.lookup y.1=some c) →
  (forIn names acc fun (x:Str×NameKind) (cs:List (Str×Addr))=>if (x.2 == NameKind.free)=true then (do let a←cellOf env x.1;pure (ForInStep.yield ((x.1,a) :: cs))) else (pure (ForInStep.yield cs):Sem (ForInStep (List (Str×Addr)))))=pure (names.foldl (fK env) acc)
 | [],_,_=>rfl
 | y :: r,acc,h=>by
  have ih:=jU (env:=env) r
  rw [List.forIn_cons]
  by_cases hk:y.2=.free
  ·obtain⟨c,hc⟩:=h y List.mem_cons_self hk
   have hb:(y.2 == NameKind.free)=true:=by rw [hk];rfl
   have e:cellOf env y.1=pure c:=by unfold cellOf;rw [hc]
   rw [if_pos hb,e]
   show (forIn r ((y.1,c) :: acc) _:Sem _)=_
   rw [ih _ fun z hz=>h z (List.mem_cons_of_mem _ hz),List.foldl_cons]
   show _=pure (r.foldl (fK env) (if (y.2 == NameKind.free)=true then (y.1,(env.cells.lookup y.1).getD 0) :: acc else acc))
   rw [if_pos hb,hc];rfl
  ·have hb:¬ (y.2 == NameKind.free)=true:=by simpa using hk
   rw [if_neg hb]
   show (forIn r acc _:Sem _)=_
   rw [ih _ fun z hz=>h z (List.mem_cons_of_mem _ hz),List.foldl_cons]
   show _=pure (r.foldl (fK env) (if (y.2 == NameKind.free)=true then (y.1,(env.cells.lookup y.1).getD 0) :: acc else acc))
   rw [if_neg hb]
theorem jV {scope:Scope} {env:Env} (h:∀y∈scope.names,y.2=.free→∃c,env.cells.lookup y.1=some c):closureFor scope env=pure (nQ scope.names env):=by
 have e:=jU scope.names [] h
 unfold closureFor nQ
 refine Eq.trans ?_ (congrArg (fun t=>t >>= fun (r:List (Str×Addr))=>(pure r:Sem (List (Str×Addr)))) e)
 rfl
theorem xO {env:Env}:∀ {names:List (Str×NameKind)} {acc:List (Str×Addr)} {p:Str×Addr},p∈names.foldl (fK env) acc→p∈acc∨((p.1,NameKind.free)∈names∧p.2=(env.cells.lookup p.1).getD 0)
 | [],_,_,h=>.inl h
 | y :: r,acc,p,h=>by
  rw [List.foldl_cons] at h
  rcases xO h with h | ⟨h,e⟩
  ·unfold fK at h
   split at h
   ·rename_i hk
    rcases List.mem_cons.mp h with rfl | h
    ·have:y.2=.free:=by simpa using hk
     exact .inr ⟨by rw [← this];exact List.mem_cons_self,rfl⟩
    ·exact .inl h
   ·exact .inl h
  ·exact .inr ⟨List.mem_cons_of_mem _ h,e⟩
theorem qY {env:Env} {x:Str}:∀ {names:List (Str×NameKind)} {acc:List (Str×Addr)},((∃c,(x,c)∈acc)∨(x,NameKind.free)∈names)→∃c,(x,c)∈names.foldl (fK env) acc
 | [],_,h=>by
  rcases h with h | h
  ·exact h
  ·cases h
 | y :: r,acc,h=>by
  rw [List.foldl_cons]
  refine qY ?_
  rcases h with ⟨c,h⟩ | h
  ·refine .inl ⟨c,?_⟩
   unfold fK
   split
   ·exact List.mem_cons_of_mem _ h
   ·exact h
  ·rcases List.mem_cons.mp h with rfl | h
   ·refine .inl ⟨(env.cells.lookup x).getD 0,?_⟩
    unfold fK
    exact List.mem_cons_self
   ·exact .inr h
theorem dB {x:Str} {c:Addr}:∀ {l:List (Str×Addr)},(x,c)∈l→∃c',l.lookup x=some c'
 | [],h=>by cases h
 | (y,d) :: r,h=>by
  rw [List.lookup_cons]
  by_cases e:x == y
  ·rw [e];exact⟨d,rfl⟩
  ·have e':(x == y)=false:=by simpa using e
   rw [e']
   rcases List.mem_cons.mp h with z | z
   ·cases z;simp at e
   ·exact dB z
noncomputable def Cx.comp (X:Cx) (scope:Scope) (N':List Str) (s₀:Shared) (H₀:Hp) (fp:List Addr) (C:Addr):Cx where
 prog:=X.prog
 w:=X.w
 K:=X.K
 mg:=X.mg
 base:=X.base
 A:=X.A
 N:=N'
 s₀:=s₀
 H₀:=H₀
 env:=compEnvC scope (nQ scope.names X.env) C X.env
 outer:=X.stack
 stack:=X.stack
 ex:=fp
 fn:=fun _=>false
 calm:=X.calm
 pn:=[]
 xe:=fun _ _=>False
structure CompSc (X:Cx) (scope:Scope) (N' own fnames:List Str) (fr:List Nat):Prop where
 kind:scope.kind=.function
 nocell:(scope.names.all fun y=>y.2 != .cell)=true
 free:(scope.names.all fun y=>y.2 != .free || X.env.kindOf y.1 == some .cell)=true
 loc:(scope.names.all fun y=>y.2 != .local || scope.names.lookup y.1 == some .local)=true
 fn:(fnames.all fun x=>X.env.kindOf x == some .cell && (relabel scope X.env).names.lookup x == some .cell)=true
 N:N'=own ++ fnames
 fr:fr.map (fun j=>X.N[j]?)=fnames.map some
noncomputable def iu (k:Nat) (fr:List Nat) (σ:St):St:=List.replicate k none ++ fr.map fun j=>(σ[j]?).getD none
noncomputable def PTs (X:Cx) (ifs:List Expr) (t:TT):Prop :=
 ∀ (pins:List (Addr×Obj)) (s:Shared) (σ:St) (H:Hp) (Q:Bool→Hp→Prop),Inv X pins σ H s→t σ H Q →
  wpAny (model X.prog X.w) X.A (forIn ifs true fun c r=>if r=true then do let ok←isTrue c X.env (eval c X.env);pure (ForInStep.yield ok) else pure (ForInStep.yield r)) (TP X pins σ Q) X.xe s
noncomputable def BV:TT:=fun _ H Q=>Q true H
theorem cu {X:Cx}:PTs X [] BV:=fun pins s σ H Q I h=>wpAny_pure ⟨H,I,h⟩
theorem fL {X:Cx} {c:Expr} {t:TT} (hc:PT X c t):PTs X [c] t:=by
 intro pins s σ H Q I h
 rw [List.forIn_cons]
 refine wpAny_bind ?_
 rw [if_pos rfl]
 refine wpAny_bind (thn (hc pins s σ H Q I h) fun b s1 q=>wpAny_pure ?_)
 exact wpAny_pure q
section
variable {X:Cx} {scope:Scope} {N' own fnames:List Str} {fr:List Nat} {pins:List (Addr×Obj)} {σ:St} {H:Hp} {s₃:Shared} {fp:List Addr}
theorem CompSc.has (S:CompSc X scope N' own fnames fr) (ok:X.Ok):∀y∈scope.names,y.2=.free→∃c,X.env.cells.lookup y.1=some c:=fun y hy hf=>by
 have h:=List.all_eq_true.mp S.free y hy
 rw [hf] at h
 exact ok.has _ (.inl (by simpa using h))
theorem CompSc.cell (S:CompSc X scope N' own fnames fr) (ok:X.Ok) {y:Str} {c:Addr} (h:(nQ scope.names X.env).lookup y=some c):X.env.cells.lookup y=some c:=by
 rcases xO (PySem.mem_of_lookup h) with z | ⟨z,e⟩
 ·cases z
 ·obtain⟨d,hd⟩:=S.has ok _ z rfl
  have hd':X.env.cells.lookup y=some d:=hd
  have e':c=(X.env.cells.lookup y).getD 0:=e
  rw [hd'] at e'
  rw [hd',e'];rfl
theorem mem_of_lookupK {x:Str} {k:NameKind}:∀ {l:List (Str×NameKind)},l.lookup x=some k→(x,k)∈l
 | [],h=>by simp at h
 | (y,d) :: r,h=>by
  rw [List.lookup_cons] at h
  by_cases e:x == y
  ·rw [e] at h
   have e1:x=y:=by simpa using e
   cases h;subst e1
   exact List.mem_cons_self
  ·have e':(x == y)=false:=by simpa using e
   rw [e'] at h
   exact List.mem_cons_of_mem _ (mem_of_lookupK h)
theorem CompSc.names (S:CompSc X scope N' own fnames fr) {y:Str} {k:NameKind} (h:(relabel scope X.env).names.lookup y=some k) (hk:k=.cell∨k=.free):(y,NameKind.free)∈scope.names:=by
 have hm:=mem_of_lookupK h
 unfold relabel at hm
 obtain⟨⟨n,k0⟩,hn,e⟩:=List.mem_map.mp hm
 dsimp only at e
 split at e
 ·rename_i hc
  have:k0=.free:=by
   simp only [Bool.and_eq_true,beq_iff_eq] at hc
   exact hc.1.1
  cases e;subst this;exact hn
 ·cases e
  rcases hk with rfl | rfl
  ·have:=List.all_eq_true.mp S.nocell _ hn
   simp at this
  ·exact hn
theorem Ad {C:Addr} (S:CompSc X scope N' own fnames fr) (I:Inv X pins σ H s₃) (hC:s₃.heap.objs.size≤C) (hf:∀b∈fp,iI X pins H b) (hlt:∀b∈fp,b < s₃.heap.objs.size):(X.comp scope N' s₃ H fp C).Ok:=by
 have cellI:∀y c,(nQ scope.names X.env).lookup y=some c→X.env.cells.lookup y=some c:=fun y c h=>S.cell I.ok h
 refine⟨I.ok.mod,S.kind,I.ok.glob,I.ok.blt,hC,fun x y c h1 h2=>I.ok.inj x y c (cellI x c h1) (cellI y c h2),fun x hx=>?_,fun x c h=>(by cases h),I.ok.hd,I.ok.frames,.inl rfl,fun b hb=>⟨?_,fun x c h=>(hf b hb).2.2.2.2.1 x c (cellI x c h)⟩,fun b o e=>I.bs b o e,Nat.le_trans I.ok.bsz I.sz,fun b o e hb=>?_,fun b hb hb'=>?_,I.stack,I.stkFree⟩
 ·have hm:(x,NameKind.free)∈scope.names:=by
   rcases hx with h | h
   ·exact S.names (show (relabel scope X.env).names.lookup x=some .cell from h) (.inl rfl)
   ·exact S.names (show (relabel scope X.env).names.lookup x=some .free from h) (.inr rfl)
  obtain⟨c,hc⟩:=qY (env:=X.env) (acc:=[]) (.inr hm)
  exact dB hc
 ·intro z
  have h1:=hlt b hb
  have z':b=C:=z
  rw [z'] at h1
  exact absurd (Nat.lt_of_lt_of_le h1 hC) (Nat.lt_irrefl _)
 ·obtain⟨_,_,_,h3,_⟩:=hf b hb
  rcases h3 with h3 | h3
  ·exact I.ok.noex b o e h3
  ·exact absurd (Nat.lt_of_lt_of_le (Heap.lt_size e) (Nat.le_trans I.ok.bsz h3)) (Nat.lt_irrefl _)
 ·obtain⟨_,h1,h2,_⟩:=hf b hb
  rcases List.mem_cons.mp (I.stkSub b hb') with z | z
  ·exact h1 z
  ·exact h2 z
theorem qZ {h₄:Heap} {t₄:Nat} {m:Str→Option Value} (S:CompSc X scope N' own fnames fr) (I:Inv X pins σ H s₃) (hf:∀b∈fp,iI X pins H b) (hlt:∀b∈fp,b < s₃.heap.objs.size)
  (k:∀b o,s₃.heap.get? b=some o→h₄.get? b=some o) (hn:h₄.Ns s₃.heap.objs.size m) :
  Inv (X.comp scope N' s₃ H fp s₃.heap.objs.size) [] (iu own.length fr σ) H { s₃ with heap:=h₄,toks:=t₄ }:=by
 have hlen:fr.length=fnames.length:=by simpa using congrArg List.length S.fr
 refine⟨Ad S I (Nat.le_refl _) hf hlt,rfl,I.bare,Un.kept k,⟨m,hn,fun i x v e1 e2 e3=>?_⟩,fun y c h=>?_,I.hok.fresh (Nat.le_refl _),fun y c h=>I.freeC y c (S.cell I.ok h),fun p hp=>absurd (show p∈([]:List (Addr×Obj)) from hp) (by simp),I.hok.kept k,?_⟩
 ·have e1':(own ++ fnames)[i]? = some x:=by rw [← S.N];exact e1
  have hi:own.length≤i:=by
   refine Nat.le_of_not_lt fun z=>?_
   unfold iu at e2
   rw [List.getElem?_append_left (by simpa using z),List.getElem?_replicate,if_pos z] at e2
   cases e2
  unfold iu at e2
  rw [List.getElem?_append_right (by simpa using hi),List.length_replicate,List.getElem?_map] at e2
  rw [List.getElem?_append_right hi] at e1'
  cases q:fr[i - own.length]? with
  | none=>rw [q] at e2;cases e2
  | some t =>
   rw [q] at e2
   have e2':(σ[t]?).getD none=some v:=Option.some.inj e2
   have hσ:σ[t]? = some (some v):=by
    cases z:σ[t]? with
    | none=>rw [z] at e2'; cases e2'
    | some o=>rw [z] at e2'; exact congrArg some e2'
   have hN:X.N[t]? = some x:=by
    have z:=congrArg (fun l=>l[i - own.length]?) S.fr
    simp only [List.getElem?_map,q,e1',Option.map_some] at z
    exact Option.some.inj z
   have hx:x∈fnames:=List.mem_of_getElem? e1'
   have hk:=List.all_eq_true.mp S.fn x hx
   simp only [Bool.and_eq_true,beq_iff_eq] at hk
   obtain⟨mX,_,hl⟩:=I.loc
   obtain⟨u,r,l⟩:=hl t x v hN hσ (.inr (.inl hk.1))
   refine⟨u,r,?_⟩
   rcases l with ⟨kl,_⟩ | ⟨_,c,hc,o,ho,hd⟩
   ·rw [hk.1] at kl;cases kl
   ·obtain⟨d,hd'⟩:=qY (env:=X.env) (acc:=[]) (.inr (S.names hk.2 (.inl rfl)))
    obtain⟨c',hc'⟩:=dB hd'
    have z:=S.cell I.ok hc'
    rw [hc] at z
    cases z
    exact .inr ⟨.inl hk.2,c,hc',o,k c o ho,hd⟩
 ·obtain⟨v,o,ho,hd⟩:=I.cell y c (S.cell I.ok h)
  exact⟨v,o,k c o ho,hd⟩
 ·unfold iu
  show _=N'.length
  rw [S.N,List.length_append,List.length_append,List.length_replicate,List.length_map,hlen]
noncomputable def Dt (k:Nat) (fr:List Nat) (g:TG) (tt:TT) (te:TE) (J:It) (σ:St) (H1:Hp) (Q:VK):Prop :=
 ∀D,H1 D=none→∃W:Nat→Nat→St→Hp→Prop,(∃m,W 0 m (iu k fr σ) (upd H1 D (.lst [])))∧∀i m σ' H',W i m σ' H' →
  (J.stop i H'∧Q (.ref D) H')∨(J.go i H'∧∃N:St→Hp→Prop,(∀σ2 H2,N σ2 H2→∃m',m' < m∧W (i + 1) m' σ2 H2)∧∀x H2,J.yld i H' x H2 →
   g x σ' H2 fun σ2 H3=>tt σ2 H3 fun b H4=>if b=true then te σ2 H4 fun v H5=>∃xs,H5 D=some (.lst xs)∧xs.length < sizeLine∧N σ2 (upd H5 D (.lst (xs ++ [v]))) else N σ2 H4)
noncomputable def xP (wi:TI) (k:Nat) (fr:List Nat) (g:TG) (tt:TT) (te:TE):TE:=fun σ H Q=>wi σ H fun J H1=>Dt k fr g tt te J σ H1 Q
theorem o8 {elt tg iter:Expr} {ifs:List Expr} {pos:Pos} {g:TG} {tt:TT} {te:TE} {s₂:Shared} {H2:Hp} {J:It} {it:Addr} {tn:Nat→Heap→Prop} {RR:Value→Addr→Result→Shared→Prop} {E:Value→Shared→Prop} {Q:VK}
  (S:CompSc X scope N' own fnames fr) (hc:X.calm=true)
  (hb:∀ (s₀:Shared) (H₀:Hp) (fp:List Addr) (C:Addr),PG (X.comp scope N' s₀ H₀ fp C) tg g∧PTs (X.comp scope N' s₀ H₀ fp C) ifs tt∧PE (X.comp scope N' s₀ H₀ fp C) elt te)
  (I2:Inv X pins σ H2 s₂) (T:Turn X.prog X.w X.K tg J fp it tn) (st2:tn 0 s₂.heap) (f2:∀b∈fp,iI X pins H2 b) (hq:Dt own.length fr g tt te J σ H2 Q)
  (hRR:∀D C H' s',Inv X pins σ H' s'→(∃m,s'.heap.Ns C m)→iI X pins H' C→Q (.ref D) H'→RR (.ref D) C (.ok .next) s') :
  wpAny (model X.prog X.w) X.A (newList []) (fun acc s₃=>wpAny (model X.prog X.w) X.A (newFunctionEnv scope X.env.globals (nQ scope.names X.env) [] X.env.qual none .none (some X.env)) (fun cenv s₄ =>
   codeAny (model X.prog X.w) X.A (.compStart (.ListComp elt [⟨tg,iter,ifs,0⟩] scope pos) 0 (.ref it) acc { cenv with scope:=relabel scope X.env }) (RR acc cenv.locals) s₄) E s₃) E s₂:=by
 have nocell:∀y∈scope.names,y.2≠.cell:=fun y hy z=>by
  have:=List.all_eq_true.mp S.nocell y hy
  rw [z] at this
  simp at this
 refine wpAny_newObj_type (wpAny_newFunctionEnv nocell (by intro y hy;simp at hy) (fun h₁ hns₁ hsb₁=>?_) S.kind)
 have hlt2:∀b∈fp,b < s₂.heap.objs.size:=fun b hb'=>by
  obtain⟨o,e,_⟩:=T.obj _ _ st2 b hb'
  exact Heap.lt_size e
 have I3:Inv X pins σ (upd H2 s₂.heap.objs.size (.lst [])) { s₂ with heap:=s₂.heap.push { cls:=.type "list",data:=.seq ([]:List Value).toArray },toks:=s₂.toks }:=I2.lnew (its:=[]) (ys:=[]) .nil (Nat.zero_le _)
 have hD:H2 s₂.heap.objs.size=none:=I2.fresh
 obtain⟨W,⟨m0,w0⟩,turn⟩:=hq _ hD
 generalize hs3:({ s₂ with heap:=s₂.heap.push { cls:=.type "list",data:=.seq ([]:List Value).toArray },toks:=s₂.toks }:Shared)=s₃ at I3
 have eh:s₃.heap=s₂.heap.push { cls:=.type "list",data:=.seq ([]:List Value).toArray }:=by rw [← hs3]
 have hsz:s₃.heap.objs.size=s₂.heap.objs.size + 1:=by rw [eh,Heap.size_push]
 have f3:∀b∈fp,iI X pins (upd H2 s₂.heap.objs.size (.lst [])) b:=fun b hb'=>by
  refine⟨?_,(f2 b hb').2⟩
  rw [aG (Nat.ne_of_lt (hlt2 b hb'))]
  exact (f2 b hb').1
 have hlt3:∀b∈fp,b < s₃.heap.objs.size:=fun b hb'=>by rw [hsz];exact Nat.lt_succ_of_lt (hlt2 b hb')
 have old:∀b o,s₃.heap.get? b=some o→h₁.get? b=some o:=fun b o e=>by
  have hb1:b≠s₃.heap.objs.size:=Nat.ne_of_lt (Heap.lt_size e)
  refine hsb₁.extBut b o ?_ ?_
  ·show b≠(s₂.heap.push _).objs.size
   rw [← eh];exact hb1
  ·show (Heap.push (s₂.heap.push _) _).get? b=some o
   rw [← eh]
   exact Heap.get?_push_of_some _ e
 have hns:∃m,h₁.Ns s₃.heap.objs.size m:=⟨_,by rw [eh];exact hns₁⟩
 obtain⟨m1,hns⟩:=hns
 have I4:Inv (X.comp scope N' s₃ (upd H2 s₂.heap.objs.size (.lst [])) fp s₃.heap.objs.size) [] (iu own.length fr σ) (upd H2 s₂.heap.objs.size (.lst [])) { s₃ with heap:=h₁,toks:=s₂.toks + ([]:List (Str×Value)).length } :=
  qZ S I3 f3 hlt3 old hns
 have st4:tn 0 h₁:=T.keep _ _ _ st2 fun b hb' o e=>old b o (by rw [eh];exact Heap.get?_push_of_some _ e)
 obtain⟨hpg,hpt,hpe⟩:=hb s₃ (upd H2 s₂.heap.objs.size (.lst [])) fp s₃.heap.objs.size
 have fpok:∀ {H':Hp},(∀b∈fp,H' b=none)→∀b∈fp,iI (X.comp scope N' s₃ (upd H2 s₂.heap.objs.size (.lst [])) fp s₃.heap.objs.size) [] H' b:=fun hn b hb' =>
  ⟨hn b hb',fun z=>by
    have h1:=hlt3 b hb'
    have z':b=s₃.heap.objs.size:=z
    rw [z'] at h1
    exact absurd h1 (Nat.lt_irrefl _),fun z=>I4.ok.exfs b hb' z,.inl hb',fun x c e=>(I4.ok.exf b hb').2 x c e,fun p hp=>absurd (show p∈([]:List (Addr×Obj)) from hp) (by simp)⟩
 have loop:∀s4:Shared,s4 = { s₃ with heap:=h₁,toks:=s₂.toks + ([]:List (Str×Value)).length } →
   codeAny (model X.prog X.w) X.A (.compLoop (.ListComp elt [⟨tg,iter,ifs,0⟩] scope pos) 0 (.ref it) (.ref s₂.heap.objs.size) (compEnvC scope (nQ scope.names X.env) s₃.heap.objs.size X.env)) (RR (.ref s₂.heap.objs.size) s₃.heap.objs.size) s4:=by
  rintro s4 rfl
  refine codeAny_loop rfl (fun n s=>∃i σ' H',Inv (X.comp scope N' s₃ (upd H2 s₂.heap.objs.size (.lst [])) fp s₃.heap.objs.size) [] σ' H' s∧tn i s.heap∧(∀b∈fp,H' b=none)∧W i n σ' H') ?_ m0
   ⟨0,_,_,I4,st4,fun b hb'=>(f3 b hb').1,w0⟩
  rintro n s5 ⟨i,σ5,H5,I5,st5,fr5,w5⟩
  show wpAny _ X.A ((compTurn (.ListComp elt [⟨tg,iter,ifs,0⟩] scope pos) 0 (.ref it) (.ref s₂.heap.objs.size) (compEnvC scope (nQ scope.names X.env) s₃.heap.objs.size X.env)).onRaise (fun x=>do noteFrame x (compEnvC scope (nQ scope.names X.env) s₃.heap.objs.size X.env);theTreesLotGoes x)) _ _ s5
  refine wpAny_noted ?_
  rw [compTurn_list]
  refine wpAny_bind (wpAny_standAt (wpAny_bind ?_))
  rcases turn i n σ5 H5 w5 with ⟨stop,q⟩ | ⟨go,N,hN,step⟩
  ·refine wpAny_mono (T.done (X.comp scope N' s₃ (upd H2 s₂.heap.objs.size (.lst [])) fp s₃.heap.objs.size) rfl rfl rfl hc i [] s5 σ5 H5 (fun _ _=>False) I5 (fpok fr5) st5 stop) (fun r s6 hr=>?_) fun _ _ z=>z.elim
   obtain⟨rfl,I6⟩:=hr
   refine wpAny_pure ?_
   obtain⟨m6,hn6,_⟩:=id I6.loc
   have I7:Inv X pins σ H5 s6:=I3.call' (ch:=fp) I6.os I6.base I6.hok I6.bare fun b hb'=>by
    obtain⟨_,h1,_,h3,h4,h5⟩:=f3 b hb'
    exact⟨h3,h1,h4,h5⟩
   exact hRR _ _ H5 s6 I7 ⟨m6,hn6⟩ (I3.fpOk (Nat.le_refl _) I6.free) q
  ·refine wpAny_mono (T.item (X.comp scope N' s₃ (upd H2 s₂.heap.objs.size (.lst [])) fp s₃.heap.objs.size) rfl rfl rfl hc i [] s5 σ5 H5 (fun _ _=>False) I5 (fpok fr5) st5 go) (fun r s6 hr=>?_) fun _ _ z=>z.elim
   obtain⟨u,rfl,h6⟩:=hr
   refine wpAny_bind (wpAny_mono h6 (fun _ s7 h7=>?_) fun _ _ z=>z.elim)
   obtain⟨x,H7,I7,r7,y7,st7,fr7⟩:=h7
   have I7':=I7.pinned (fpok fr7) (T.obj _ _ st7)
   refine wpAny_bind (wpAny_mono (hpg _ s7 σ5 H7 x u _ I7' r7 (step x H7 y7)) (fun _ s8 h8=>?_) fun _ _ z=>z.elim)
   obtain⟨σ8,H8,I8,q8⟩:=h8
   have again':∀ {σ9:St} {H9:Hp} {s9:Shared},Inv (X.comp scope N' s₃ (upd H2 s₂.heap.objs.size (.lst [])) fp s₃.heap.objs.size) ([] ++ jP fp s7.heap) σ9 H9 s9→N σ9 H9 →
     ∃m,m < n∧∃i σ' H',Inv (X.comp scope N' s₃ (upd H2 s₂.heap.objs.size (.lst [])) fp s₃.heap.objs.size) [] σ' H' s9∧tn i s9.heap∧(∀b∈fp,H' b=none)∧W i m σ' H':=fun {σ9 H9 s9} I9 n9=>by
    obtain⟨m',hm,w9⟩:=hN σ9 H9 n9
    refine⟨m',hm,i + 1,σ9,H9,I9.unpinned,T.keep _ _ _ st7 fun b hb' o e=>(I9.pin (b,o) (List.mem_append_right _ (List.mem_append_right _ (fJ hb' e)))).1,fun b hb'=>?_,w9⟩
    obtain⟨o,e,d⟩:=T.obj _ _ st7 b hb'
    exact (I9.pin (b,o) (List.mem_append_right _ (List.mem_append_right _ (fJ hb' e)))).2.1
   refine wpAny_bind (wpAny_mono (hpt _ s8 σ8 H8 _ I8 q8) (fun b s9 h9=>?_) fun _ _ z=>z.elim)
   obtain⟨H9,I9,q9⟩:=h9
   cases b with
   | false =>
    rw [if_neg Bool.false_ne_true] at q9
    exact wpAny_pure ⟨rfl,again' I9 q9⟩
   | true =>
    rw [if_pos rfl] at q9
    refine wpAny_bind (wpAny_bind (wpAny_mono (hpe _ s9 σ8 H9 _ I9 q9) (fun v s10 h10=>?_) fun _ _ z=>z.elim))
    obtain⟨y,H10,I10,r10,xs,hx,hz,q10⟩:=h10
    refine wpAny_bind (wpAny_mono (cj (X:=X.comp scope N' s₃ (upd H2 s₂.heap.objs.size (.lst [])) fp s₃.heap.objs.size) _ s10 σ8 H10 (.ref s₂.heap.objs.size) [y] (.ref s₂.heap.objs.size) [v] (fun _ H'=>N σ8 H') I10 rfl (.cons r10 .nil) ⟨_,xs,y,rfl,rfl,hx,hz,q10⟩) (fun r s11 h11=>?_) fun _ _ z=>z.elim)
    obtain⟨_,H11,I11,_,q11⟩:=h11
    exact wpAny_pure (wpAny_pure ⟨rfl,again' I11 q11⟩)
 have e3:({ s₂ with heap:=s₂.heap.push { cls:=.type "list",data:=.seq ([]:List Value).toArray } }:Shared)=s₃:=hs3
 have go4:=codeAny_compStart_list (loop _ rfl) (T.self X.A 0 _ _ _ st4 (loop _ rfl))
 subst hs3
 exact go4
theorem cB {elt tg iter:Expr} {ifs:List Expr} {pos:Pos} {wi:TI} {g:TG} {tt:TT} {te:TE} (S:CompSc X scope N' own fnames fr) (hc:X.calm=true) (hi:PI X tg iter wi)
  (hb:∀ (s₀:Shared) (H₀:Hp) (fp:List Addr) (C:Addr),PG (X.comp scope N' s₀ H₀ fp C) tg g∧PTs (X.comp scope N' s₀ H₀ fp C) ifs tt∧PE (X.comp scope N' s₀ H₀ fp C) elt te)
  (hs:∀x,foldedSetIterable iter X.env x=pure x:=by intro _;rfl):PE X (.ListComp elt [⟨tg,iter,ifs,0⟩] scope pos) (xP wi own.length fr g tt te):=by
 intro pins s σ H Q I h
 rw [eval_ListComp]
 refine wpAny_comprehension_free (use:=none) rfl hs (jV (S.has I.ok)) S.kind (fun y hy hl=>?_) (wpAny_mono (hi pins s σ H _ I h) (fun xv s₁ h₁=>wpAny_mono h₁ (fun itv s₂ h₂=>?_) fun _ _ e=>e) fun _ _ e=>e)
 ·have:=List.all_eq_true.mp S.loc y hy
  rw [hl] at this
  simpa using this
 ·obtain⟨it,fp,tn,J,H2,rfl,I2,T,st2,f2,q2⟩:=h₂
  refine o8 S hc hb I2 T st2 f2 q2 (RR:=fun acc C=>compPost (model X.prog X.w) X.A X.xe none (EP X pins σ Q) acc C) fun D C H' s' I' hn fC q=>?_
  obtain⟨m,hn⟩:=hn
  obtain⟨f0,f1,f2',f3,f4,f5⟩:=fC
  exact⟨m,hn,fun h' hs'=>⟨.ref D,H',I'.turned (t':=s'.toks) (fun b o hb' e=>(hs'.2 b hb').trans e) f0 f1 f3 f4 f5,rfl,q⟩⟩
theorem eY {i:Nat} {x:Str} {pos' spos:Pos} {elt tg iter:Expr} {ifs:List Expr} {pos:Pos} {wi:TI} {g:TG} {tt:TT} {te:TE} (hN:X.N.Nodup) (hi':X.N[i]? = some x) (hx:X.env.scope.names.lookup x=some .local) (S:CompSc X scope N' own fnames fr) (hc:X.calm=true) (hi:PI X tg iter wi)
  (hb:∀ (s₀:Shared) (H₀:Hp) (fp:List Addr) (C:Addr),PG (X.comp scope N' s₀ H₀ fp C) tg g∧PTs (X.comp scope N' s₀ H₀ fp C) ifs tt∧PE (X.comp scope N' s₀ H₀ fp C) elt te)
  (hsw:swapsWith (.ListComp elt [⟨tg,iter,ifs,0⟩] scope pos) (some (.Name x pos')) spos.line X.env=pure true:=by rfl)
  (hs:∀x,foldedSetIterable iter X.env x=pure x:=by intro _;rfl):PS X (.Assign [.Name x pos'] (.ListComp elt [⟨tg,iter,ifs,0⟩] scope pos) spos) (zr (xP wi own.length fr g tt te) (su i)):=by
 intro pins s σ H D I h
 rw [exec_Assign_Name_used _ _ _ _ hsw]
 refine wpAny_bind (wpAny_standAt (wpAny_bind ?_))
 show wpAny _ X.A (do let _←comprehension (.ListComp elt [⟨tg,iter,ifs,0⟩] scope pos) scope X.env _ (newList []) false (eval iter X.env) (some (assign (.Name x pos') X.env))) _ _ s
 refine wpAny_bind (wpAny_mono (wpAny_comprehension_free (use:=some (assign (.Name x pos') X.env)) (Q:=fun _ s'=>SP X pins D .next s') rfl hs (jV (S.has I.ok)) S.kind (fun y hy hl=>?_)
  (wpAny_mono (hi pins s σ H _ I h) (fun xv s₁ h₁=>wpAny_mono h₁ (fun itv s₂ h₂=>?_) fun _ _ e=>e) fun _ _ e=>e)) (fun _ s' hq=>wpAny_pure (wpAny_pure hq)) fun _ _ e=>e)
 ·have:=List.all_eq_true.mp S.loc y hy
  rw [hl] at this
  simpa using this
 ·obtain⟨it,fp,tn,J,H2,rfl,I2,T,st2,f2,q2⟩:=h₂
  refine o8 S hc hb I2 T st2 f2 q2 (RR:=fun acc C=>compPost (model X.prog X.w) X.A X.xe (some (assign (.Name x pos') X.env)) (fun _ s'=>SP X pins D .next s') acc C) fun D' C H' s' I' hn fC q=>?_
  obtain⟨m,hn⟩:=hn
  obtain⟨f0,f1,f2',f3,f4,f5⟩:=fC
  show wpAny _ X.A (assign (.Name x pos') X.env (.ref D')) _ _ _
  refine wpAny_assign_Name (lQ I' hN hi' (.inl hx) (v:=.ref D') rfl (fun s'' I'' hch=>?_) (.inr hx))
  obtain⟨a,hsa,hca⟩:=hch
  have hCa:C≠a:=by
   rcases hca with z | z
   ·rw [z];exact f1
   ·exact fun e=>f4 x a z e.symm
  refine⟨m,hn.sameBut hsa hCa,fun h' hs'=>⟨_,H',I''.turned (t':=s''.toks) (fun b o hb' e=>(hs'.2 b hb').trans e) f0 f1 f3 f4 f5,q⟩⟩
end
end L2
namespace L2
open PySem PySem.Spec PyProof.Rows
inductive DV where
 | int (i:Int) | bl (b:Bool) | str (x:Str) | non | lst (xs:List DV) | tup (xs:List DV)
noncomputable def Den (K:PySem.W.Frag) (H:Hp):Nat→V→DV→Prop
 | _,.int i,.int j=>i=j
 | _,.bl i,.bl j=>i=j
 | _,.str i,.str j=>i=j
 | _,.non,.non=>True
 | n + 1,.ref a,.lst ds=>∃xs,SqL K H a xs∧Paired (Den K H n) xs ds
 | n + 1,.ref a,.tup ds=>∃xs,SqT K H a xs∧Paired (Den K H n) xs ds
 | _,_,_=>False
noncomputable def jW:Nat→DV→DV→Prop
 | _,.int _,.int _=>True
 | _,.bl _,.bl _=>True
 | _,.str _,.str _=>True
 | _,.non,.non=>True
 | n + 1,.lst ds,.lst es=>ds.length=es.length→∀ (i:Nat) d e,ds[i]? = some d→es[i]? = some e→jW n d e
 | n + 1,.tup ds,.tup es=>∀ (i:Nat) d e,ds[i]? = some d→es[i]? = some e→jW n d e
 | _,_,_=>False
theorem Paired.get' {α β:Type} {F:α→β→Prop}:∀ {xs:List α} {ys:List β} {i:Nat} {x:α},Paired F xs ys→xs[i]? = some x→∃y,ys[i]? = some y∧F x y
 | _,_,_,_,.nil,e=>by simp at e
 | _,_,0,_,.cons r _,e=>by simp at e;subst e;exact⟨_,rfl,r⟩
 | _,_,i + 1,x,.cons _ t,e=>by
  obtain⟨u,h1,h2⟩:=Paired.get' (i:=i) (x:=x) t (by simpa using e)
  exact⟨u,by simpa using h1,h2⟩
section
variable {X:Cx} {pins:List (Addr×Obj)} {σ:St} {H:Hp} {s:Shared}
theorem eG {α β:Type} {F:α→β→Prop} (hF:∀x d e,F x d→F x e→d=e):∀ {xs:List α} {ds es:List β},Paired F xs ds→Paired F xs es→ds=es
 | _,_,_,.nil,.nil=>rfl
 | _,_,_,.cons a b,.cons c d=>by rw [hF _ _ _ a c,eG hF b d]
theorem ph (I:Inv X pins σ H s) {a:Addr} {xs ys:List V} (h:SqL X.K H a xs) (h':SqT X.K H a ys):False:=by
 obtain⟨its,_,⟨o,n,e,c,_⟩,_⟩:=I.list h
 obtain⟨its',_,⟨o',e',c',_⟩,_⟩:=I.tuple h'
 rw [e] at e'; cases e'
 rw [c] at c'
 exact absurd c' (by decide)
theorem sX (I:Inv X pins σ H s):∀ (n:Nat) (x:V) (d e:DV),Den X.K H n x d→Den X.K H n x e→d=e:=by
 intro n
 induction n with
 | zero =>
  intro x d e h1 h2
  cases x <;> cases d <;> simp only [Den] at h1 <;> cases e <;> simp only [Den] at h2 <;> first | rfl | (subst h1;subst h2;rfl)
 | succ n ih =>
  intro x d e h1 h2
  cases x with
  | ref a =>
   cases d with
   | lst ds =>
    obtain⟨xs,hs,hp⟩:∃xs,SqL X.K H a xs∧Paired (Den X.K H n) xs ds:=h1
    cases e with
    | lst es =>
     obtain⟨ys,hs',hp'⟩:∃xs,SqL X.K H a xs∧Paired (Den X.K H n) xs es:=h2
     rw [I.list_inj hs' hs] at hp'
     rw [eG ih hp hp']
    | tup es =>
     obtain⟨ys,hs',hp'⟩:∃xs,SqT X.K H a xs∧Paired (Den X.K H n) xs es:=h2
     exact (ph I hs hs').elim
    | _=>exact False.elim h2
   | tup ds =>
    obtain⟨xs,hs,hp⟩:∃xs,SqT X.K H a xs∧Paired (Den X.K H n) xs ds:=h1
    cases e with
    | tup es =>
     obtain⟨ys,hs',hp'⟩:∃xs,SqT X.K H a xs∧Paired (Den X.K H n) xs es:=h2
     rw [I.tuple_inj hs' hs] at hp'
     rw [eG ih hp hp']
    | lst es =>
     obtain⟨ys,hs',hp'⟩:∃xs,SqL X.K H a xs∧Paired (Den X.K H n) xs es:=h2
     exact (ph I hs' hs).elim
    | _=>exact False.elim h2
   | _=>exact False.elim h1
  | int i=>cases d <;> simp only [Den] at h1 <;> cases e <;> simp only [Den] at h2 <;> (subst h1;subst h2;rfl)
  | bl i=>cases d <;> simp only [Den] at h1 <;> cases e <;> simp only [Den] at h2 <;> (subst h1;subst h2;rfl)
  | str i=>cases d <;> simp only [Den] at h1 <;> cases e <;> simp only [Den] at h2 <;> (subst h1;subst h2;rfl)
  | non=>cases d <;> simp only [Den] at h1 <;> cases e <;> simp only [Den] at h2 <;> rfl
  | _=>cases d <;> exact False.elim h1
open Classical in
noncomputable def eqD (d e:DV):Bool:=decide (d=e)
theorem gj (d:DV):eqD d d=true:=by simp [eqD]
theorem iw {ds es:List DV} (h:ds.length=es.length):((List.range ds.length).all fun j=>eqD (ds[j]?.getD (.int 0)) (es[j]?.getD (.int 0)))=eqD (.lst ds) (.lst es):=by
 rw [Bool.eq_iff_iff]
 simp only [List.all_eq_true,List.mem_range,eqD,decide_eq_true_eq,DV.lst.injEq]
 constructor
 ·intro hj
  refine List.ext_getElem? fun i=>?_
  by_cases hi:i < ds.length
  ·have:=hj i hi
   rw [List.getElem?_eq_getElem hi,List.getElem?_eq_getElem (by lia:i < es.length)] at this ⊢
   simpa using this
  ·rw [List.getElem?_eq_none (by lia),List.getElem?_eq_none (by lia)]
 ·rintro rfl j _
  rfl
theorem jC {ds es:List DV}:(((List.range (min ds.length es.length)).all fun j=>eqD (ds[j]?.getD (.int 0)) (es[j]?.getD (.int 0))) && ds.length == es.length)=eqD (.tup ds) (.tup es):=by
 by_cases h:ds.length=es.length
 ·have e:eqD (.tup ds) (.tup es)=eqD (.lst ds) (.lst es):=by simp [eqD]
  rw [e,← iw h,h]
  simp [h]
 ·have:¬ ds=es:=fun e=>h (congrArg List.length e)
  have e:eqD (.tup ds) (.tup es)=false:=by simp [eqD,this]
  rw [e]
  simp [h]
theorem xQ (I:Inv X pins σ H s):∀ (n:Nat) (A:Around) (x y:V) (d e:DV) (u v:Value),Den X.K H n x d→Den X.K H n y e→jW n d e→RelV x u→RelV y v→A.units + n < cLine→SeqAt.EqAt A s u v (eqD d e):=by
 intro n
 have leaf:∀ (n:Nat) (A:Around) (x y:V) (d e:DV) (u v:Value),(∀a,x≠.ref a)→Den X.K H n x d→Den X.K H n y e→jW n d e→RelV x u→RelV y v→SeqAt.EqAt A s u v (eqD d e):=by
  intro n A x y d e u v hx h1 h2 hl r1 r2
  cases x with
  | ref a=>exact absurd rfl (hx a)
  | non =>
   cases d <;> simp only [Den] at h1
   cases e <;> simp only [jW] at hl
   cases y <;> simp only [Den] at h2
   cases r1
   cases r2
   rw [gj]
   exact SeqAt.EqAt.same _
  | int i =>
   cases d <;> simp only [Den] at h1
   subst h1
   cases e <;> simp only [jW] at hl
   cases y <;> simp only [Den] at h2
   subst h2
   obtain⟨t,rfl⟩:=r1
   obtain⟨t',rfl⟩:=r2
   rename_i j
   have e1:eqD (.int i) (.int j)=(i == j):=by
    rw [Bool.eq_iff_iff];simp [eqD]
   rw [e1]
   exact SeqAt.EqAt.int_int i t j t'
  | bl i =>
   cases d <;> simp only [Den] at h1
   subst h1
   cases e <;> simp only [jW] at hl
   cases y <;> simp only [Den] at h2
   subst h2
   cases r1
   cases r2
   rename_i j
   have e1:eqD (.bl i) (.bl j)=(i == j):=by
    rw [Bool.eq_iff_iff];simp [eqD]
   rw [e1]
   exact SeqAt.EqAt.bool_bool i j
  | str i =>
   cases d <;> simp only [Den] at h1
   subst h1
   cases e <;> simp only [jW] at hl
   cases y <;> simp only [Den] at h2
   subst h2
   obtain⟨t,rfl⟩:=r1
   obtain⟨t',rfl⟩:=r2
   rename_i j
   have e1:eqD (.str i) (.str j)=(i == j):=by
    rw [Bool.eq_iff_iff];simp [eqD]
   rw [e1]
   exact SeqAt.EqAt.str_str i t j t'
  | _=>cases n <;> cases d <;> exact False.elim h1
 induction n with
 | zero =>
  intro A x y d e u v h1 h2 hl r1 r2 hu
  refine leaf 0 A x y d e u v (fun a z=>?_) h1 h2 hl r1 r2
  subst z
  cases d <;> exact False.elim h1
 | succ n ih =>
  intro A x y d e u v h1 h2 hl r1 r2 hu
  cases x with
  | ref a =>
   cases r1
   cases d with
   | lst ds =>
    obtain⟨xs,hs,hp⟩:∃xs,SqL X.K H a xs∧Paired (Den X.K H n) xs ds:=h1
    cases e with
    | lst es =>
     cases y with
     | ref b =>
      cases r2
      obtain⟨ys,hs',hp'⟩:∃xs,SqL X.K H b xs∧Paired (Den X.K H n) xs es:=h2
      by_cases hab:a=b
      ·subst hab
       rw [I.list_inj hs' hs] at hp'
       rw [eG (sX I n) hp hp',gj]
       exact SeqAt.EqAt.same _
      ·refine SeqAt.EqAt.of_refs hab ?_
       obtain⟨its,ri,pl,_⟩:=I.list hs
       obtain⟨its',ri',pl',_⟩:=I.list hs'
       have l1:=ri.length
       have l2:=ri'.length
       have l3:xs.length=ds.length:=Paired.length hp
       have l4:ys.length=es.length:=Paired.length hp'
       by_cases hlen:ds.length=es.length
       ·rw [← iw hlen]
        have hsz:its.toArray.size=its'.toArray.size:=by rw [List.size_toArray,List.size_toArray];lia
        have:=SeqAt.RcAt.lists (e:=fun j=>eqD (ds[j]?.getD (.int 0)) (es[j]?.getD (.int 0))) pl.isList pl'.isList hsz (by lia:A.units < cLine) (fun j h1' h2'=>?_)
        ·rw [List.size_toArray,← l1,l3] at this
         exact this
        ·rw [List.size_toArray] at h1' h2'
         have hj1:xs[j]? = some xs[j]:=List.getElem?_eq_getElem (by lia)
         have hj2:ys[j]? = some ys[j]:=List.getElem?_eq_getElem (by lia)
         obtain⟨d',hd,hdd⟩:=Paired.get' hp hj1
         obtain⟨e',he,hee⟩:=Paired.get' hp' hj2
         obtain⟨u',hu',ru'⟩:=ri.get hj1
         obtain⟨v',hv',rv'⟩:=ri'.get hj2
         have eu:its.toArray[j]=u':=by
          have:its[j]? = some its[j]:=List.getElem?_eq_getElem h1'
          rw [this] at hu'; simpa using Option.some.inj hu'
         have ev:its'.toArray[j]=v':=by
          have:its'[j]? = some its'[j]:=List.getElem?_eq_getElem h2'
          rw [this] at hv'; simpa using Option.some.inj hv'
         rw [eu,ev,hd,he]
         exact ih A.in1 _ _ d' e' u' v' hdd hee (hl hlen j d' e' hd he) ru' rv' (by show A.units + 1 + n < cLine;lia)
       ·have hne:¬ ds=es:=fun z=>hlen (congrArg List.length z)
        have e1:eqD (.lst ds) (.lst es)=false:=by simp [eqD,hne]
        rw [e1]
        exact SeqAt.RcAt.lists_lengths pl.isList pl'.isList (by simp only [List.size_toArray,bne_iff_ne,ne_eq];lia) (by lia)
     | _=>exact False.elim h2
    | _=>exact False.elim hl
   | tup ds =>
    obtain⟨xs,hs,hp⟩:∃xs,SqT X.K H a xs∧Paired (Den X.K H n) xs ds:=h1
    cases e with
    | tup es =>
     cases y with
     | ref b =>
      cases r2
      obtain⟨ys,hs',hp'⟩:∃xs,SqT X.K H b xs∧Paired (Den X.K H n) xs es:=h2
      by_cases hab:a=b
      ·subst hab
       rw [I.tuple_inj hs' hs] at hp'
       rw [eG (sX I n) hp hp',gj]
       exact SeqAt.EqAt.same _
      ·refine SeqAt.EqAt.of_refs hab ?_
       obtain⟨its,ri,pl,_⟩:=I.tuple hs
       obtain⟨its',ri',pl',_⟩:=I.tuple hs'
       have l1:=ri.length
       have l2:=ri'.length
       have l3:xs.length=ds.length:=Paired.length hp
       have l4:ys.length=es.length:=Paired.length hp'
       rw [← jC]
       have:=SeqAt.RcAt.tuples (e:=fun j=>eqD (ds[j]?.getD (.int 0)) (es[j]?.getD (.int 0))) (show s.heap.IsTuple a its.toArray from pl) (show s.heap.IsTuple b its'.toArray from pl') (by lia:A.units < cLine) (fun j h1' h2'=>?_)
       ·rw [List.size_toArray,List.size_toArray,← l1,l3,← l2,l4] at this
        exact this
       ·rw [List.size_toArray] at h1' h2'
        have hj1:xs[j]? = some xs[j]:=List.getElem?_eq_getElem (by lia)
        have hj2:ys[j]? = some ys[j]:=List.getElem?_eq_getElem (by lia)
        obtain⟨d',hd,hdd⟩:=Paired.get' hp hj1
        obtain⟨e',he,hee⟩:=Paired.get' hp' hj2
        obtain⟨u',hu',ru'⟩:=ri.get hj1
        obtain⟨v',hv',rv'⟩:=ri'.get hj2
        have eu:its.toArray[j]=u':=by
         have:its[j]? = some its[j]:=List.getElem?_eq_getElem h1'
         rw [this] at hu'; simpa using Option.some.inj hu'
        have ev:its'.toArray[j]=v':=by
         have:its'[j]? = some its'[j]:=List.getElem?_eq_getElem h2'
         rw [this] at hv'; simpa using Option.some.inj hv'
        rw [eu,ev,hd,he]
        exact ih A.in1 _ _ d' e' u' v' hdd hee (hl j d' e' hd he) ru' rv' (by show A.units + 1 + n < cLine;lia)
     | _=>exact False.elim h2
    | _=>exact False.elim hl
   | _=>exact False.elim h1
  | int i=>exact leaf (n + 1) A (.int i) y d e u v (fun _ z=>nomatch z) h1 h2 hl r1 r2
  | bl i=>exact leaf (n + 1) A (.bl i) y d e u v (fun _ z=>nomatch z) h1 h2 hl r1 r2
  | str i=>exact leaf (n + 1) A (.str i) y d e u v (fun _ z=>nomatch z) h1 h2 hl r1 r2
  | non=>exact leaf (n + 1) A .non y d e u v (fun _ z=>nomatch z) h1 h2 hl r1 r2
  | _=>cases d <;> exact False.elim h1
end
section
variable {X:Cx} {pins:List (Addr×Obj)} {σ:St} {H:Hp} {s:Shared}
theorem jX (I:Inv X pins σ H s) {n:Nat} {A:Around} {a b:Addr} {ds es:List DV} (h1:Den X.K H (n + 1) (.ref a) (.lst ds)) (h2:Den X.K H (n + 1) (.ref b) (.lst es)) (hl:jW (n + 1) (.lst ds) (.lst es)) (hu:A.units + n + 1 < cLine) :
  SeqAt.RcAt A s (.ref a) (.ref b) (eqD (.lst ds) (.lst es))∧SeqAt.RcNeAt A s (.ref a) (.ref b) (!eqD (.lst ds) (.lst es)):=by
 obtain⟨xs,hs,hp⟩:∃xs,SqL X.K H a xs∧Paired (Den X.K H n) xs ds:=h1
 obtain⟨ys,hs',hp'⟩:∃xs,SqL X.K H b xs∧Paired (Den X.K H n) xs es:=h2
 obtain⟨its,ri,pl,_⟩:=I.list hs
 obtain⟨its',ri',pl',_⟩:=I.list hs'
 have l1:=ri.length
 have l2:=ri'.length
 have l3:xs.length=ds.length:=Paired.length hp
 have l4:ys.length=es.length:=Paired.length hp'
 have go:∀j (h1':j < its.toArray.size) (h2':j < its'.toArray.size),ds.length=es.length→SeqAt.EqAt A.in1 s its.toArray[j] its'.toArray[j] (eqD (ds[j]?.getD (.int 0)) (es[j]?.getD (.int 0))):=fun j h1' h2' hlen=>by
  rw [List.size_toArray] at h1' h2'
  have hj1:xs[j]? = some xs[j]:=List.getElem?_eq_getElem (by lia)
  have hj2:ys[j]? = some ys[j]:=List.getElem?_eq_getElem (by lia)
  obtain⟨d',hd,hdd⟩:=Paired.get' hp hj1
  obtain⟨e',he,hee⟩:=Paired.get' hp' hj2
  obtain⟨u',hu',ru'⟩:=ri.get hj1
  obtain⟨v',hv',rv'⟩:=ri'.get hj2
  have eu:its.toArray[j]=u':=by
   have:its[j]? = some its[j]:=List.getElem?_eq_getElem h1'
   rw [this] at hu'; simpa using Option.some.inj hu'
  have ev:its'.toArray[j]=v':=by
   have:its'[j]? = some its'[j]:=List.getElem?_eq_getElem h2'
   rw [this] at hv'; simpa using Option.some.inj hv'
  rw [eu,ev,hd,he]
  exact xQ I n A.in1 _ _ d' e' u' v' hdd hee (hl hlen j d' e' hd he) ru' rv' (by show A.units + 1 + n < cLine;lia)
 by_cases hlen:ds.length=es.length
 ·rw [← iw hlen]
  have hsz:its.toArray.size=its'.toArray.size:=by rw [List.size_toArray,List.size_toArray];lia
  have r1:=SeqAt.RcAt.lists (e:=fun j=>eqD (ds[j]?.getD (.int 0)) (es[j]?.getD (.int 0))) pl.isList pl'.isList hsz (by lia:A.units < cLine) (fun j h1' h2'=>go j h1' h2' hlen)
  have r2:=SeqAt.RcNeAt.lists (e:=fun j=>eqD (ds[j]?.getD (.int 0)) (es[j]?.getD (.int 0))) pl.isList pl'.isList hsz (by lia:A.units < cLine) (fun j h1' h2'=>go j h1' h2' hlen)
  rw [List.size_toArray,← l1,l3] at r1 r2
  exact⟨r1,r2⟩
 ·have hne:¬ ds=es:=fun z=>hlen (congrArg List.length z)
  have e1:eqD (.lst ds) (.lst es)=false:=by simp [eqD,hne]
  rw [e1]
  exact⟨SeqAt.RcAt.lists_lengths pl.isList pl'.isList (by simp only [List.size_toArray,bne_iff_ne,ne_eq];lia) (by lia),SeqAt.RcNeAt.lists_lengths pl.isList pl'.isList (by simp only [List.size_toArray,bne_iff_ne,ne_eq];lia) (by lia)⟩
theorem uH (I:Inv X pins σ H s) {n:Nat} {A:Around} {a b:Addr} {ds es:List DV} (h1:Den X.K H (n + 1) (.ref a) (.tup ds)) (h2:Den X.K H (n + 1) (.ref b) (.tup es)) (hl:jW (n + 1) (.tup ds) (.tup es)) (hu:A.units + n + 1 < cLine) :
  SeqAt.RcAt A s (.ref a) (.ref b) (eqD (.tup ds) (.tup es))∧SeqAt.RcNeAt A s (.ref a) (.ref b) (!eqD (.tup ds) (.tup es)):=by
 obtain⟨xs,hs,hp⟩:∃xs,SqT X.K H a xs∧Paired (Den X.K H n) xs ds:=h1
 obtain⟨ys,hs',hp'⟩:∃xs,SqT X.K H b xs∧Paired (Den X.K H n) xs es:=h2
 obtain⟨its,ri,pl,_⟩:=I.tuple hs
 obtain⟨its',ri',pl',_⟩:=I.tuple hs'
 have l1:=ri.length
 have l2:=ri'.length
 have l3:xs.length=ds.length:=Paired.length hp
 have l4:ys.length=es.length:=Paired.length hp'
 have go:∀j (h1':j < its.toArray.size) (h2':j < its'.toArray.size),SeqAt.EqAt A.in1 s its.toArray[j] its'.toArray[j] (eqD (ds[j]?.getD (.int 0)) (es[j]?.getD (.int 0))):=fun j h1' h2'=>by
  rw [List.size_toArray] at h1' h2'
  have hj1:xs[j]? = some xs[j]:=List.getElem?_eq_getElem (by lia)
  have hj2:ys[j]? = some ys[j]:=List.getElem?_eq_getElem (by lia)
  obtain⟨d',hd,hdd⟩:=Paired.get' hp hj1
  obtain⟨e',he,hee⟩:=Paired.get' hp' hj2
  obtain⟨u',hu',ru'⟩:=ri.get hj1
  obtain⟨v',hv',rv'⟩:=ri'.get hj2
  have eu:its.toArray[j]=u':=by
   have:its[j]? = some its[j]:=List.getElem?_eq_getElem h1'
   rw [this] at hu'; simpa using Option.some.inj hu'
  have ev:its'.toArray[j]=v':=by
   have:its'[j]? = some its'[j]:=List.getElem?_eq_getElem h2'
   rw [this] at hv'; simpa using Option.some.inj hv'
  rw [eu,ev,hd,he]
  exact xQ I n A.in1 _ _ d' e' u' v' hdd hee (hl j d' e' hd he) ru' rv' (by show A.units + 1 + n < cLine;lia)
 rw [← jC]
 have r1:=SeqAt.RcAt.tuples (e:=fun j=>eqD (ds[j]?.getD (.int 0)) (es[j]?.getD (.int 0))) (show s.heap.IsTuple a its.toArray from pl) (show s.heap.IsTuple b its'.toArray from pl') (by lia:A.units < cLine) go
 have r2:=SeqAt.RcNeAt.tuples (e:=fun j=>eqD (ds[j]?.getD (.int 0)) (es[j]?.getD (.int 0))) (show s.heap.IsTuple a its.toArray from pl) (show s.heap.IsTuple b its'.toArray from pl') (by lia:A.units < cLine) go
 rw [List.size_toArray,List.size_toArray,← l1,l3,← l2,l4] at r1 r2
 exact⟨r1,r2⟩
end
noncomputable def Jc (K:PySem.W.Frag) (n:Nat):R2:=fun x y H Q=>∃a b d e,x=.ref a∧y=.ref b∧Den K H (n + 1) (.ref a) d∧Den K H (n + 1) (.ref b) e∧jW (n + 1) d e∧Q (.bl (eqD d e)) H
theorem Du {X:Cx} {k:Nat} (n:Nat) (hr:Room k X.A) (hn:n≤9:=by decide):OpR X (compareOp .Eq) (Jc X.K n):=by
 intro pins s σ H x y v u Q I rx ry h
 obtain⟨a,b,d,e,rfl,rfl,hd,he,hl,q⟩:=h
 cases rx;cases ry
 have hu:=hr.units
 cases d with
 | lst ds =>
  cases e with
  | lst es=>exact (jX I (A:=X.A) hd he hl (by lia)).1 _ _ _ _ ⟨.bl _,H,I,rfl,q⟩
  | _=>exact False.elim hl
 | tup ds =>
  cases e with
  | tup es=>exact (uH I (A:=X.A) hd he hl (by lia)).1 _ _ _ _ ⟨.bl _,H,I,rfl,q⟩
  | _=>exact False.elim hl
 | _=>exact False.elim hd
theorem nR {K:PySem.W.Frag} {H:Hp} {n:Nat} {i:Int}:Den K H n (.int i) (.int i):=by cases n <;> rfl
theorem uI {X:Cx}:MtR X "int.bit_length" (fun x xs H Q=>∃i,x=.int i∧xs=[]∧Q (.int (Builtin.Int.intBits i)) H):=by
 intro pins s σ H x xs v us Q I rx rs h
 obtain⟨i,rfl,rfl,q⟩:=h
 obtain⟨t,rfl⟩:=rx
 cases rs
 exact call_int_bit_length ⟨.int _,H,I.tok _,⟨_,rfl⟩,q⟩
end L2
namespace L2
open PySem PySem.Spec PyProof.Rows
section
variable {X:Cx}
theorem eO:dC X (.type "range") (fun xs H Q=>∃j:Int,xs=[.int j]∧∀p,H p=none→Q (.ref p) (upd H p (.rng 0 j))):=by
 intro pins s σ H xs us Q I r h
 obtain⟨j,rfl,q⟩:=h
 obtain⟨u,rfl,t,rfl⟩:=vals1 r
 refine call_range_1 ⟨.ref s.heap.objs.size,_,I.laid (fun b o e=>Heap.get?_push_of_some _ e) (Nat.le_refl _) ?_,rfl,q _ I.fresh⟩
 exact⟨_,_,_,Heap.get?_push_size _ rfl⟩
theorem fu (hc:X.calm=true):dC X (.type "list") (fun xs H Q=>∃p,∃j:Int,xs=[.ref p]∧H p=some (.rng 0 j)∧0≤j∧j≤1000∧∀l,H l=none→Q (.ref l) (upd H l (.lst (((List.range j.toNat).map fun i:Nat=>(i:Int)).map V.int)))):=by
 intro pins s σ H xs us Q I r h
 obtain⟨p,j,rfl,hp,j0,j1,q⟩:=h
 obtain⟨u,rfl,ru⟩:=vals1 r
 cases ru
 obtain⟨t,u',v,e⟩:=I.hok p _ hp
 have hn:Builtin.Range.rangeSize 0 j 1=(j.toNat:Int):=by rw [rangeSize_one];split <;> lia
 refine call_list_range (I.ok.hd hc) (a:=0) (b:=j) (c:=1) e (small_one (by lia) (by lia) (by lia) (by omega)) hn (by lia) fun h' tk acc' c' hk hS hacc=>?_
 refine⟨.ref s.heap.objs.size,_,I.laid hk (Nat.le_refl _) (o:=.lst (((List.range j.toNat).map fun i:Nat=>(i:Int)).map V.int)) ?_,rfl,q _ I.fresh⟩
 refine⟨by simp only [List.length_map,List.length_range];rw [sizeLine_eq];lia,acc'.toList,c',?_,by simpa using hS⟩
 have go:∀ (n k:Nat) (l:List Value),l.length=n→(∀ (i:Nat) (v:Value),l[i]? = some v→∃t,v=Value.int (0 + ((i + k:Nat):Int) * 1) t)→Vals (((List.range' k n).map fun i:Nat=>(i:Int)).map V.int) l:=by
  intro n
  induction n with
  | zero =>
   intro k l hl _
   cases l with
   | nil=>exact .nil
   | cons a b=>simp at hl
  | succ n ih =>
   intro k l hl hv
   cases l with
   | nil=>simp at hl
   | cons a b =>
    rw [List.range'_succ,List.map_cons,List.map_cons]
    refine .cons ?_ (ih (k + 1) b (by simpa using hl) fun i v hi=>?_)
    ·obtain⟨t,e⟩:=hv 0 a (by simp)
     exact⟨t,by rw [e];congr 1;lia⟩
    ·obtain⟨t,e⟩:=hv (i + 1) v (by simpa using hi)
     exact⟨t,by rw [e];congr 1;lia⟩
 have:=go j.toNat 0 acc'.toList (by simp [hacc.1]) fun i v hi=>hacc.2 i v (by simpa using hi)
 rw [← List.range_eq_range'] at this
 exact this
theorem xR (hc:X.calm=true):dC X (.builtin "all") (fun xs H Q=>∃ (p:Addr) (bs:List Bool),xs=[.ref p]∧SqL X.K H p (bs.map V.bl)∧Q (.bl (bs.all id)) H):=by
 intro pins s σ H xs us Q I r h
 obtain⟨p,bs,rfl,hp,q⟩:=h
 obtain⟨u,rfl,ru⟩:=vals1 r
 cases ru
 obtain⟨its,ri,pl,hz⟩:=I.list hp
 have hl:=ri.length
 rw [List.length_map] at hl
 refine call_all_walk (wpAny_pyIter_list pl.isList ?_)
 have hlt:p < s.heap.objs.size:=by obtain⟨o,e,_⟩:=pl.isList;exact Heap.lt_size e
 refine⟨s.heap.objs.size,_,_,_,_,_,fun i=>bs[i]?.getD true,rfl,Walks.list (A:=X.A.in1) (I.ok.hd hc) s.heap.objs.size p (Nat.ne_of_lt hlt) its.toArray,⟨⟨_,Heap.get?_push_size _ rfl,rfl,rfl⟩,pl.isList.at fun o e=>Heap.get?_push_of_some _ e⟩,?_,?_⟩
 ·intro i v s' Q' E' hv hq
  have hv':its[i]? = some v:=by simpa using hv
  have hi:i < its.length:=(List.getElem?_eq_some_iff.mp hv').1
  have hb:(bs.map V.bl)[i]? = some (.bl (bs[i]'(by lia))):=by rw [List.getElem?_map,List.getElem?_eq_getElem (by lia)];rfl
  obtain⟨w',e,rw'⟩:=ri.get hb
  rw [hv'] at e
  cases e
  obtain rfl:v=Value.bool _:=rw'
  dsimp only at hq
  rw [List.getElem?_eq_getElem (by omega)] at hq
  exact wpAny_truthy_bool hq
 ·intro h' tk hk
  have e:(List.range its.toArray.size).all (fun i=>bs[i]?.getD true)=bs.all id:=by
   rw [List.size_toArray,← hl,Bool.eq_iff_iff]
   simp only [List.all_eq_true,List.mem_range,id]
   constructor
   ·intro h x hx
    obtain⟨i,hi,e⟩:=List.getElem_of_mem hx
    have:=h i hi
    rw [List.getElem?_eq_getElem hi] at this
    rw [← e];exact this
   ·intro h i hi
    rw [List.getElem?_eq_getElem hi]
    exact h _ (List.getElem_mem hi)
  rw [e]
  refine⟨.bl _,H,I.kept fun b o e=>hk b o ?_ (Heap.get?_push_of_some _ e),rfl,q⟩
  intro z
  have z':b=s.heap.objs.size:=by simpa using z
  exact absurd (Heap.lt_size e) (by rw [z'];exact Nat.lt_irrefl _)
end
end L2
namespace L2
open PySem PySem.Spec PyProof.Rows
section
variable {prog:Program} {w:World} {A:Around} {E:Value→Shared→Prop} {s:Shared}
theorem rm {it tp:Addr} {j:Nat} {vs:Array Value} {y:Value} {R:Value→Shared→Prop} (hi:s.heap.IsTupleIter it tp j) (ht:s.heap.IsTuple tp vs) (hy:vs[j]? = some y)
  (k:∀g,g.IsTupleIter it tp (j + 1)→Heap.SameBut it s.heap g→R y { s with heap:=g }):wpAny (model prog w) A (Builtin.SmallTypes.nextOf (.ref it)) R E s:=by
 obtain⟨oi,ei,ci,di⟩:=id hi
 obtain⟨ot,et,_,nt,dt⟩:=ht
 unfold Builtin.SmallTypes.nextOf
 refine wpAny_bind (wpAny_callSpecial?_slot (name:=Str.ofString "__next__") hi.typeIs F.slot_tuple_iterator_next (wpAny_call_entry F.slot_tuple_iterator_next hi.typeIs F.entry_tuple_iterator_next ?_ (F.args_tuple_iterator_next_1 _)))
 show wpAny (model prog w) A.in1 (field (.ref it) 0 >>= _) _ _ s
 refine wpAny_bind (wpAny_field ei di (x:=.ref tp) rfl ?_)
 show wpAny (model prog w) A.in1 (if (Value.ref tp == Value.none)=true then _ else _) _ _ s
 rw [if_neg (show ¬ (Value.ref tp == Value.none)=true from Bool.false_ne_true)]
 show wpAny (model prog w) A.in1 (field (.ref it) 1 >>= _) _ _ s
 refine wpAny_bind (wpAny_field ei di (x:=.int j 0) rfl ?_)
 show wpAny (model prog w) A.in1 (seqItems? (.ref tp) >>= _) _ _ s
 refine wpAny_bind (wpAny_seqItems et dt ?_)
 simp only [Int.toNat_natCast,hy]
 refine wpAny_bind (wpAny_setField ei di (by simp) (wpAny_pure ⟨y,rfl,wpAny_pure (k _ ⟨_,Heap.get?_update_self _ ei (Obj.isFreed_of_fields (Obj.data_mapFields di _)),(Obj.cls_mapFields ..).trans ci,?_⟩ (Heap.SameBut.update ..))⟩))
 rw [Obj.data_mapFields di]
 simp [rawInt]
theorem jY {it tp:Addr} {j:Nat} {vs:Array Value} {R:Value→Shared→Prop} (hh:A.handled=none) (hi:s.heap.IsTupleIter it tp j) (ht:s.heap.IsTuple tp vs) (hy:vs[j]? = none)
  (k:∀g x,Heap.ExtBut it s.heap g→(∃o,g.get? x=some o∧o.cls=.type "StopIteration")→E (.ref x) { s with heap:=g }):wpAny (model prog w) A (Builtin.SmallTypes.nextOf (.ref it)) R E s:=by
 obtain⟨oi,ei,ci,di⟩:=id hi
 obtain⟨ot,et,_,nt,dt⟩:=ht
 unfold Builtin.SmallTypes.nextOf
 refine wpAny_bind (wpAny_callSpecial?_slot (name:=Str.ofString "__next__") hi.typeIs F.slot_tuple_iterator_next (wpAny_call_entry F.slot_tuple_iterator_next hi.typeIs F.entry_tuple_iterator_next ?_ (F.args_tuple_iterator_next_1 _)))
 show wpAny (model prog w) A.in1 (field (.ref it) 0 >>= _) _ _ s
 refine wpAny_bind (wpAny_field ei di (x:=.ref tp) rfl ?_)
 show wpAny (model prog w) A.in1 (if (Value.ref tp == Value.none)=true then _ else _) _ _ s
 rw [if_neg (show ¬ (Value.ref tp == Value.none)=true from Bool.false_ne_true)]
 show wpAny (model prog w) A.in1 (field (.ref it) 1 >>= _) _ _ s
 refine wpAny_bind (wpAny_field ei di (x:=.int j 0) rfl ?_)
 show wpAny (model prog w) A.in1 (seqItems? (.ref tp) >>= _) _ _ s
 refine wpAny_bind (wpAny_seqItems et dt ?_)
 simp only [Int.toNat_natCast,hy]
 refine wpAny_bind (wpAny_rule (wpAny_bind (wpAny_setField ei di (by simp) ?_)))
 show wpAny (model prog w) A.in1 (newExc (.type "StopIteration") [] >>= _) _ _ _
 refine wpAny_bind ?_
 simp only [newExc,newTuple]
 refine wpAny_bind (wpAny_newObj_type (wpAny_bind (m:=firstArgMember _ _) (wpAny_of_eq (a:=Value.none) (by first | rfl | (simp only [firstArgMember];rfl)) (wpAny_newObj_type ?_ (by size_fits)))) (by size_fits))
 simp only [raiseNew]
 refine wpAny_bind (wpAny_handled ?_)
 rw [show A.in1.handled=none from hh]
 refine wpAny_bind (wpAny_pure (wpAny_throw (k _ _ (((Heap.SameBut.update ..).extBut.push _).push _) ⟨_,Heap.get?_push_size _ rfl,rfl⟩)))
end
set_option maxHeartbeats 4000000 in
theorem uJ (l:Addr) (vs:Array Value) (t:Tok) :
  Meets (Builtin.«enumerate.__new__» ⟨[.type "enumerate",.ref l],[("start",.int 1 t)]⟩) (fun _ R s=>s.heap.IsList l vs ∧
   R (.ok (.ret (.ref (s.heap.push { cls:=.type "list_iterator",data:=.fields #[.ref l,.int 0 0] }).objs.size)))
    { s with heap:=(s.heap.push { cls:=.type "list_iterator",data:=.fields #[.ref l,.int 0 0] }).push { cls:=.type "enumerate",data:=.fields #[.none,.bool false,.ref s.heap.objs.size,rawInt 1,.none,.none] } }) :=
 .of_wp fun prog w A R s h=>by
  obtain⟨hp,g,d,tk,os⟩:=s;obtain⟨hL,h⟩:=h
  obtain⟨⟨c,dc,dt,sl⟩,hl,hc,n,hd⟩:=id hL
  replace hc:c=.type "list" := hc
  replace hd:dt=.seq vs n:=hd
  subst hc hd
  have hsub:=sub_enumerate
  wp_walk using PySem.AutoSeq1.wpAny_loadPart' hl
  refine wpAny_stack_any fun st=>wpAny_pure ?_
  dsimp only
  split
  ·split
   all_goals
    refine wpAny_bind (wpAny_of_eq (a:=(Value.ref l,some (Value.int 1 t))) ?e ?_)
    case e=>rfl
    show wpAny _ _ (Builtin.SmallTypes.indexObject _ (Value.int 1 t) >>= _) _ _ _
    wp_walk using wpAny_pyIter_list hL
    exact⟨_,rfl,h⟩
  ·rw [if_neg Bool.false_ne_true]
   refine wpAny_bind (wpAny_of_eq (a:=(Value.ref l,some (Value.int 1 t))) ?e ?_)
   case e=>rfl
   show wpAny _ _ (Builtin.SmallTypes.indexObject _ (Value.int 1 t) >>= _) _ _ _
   wp_walk using wpAny_pyIter_list hL
   exact⟨_,rfl,h⟩
set_option maxHeartbeats 4000000 in
theorem uK (l:Addr) (vs:Array Value) (t:Tok) :
  Meets (Builtin.«enumerate.__new__» ⟨[.type "enumerate",.ref l],[("start",.int 1 t)]⟩) (fun _ R s=>s.heap.IsTuple l vs ∧
   R (.ok (.ret (.ref (s.heap.push { cls:=.type "tuple_iterator",data:=.fields #[.ref l,.int 0 0] }).objs.size)))
    { s with heap:=(s.heap.push { cls:=.type "tuple_iterator",data:=.fields #[.ref l,.int 0 0] }).push { cls:=.type "enumerate",data:=.fields #[.none,.bool false,.ref s.heap.objs.size,rawInt 1,.none,.none] } }) :=
 .of_wp fun prog w A R s h=>by
  obtain⟨hp,g,d,tk,os⟩:=s;obtain⟨hL,h⟩:=h
  obtain⟨⟨c,dc,dt,sl⟩,hl,hc,n,hd⟩:=id hL
  replace hc:c=.type "tuple" := hc
  replace hd:dt=.seq vs n:=hd
  subst hc hd
  have hsub:=sub_enumerate
  wp_walk using PySem.AutoSeq1.wpAny_loadPart' hl
  refine wpAny_stack_any fun st=>wpAny_pure ?_
  dsimp only
  split
  ·split
   all_goals
    refine wpAny_bind (wpAny_of_eq (a:=(Value.ref l,some (Value.int 1 t))) ?e ?_)
    case e=>rfl
    show wpAny _ _ (Builtin.SmallTypes.indexObject _ (Value.int 1 t) >>= _) _ _ _
    wp_walk using wpAny_pyIter_tuple hL
    exact⟨_,rfl,h⟩
  ·rw [if_neg Bool.false_ne_true]
   refine wpAny_bind (wpAny_of_eq (a:=(Value.ref l,some (Value.int 1 t))) ?e ?_)
   case e=>rfl
   show wpAny _ _ (Builtin.SmallTypes.indexObject _ (Value.int 1 t) >>= _) _ _ _
   wp_walk using wpAny_pyIter_tuple hL
   exact⟨_,rfl,h⟩
section
variable {prog:Program} {w:World} {A:Around} {E:Value→Shared→Prop} {s:Shared}
theorem sY {T newId:String} {Bn:Builtin} {a:Value} {args:List Value} {kw:List (Str×Value)} {S:PySem.Spec} {R:Value→Shared→Prop} (ft:TypeCalled T newId "object.__init__") (hne:(some newId != some "object.__new__")=true)
  (hct:checkTypeCall T ⟨a :: args,kw⟩=pure ()) (hcn:checkBuiltinCall newId ⟨.type T :: a :: args,kw⟩=pure ()) (hok:∀obj,argsOk "object.__init__" ⟨obj :: a :: args,kw⟩) (eN:entryFor table newId=some Bn) (gN:Meets (Bn ⟨.type T :: a :: args,kw⟩) S)
  (h:S A.in1 (wants (fun obj s1=>s1.TypeIs obj T∧R obj s1) E) s):wpAny (model prog w) A (call (.type T) (a :: args) kw) R E s:=by
 obtain⟨c,tl,hmro⟩:=ft.mro
 have hmade:=ft.made
 have hsub:=ft.sub
 refine wpAny_call (codeAny_of_tree ?_)
 show wpAny (model prog w) _ (callAny (.type T) _) _ _ _
 refine wpAny_pure ⟨Code.quiet_builtin _ k!,codeAny_builtin F.entry_type_call ?_⟩
 rw [Around.under_plain (weight_type_call_type T (a :: args) kw) (units_type_call_type T (a :: args) kw)]
 have h1:=ft.notType
 have h2:=ft.canCreate
 repeat (any_goals (first | assumption | wp_step))
 refine codeAny_mono (codeAny_call_builtin ft.plain eN (wpAny_of_eq hcn (gN prog w A.in1 _ s h))) fun r s1 hr=>?_
 cases r with
 | error e=>exact hr
 | ok fl =>
  cases fl with
  | ret obj =>
   obtain⟨hT,hq⟩:=hr
   have hli:=ft.init.lookup
   have hbi:=ft.init.bind obj
   repeat (any_goals (first | assumption | wp_step))
   have gi:Meets (Builtin.«object.__init__» ⟨obj :: a :: args,kw⟩) (fun _ R s=>s.TypeIs obj T∧R (.ok (.ret .none)) s):=by
    refine Meets.of_wp fun prog w A R s hs=>?_
    obtain⟨hT,hq⟩:=hs
    have hm:=ft.made
    have hl:=ft.init.lookup
    repeat (any_goals (first | assumption | wp_step))
    exact⟨_,rfl,hq⟩
   refine codeAny_mono (codeAny_call_builtin ft.init.plain F.entry_object_init (ft.init.check _ _ _ _ _ _ _ _ hT (hok obj) (gi prog w A.in1 (wants (fun r s2=>r=.none∧R obj s2) E) s1 ⟨hT,rfl,hq⟩))) fun r2 s2 hr2=>?_
   cases r2 with
   | error e=>exact hr2
   | ok fl2 =>
    cases fl2 with
    | ret r =>
     obtain⟨rfl,hq⟩:=hr2
     repeat (any_goals (first | assumption | wp_step))
    | _=>exact hr2.elim
  | _=>exact hr.elim
theorem sZ (a v:Value):checkTypeCall "enumerate" ⟨[a],[("start",v)]⟩=pure ():=by kernel_rfl
theorem tD (a v:Value):checkBuiltinCall "enumerate.__new__" ⟨[.type "enumerate",a],[("start",v)]⟩=pure ():=by kernel_rfl
theorem tE (o a v:Value):argsOk "object.__init__" ⟨[o,a],[("start",v)]⟩:=by unfold argsOk;kernel_rfl
theorem rn {l:Addr} {vs:Array Value} {t:Tok} {R:Value→Shared→Prop} (hL:s.heap.IsList l vs)
  (k:∀g,IsEnum g (s.heap.objs.size + 1) s.heap.objs.size 1 .none→g.IsListIter s.heap.objs.size l 0→(∀b o,s.heap.get? b=some o→g.get? b=some o)→R (.ref (s.heap.objs.size + 1)) { s with heap:=g }) :
  wpAny (model prog w) A (call (.type "enumerate") [.ref l] [("start",.int 1 t)]) R E s:=by
 refine sY F.called_enumerate (by decide) (sZ _ _) (tD _ _) (fun o=>tE o _ _) F.entry_enumerate_new (uJ l vs t) ⟨hL,?_⟩
 have hz:(s.heap.push { cls:=.type "list_iterator",data:=.fields #[.ref l,.int 0 0] }).objs.size=s.heap.objs.size + 1:=Heap.size_push ..
 have he:=Heap.get?_push_size (s.heap.push { cls:=.type "list_iterator",data:=.fields #[.ref l,.int 0 0] }) (o:={ cls:=.type "enumerate",data:=.fields #[.none,.bool false,.ref s.heap.objs.size,rawInt 1,.none,.none] }) rfl
 show _∧_
 rw [hz] at he ⊢
 exact⟨⟨_,he,rfl⟩,k _ he ⟨_,Heap.get?_push_of_some _ (Heap.get?_push_size _ rfl),rfl,rfl⟩ fun b o q=>Heap.get?_push_of_some _ (Heap.get?_push_of_some _ q)⟩
theorem rA {l:Addr} {vs:Array Value} {t:Tok} {R:Value→Shared→Prop} (hL:s.heap.IsTuple l vs)
  (k:∀g,IsEnum g (s.heap.objs.size + 1) s.heap.objs.size 1 .none→g.IsTupleIter s.heap.objs.size l 0→(∀b o,s.heap.get? b=some o→g.get? b=some o)→R (.ref (s.heap.objs.size + 1)) { s with heap:=g }) :
  wpAny (model prog w) A (call (.type "enumerate") [.ref l] [("start",.int 1 t)]) R E s:=by
 refine sY F.called_enumerate (by decide) (sZ _ _) (tD _ _) (fun o=>tE o _ _) F.entry_enumerate_new (uK l vs t) ⟨hL,?_⟩
 have hz:(s.heap.push { cls:=.type "tuple_iterator",data:=.fields #[.ref l,.int 0 0] }).objs.size=s.heap.objs.size + 1:=Heap.size_push ..
 have he:=Heap.get?_push_size (s.heap.push { cls:=.type "tuple_iterator",data:=.fields #[.ref l,.int 0 0] }) (o:={ cls:=.type "enumerate",data:=.fields #[.none,.bool false,.ref s.heap.objs.size,rawInt 1,.none,.none] }) rfl
 show _∧_
 rw [hz] at he ⊢
 exact⟨⟨_,he,rfl⟩,k _ he ⟨_,Heap.get?_push_of_some _ (Heap.get?_push_size _ rfl),rfl,rfl⟩ fun b o q=>Heap.get?_push_of_some _ (Heap.get?_push_of_some _ q)⟩
end
end L2
set_option maxHeartbeats 400000
namespace L2
open PySem PySem.Spec PyProof.Rows
noncomputable def rB (S:Hp→Addr→List V→Prop) (a:Addr) (k:Nat):It :=
 ⟨fun i H=>∃xs x,S H a xs∧xs[i]? = some x,fun i H x H'=>∃t y,x=.ref t∧H t=none∧H'=upd H t (.tup [.int (((k + i:Nat)):Int),y])∧∀xs,S H a xs→xs[i]? = some y,fun i H=>∃xs,S H a xs∧xs.length=i⟩
section
variable {X:Cx} {pins:List (Addr×Obj)} {σ:St} {H:Hp} {s:Shared}
theorem Inv.pair {e it t:Addr} {g:Heap} {tk:Nat} {o:HO} (I:Inv X pins σ H s) (fe:iI X pins H e) (fi:iI X pins H it) (ht:s.heap.objs.size≤t)
  (k:∀b o,b≠e→b≠it→s.heap.get? b=some o→g.get? b=some o) (new:ObjOk X.prog X.w (upd H t o) g t o):Inv X pins σ (upd H t o) { s with heap:=g,toks:=tk }:=by
 have hn:H t=none:=I.hok.fresh ht
 obtain⟨e0,e1,e2,e3,e4,e5⟩:=fe
 obtain⟨i0,i1,i2,i3,i4,i5⟩:=fi
 have nt:∀b o,s.heap.get? b=some o→b≠t:=fun b o q z=>by
  subst z
  exact absurd (Nat.lt_of_lt_of_le (Heap.lt_size q) ht) (Nat.lt_irrefl _)
 have nch:∀b,b∉[e,it]→b≠e∧b≠it:=fun b hb=>⟨fun z=>hb (by simp [z]),fun z=>hb (by simp [z])⟩
 have ne:∀b u,H b=some u→b≠e∧b≠it:=fun b u q=>⟨aH q e0,aH q i0⟩
 refine I.step (g':=s.gens) (d':=s.drawn) (ch:=[e,it]) (fun b hb=>?_) (fun b o _ _ hc q _=>k b o (nch b hc).1 (nch b hc).2 q) (fun b o _ _ hc q _=>⟨o.slots,k b o (nch b hc).1 (nch b hc).2 q⟩) (fun b o _ q n=>by rw [aG (nt b o q)];exact n)
  (fun b o hc q=>⟨o,k b o (nch b hc).1 (nch b hc).2 q⟩) (fun b xs q=>by rw [aG (aH q hn)];exact q) (fun b o u q=>by rw [aG (aH q hn)];exact q) (fun b ps q=>⟨#[],by rw [aG (aH q hn),q];simp⟩) (fun m hm=>?_) (fun b u q=>?_) I.bare
 ·rcases List.mem_cons.mp hb with z | z
  ·subst z;exact⟨e3,e1,e4,e5⟩
  ·have z':b=it:=by simpa using z
   subst z'; exact⟨i3,i1,i4,i5⟩
 ·obtain⟨ol,es,ep,ho,r⟩:=hm
  exact⟨ol,es,ep,k _ ol (Ne.symm e1) (Ne.symm i1) ho,r⟩
 ·by_cases hb:b=t
  ·subst hb;rw [aj] at q;cases q;exact new
  ·rw [aG hb] at q
   refine (I.hok b u q).stay (fun c v hc z=>k c v ?_ ?_ z) (fun c z=>by rw [aG (aH z hn)];exact z) fun c xs z=>by rw [aG (aH z hn)];exact z
   ·rcases hc with z' | z'
    ·rw [z'];exact (ne b u q).1
    ·exact (ne c _ z').1
   ·rcases hc with z' | z'
    ·rw [z'];exact (ne b u q).2
    ·exact (ne c _ z').2
end
structure SrcOk (P:Program) (w:World) (K:PySem.W.Frag) (S:Hp→Addr→List V→Prop) (a it:Addr) (sq:Heap→Array Value→Prop) (ti:Nat→Heap→Prop):Prop where
 obj:∀i h,ti i h→∃o,h.get? it=some o∧∀v,o.data≠.cell v
 keep:∀i h h',ti i h→(∀o,h.get? it=some o→h'.get? it=some o)→ti i h'
 sk:∀h h' vs,sq h vs→(∀o,h.get? a=some o→h'.get? a=some o)→sq h' vs
 ne:∀h vs i,sq h vs→ti i h→a≠it
 nee:∀h vs e j old,sq h vs→IsEnum h e it j old→a≠e
 abs:∀ (X:Cx) (pins:List (Addr×Obj)) (σ:St) (H:Hp) (s:Shared) (xs:List V),X.K=K→Inv X pins σ H s→S H a xs→∃its:List Value,Vals xs its∧sq s.heap its.toArray
 one:∀ (X:Cx) (pins:List (Addr×Obj)) (σ:St) (H:Hp) (s:Shared) (xs ys:List V),X.K=K→Inv X pins σ H s→S H a xs→S H a ys→xs=ys
 item:∀ (A:Around) (i:Nat) (s:Shared) (vs:Array Value) (u:Value) (Q:Value→Shared→Prop) (E:Value→Shared→Prop),ti i s.heap→sq s.heap vs→vs[i]? = some u →
  (∀g,ti (i + 1) g→Heap.SameBut it s.heap g→Q u { s with heap:=g })→wpAny (model P w) A (Builtin.SmallTypes.nextOf (.ref it)) Q E s
 done:∀ (A:Around) (i:Nat) (s:Shared) (vs:Array Value) (Q:Value→Shared→Prop) (E:Value→Shared→Prop),A.handled=none→ti i s.heap→sq s.heap vs→vs[i]? = none →
  (∀g e,Heap.ExtBut it s.heap g→(∃o,g.get? e=some o∧o.cls=.type "StopIteration")→E (.ref e) { s with heap:=g })→wpAny (model P w) A (Builtin.SmallTypes.nextOf (.ref it)) Q E s
theorem src_list {P:Program} {w:World} {K:PySem.W.Frag} (a it:Addr):SrcOk P w K (SqL K) a it (fun h vs=>h.IsList a vs) (fun i h=>h.IsListIter it a i) where
 obj:=fun i h st=>by
  obtain⟨o,e,c,d⟩:=st
  exact⟨o,e,fun v z=>by rw [d] at z;cases z⟩
 keep:=fun i h h' st k=>st.at k
 sk:=fun h h' vs q k=>q.at k
 ne:=fun h vs i q st z=>by
  obtain⟨o,e,c,_⟩:=q
  obtain⟨o',e',c',_⟩:=st
  rw [z,e'] at e
  cases e
  rw [c'] at c
  exact absurd (Value.type.inj c) (by decide)
 nee:=fun h vs e j old q en z=>by
  obtain⟨o,q,c,_⟩:=q
  subst z
  rw [show h.get? a=_ from en] at q
  cases q
  exact absurd (Value.type.inj c) (by decide)
 abs:=fun X pins σ H s xs hK I hq=>by
  subst hK
  obtain⟨its,rv,p,hz⟩:=I.list hq
  exact⟨its,rv,p.isList⟩
 one:=fun X pins σ H s xs ys hK I h1 h2=>by subst hK;exact I.list_inj h1 h2
 item:=fun A i s vs u Q E st q hx k=>wpAny_nextOf_list_item st q hx k
 done:=fun A i s vs Q E hh st q hx k=>wpAny_nextOf_list_end hh st q hx k
theorem Ae {P:Program} {w:World} {K:PySem.W.Frag} (a it:Addr):SrcOk P w K (SqT K) a it (fun h vs=>h.IsTuple a vs) (fun i h=>h.IsTupleIter it a i) where
 obj:=fun i h st=>by
  obtain⟨o,e,c,d⟩:=st
  exact⟨o,e,fun v z=>by rw [d] at z;cases z⟩
 keep:=fun i h h' st k=>by
  obtain⟨o,e,r⟩:=st
  exact⟨o,k o e,r⟩
 sk:=fun h h' vs q k=>by
  obtain⟨o,e,r⟩:=q
  exact⟨o,k o e,r⟩
 ne:=fun h vs i q st z=>by
  obtain⟨o,e,c,_⟩:=q
  obtain⟨o',e',c',_⟩:=st
  rw [z,e'] at e
  cases e
  rw [c'] at c
  exact absurd (Value.type.inj c) (by decide)
 nee:=fun h vs e j old q en z=>by
  obtain⟨o,q,c,_⟩:=q
  subst z
  rw [show h.get? a=_ from en] at q
  cases q
  exact absurd (Value.type.inj c) (by decide)
 abs:=fun X pins σ H s xs hK I hq=>by
  subst hK
  obtain⟨its,rv,p,hz⟩:=I.tuple hq
  exact⟨its,rv,p⟩
 one:=fun X pins σ H s xs ys hK I h1 h2=>by subst hK;exact I.tuple_inj h1 h2
 item:=fun A i s vs u Q E st q hx k=>rm st q hx k
 done:=fun A i s vs Q E hh st q hx k=>jY hh st q hx k
theorem SrcOk.draws {P:Program} {w:World} {K:PySem.W.Frag} {S:Hp→Addr→List V→Prop} {a it:Addr} {sq:Heap→Array Value→Prop} {ti:Nat→Heap→Prop} (O:SrcOk P w K S a it sq ti) {A:Around} (hh:A.handled=none) (k:Nat) (vs:Array Value) :
  Draws P w A it [it,a] (k + vs.size) (fun j y=>∃i,j=k + i∧vs[i]? = some y) (fun j h=>∃i,j=k + i∧ti i h∧sq h vs) where
 live:=fun j h q=>by
  obtain⟨i,_,st,_⟩:=q
  obtain⟨o,e,_⟩:=O.obj i h st
  exact⟨o,e⟩
 frame:=fun j h h' q kk=>by
  obtain⟨i,e,st,sv⟩:=q
  exact⟨i,e,O.keep i h h' st fun o z=>kk it (by simp) o z,O.sk h h' vs sv fun o z=>kk a (by simp) o z⟩
 item:=fun j s Q E hj q kq=>by
  obtain⟨i,rfl,st,sv⟩:=q
  have hi:i < vs.size:=by lia
  refine O.item A i s vs vs[i] Q E st sv (by simp [hi]) fun g st' sb=>?_
  exact kq _ g s.toks ⟨i,rfl,by simp [hi]⟩ ⟨i + 1,by lia,st',O.sk _ _ vs sv fun o z=>(sb.2 a (O.ne _ vs i sv st)).trans z⟩ sb
 done:=fun s Q E q kq=>by
  obtain⟨i,hi,st,sv⟩:=q
  have:i=vs.size:=by lia
  subst this
  exact O.done A _ s vs Q E hh st sv (by simp) kq
theorem uL {P:Program} {w:World} {K:PySem.W.Frag} {S:Hp→Addr→List V→Prop} {elts:List Expr} {x1:Nat} {tp:Pos} (a e it:Addr) (k:Nat) (hei:e≠it) {sq:Heap→Array Value→Prop} {ti:Nat→Heap→Prop} (O:SrcOk P w K S a it sq ti) :
  Turn P w K (.Tuple elts x1 tp) (rB S a k) [e,it] e (fun i h=>(∃old,IsEnum h e it (((k + i:Nat)):Int) old)∧ti i h) where
 mem:=by simp
 obj:=fun i h st b hb=>by
  obtain⟨⟨old,he⟩,st⟩:=st
  rcases List.mem_cons.mp hb with z | z
  ·subst z
   exact⟨_,he,fun v z=>by
    have z':Data.fields _=Data.cell v:=z
    cases z'⟩
  ·have z':b=it:=by simpa using z
   subst z'
   exact O.obj i h st
 keep:=fun i h h' st kk=>by
  obtain⟨⟨old,he⟩,st⟩:=st
  exact⟨⟨old,kk e (by simp) _ he⟩,O.keep i h h' st fun o q=>kk it (by simp) o q⟩
 item:=by
  intro X hP hw hK hc i pins s σ H E I hf st hg
  obtain⟨⟨old,he⟩,st⟩:=st
  obtain⟨xs,x,hq,hx⟩:=hg
  have fe:=hf e (by simp)
  have fi:=hf it (by simp)
  obtain⟨its,rv,sv⟩:=O.abs X pins σ H s xs hK I hq
  obtain⟨u,hu,ru⟩:=rv.get hx
  have hlt:i < its.toArray.size:=by
   rw [List.size_toArray]
   exact (List.getElem?_eq_some_iff.mp hu).1
  have hef:e∉[it,a]:=fun z=>by
   rcases List.mem_cons.mp z with z | z
   ·exact hei z
   ·exact O.nee _ _ _ _ _ sv he (by simpa using z:e=a).symm
  have hel:e < s.heap.objs.size:=Heap.lt_size he
  have hil:it < s.heap.objs.size:=by obtain⟨o,q,_⟩:=O.obj i _ st;exact Heap.lt_size q
  refine wpAny_pyNext_enum_itemD (O.draws (A:=X.A.in1) (I.ok.hd hc) k its.toArray) he ⟨i,rfl,st,sv⟩ (by lia) hei hef fun y g tk hy ho hst hT hsz hk=>?_
  obtain⟨i',e1,hy⟩:=hy
  have e2:i'=i:=by lia
  subst e2
  have e3:y=u:=by
   have hu':its.toArray[i']? = some u:=by simpa using hu
   rw [hu'] at hy
   exact (Option.some.inj hy).symm
  subst e3
  refine⟨_,rfl,wpAny_letOwnedTupleGo_enum ho fun g2 he2 hs2=>?_⟩
  have nse:s.heap.objs.size≠e:=Nat.ne_of_gt hel
  have hT2:g2.get? s.heap.objs.size=some { cls:=.type "tuple",data:=.seq #[.int ((k + i':Nat):Int) tk,y] }:=(hs2.2 _ nse).trans hT
  have I2:Inv X pins σ (upd H s.heap.objs.size (.tup [.int (((k + i':Nat)):Int),x])) { s with heap:=g2,toks:=tk + 1 }:=by
   refine I.pair fe fi (Nat.le_refl _) (fun b o h1 h2 q=>(hs2.2 b h1).trans (hk b o h1 h2 q)) ?_
   exact⟨by show 2≤sizeLine;decide,[.int ((k + i':Nat):Int) tk,y],.cons ⟨tk,rfl⟩ (.cons ru .nil),⟨_,hT2,rfl,0,rfl⟩⟩
  obtain⟨i2,e4,st2,_⟩:=hst
  have e5:i2=i' + 1:=by lia
  subst e5
  refine⟨.ref s.heap.objs.size,_,I2,rfl,⟨_,x,rfl,I.fresh,rfl,fun ys hys=>?_⟩,⟨⟨y,?_⟩,O.keep _ _ _ st2 fun o q=>(hs2.2 it (Ne.symm hei)).trans q⟩,fun b hb=>?_⟩
  ·rw [O.one X pins σ H s ys xs hK I hys hq]
   exact hx
  ·have:(((k + (i' + 1):Nat)):Int)=((k + i':Nat):Int) + 1:=by lia
   rw [this]
   exact he2
  ·rcases List.mem_cons.mp hb with z | z
   ·subst z
    rw [aG (Ne.symm nse)]
    exact fe.1
   ·have z':b=it:=by simpa using z
    subst z'
    rw [aG (Nat.ne_of_lt hil)]
    exact fi.1
 done:=by
  intro X hP hw hK hc i pins s σ H E I hf st hg
  obtain⟨⟨old,he⟩,st⟩:=st
  obtain⟨xs,hq,hx⟩:=hg
  obtain⟨its,rv,sv⟩:=O.abs X pins σ H s xs hK I hq
  have hl:=rv.length
  obtain⟨f0,f1,f2,f3,f4,f5⟩:=hf it (by simp)
  exact wpAny_pyNext_enum_endD (O.draws (A:=X.A.in1) (I.ok.hd hc) k its.toArray) he ⟨i,by simp;lia,st,sv⟩ fun g eb=>⟨rfl,I.turned (t':=s.toks) (fun b o hb q=>eb b o hb q) f0 f1 f3 f4 f5⟩
 self:=fun A i s Q E st h=>by
  obtain⟨⟨old,he⟩,st⟩:=st
  exact wpAny_pyIter_enum he h
theorem dD {S:Hp→Addr→List V→Prop} {a:Addr} {k:Nat} {xs:List V} {σ:St} {H:Hp} {DN:St→Hp→Prop} {B:(St→Hp→Prop)→V→St→Hp→Prop} (Pv:Nat→St→Hp→Prop) (h0:Pv 0 σ H)
  (hl:∀i σ H,i≤xs.length→Pv i σ H→S H a xs)
  (hs:∀i x σ H t,xs[i]? = some x→Pv i σ H→H t=none→B (Pv (i + 1)) (.ref t) σ (upd H t (.tup [.int (((k + i:Nat)):Int),x]))) (hd:∀σ H,Pv xs.length σ H→DN σ H) :
  ∃W:Nat→Nat→St→Hp→Prop,(∃m,W 0 m σ H)∧∀i m σ H,W i m σ H →
   ((rB S a k).stop i H∧DN σ H)∨((rB S a k).go i H∧∃N:St→Hp→Prop,(∀σ' H',N σ' H'→∃m',m' < m∧W (i + 1) m' σ' H')∧∀x H',(rB S a k).yld i H x H'→B N x σ H'):=by
 refine⟨fun i m σ H=>m=xs.length - i∧i≤xs.length∧Pv i σ H,⟨xs.length,by simp,Nat.zero_le _,h0⟩,?_⟩
 rintro i m σ H ⟨rfl,hi,p⟩
 have q:=hl i σ H hi p
 by_cases hlt:i < xs.length
 ·refine .inr ⟨⟨xs,xs[i],q,by simp [hlt]⟩,Pv (i + 1),fun σ' H' p'=>⟨xs.length - (i + 1),by omega,rfl,hlt,p'⟩,fun x H' y=>?_⟩
  obtain⟨t,y,e,ht,e',hy⟩:=y
  subst e e'
  exact hs i y σ _ t (hy xs q) p ht
 ·have e:i=xs.length:=by lia
  subst e
  exact .inl ⟨⟨xs,q,rfl⟩,hd σ H p⟩
noncomputable def Af (K:PySem.W.Frag) (k:Nat) (te:TE):TI:=fun σ H R=>te σ H fun x H1=>∃a,x=.ref a∧(∃xs,SqL K H1 a xs)∧R (rB (SqL K) a k) H1
noncomputable def Hu (K:PySem.W.Frag) (k:Nat) (te:TE):TI:=fun σ H R=>te σ H fun x H1=>∃a,x=.ref a∧(∃xs,SqT K H1 a xs)∧R (rB (SqT K) a k) H1
section
variable {X:Cx} {elts:List Expr} {x1:Nat} {tp:Pos}
theorem jZ {S:Hp→Addr→List V→Prop} {sq:Heap→Array Value→Prop} {ti:Nat→Heap→Prop} {pins:List (Addr×Obj)} {σ:St} {H:Hp} {s:Shared} {R:It→Hp→Prop} {E:Value→Shared→Prop} {a:Addr} {k:Nat} {g:Heap} {c:Int} (I:Inv X pins σ H s)
  (O:SrcOk X.prog X.w X.K S a s.heap.objs.size sq ti) (hc:c=(k:Int)) (he:IsEnum g (s.heap.objs.size + 1) s.heap.objs.size c .none) (hi:ti 0 g) (hk:∀b o,s.heap.get? b=some o→g.get? b=some o) (q:R (rB S a k) H) :
  wpAny (model X.prog X.w) X.A (pyIter (.ref (s.heap.objs.size + 1))) (PIE X pins σ (.Tuple elts x1 tp) R) E { s with heap:=g }:=by
 subst hc
 refine wpAny_pyIter_enum he ⟨s.heap.objs.size + 1,[s.heap.objs.size + 1,s.heap.objs.size],_,_,H,rfl,I.kept (t':=s.toks) hk,uL a _ _ k (Nat.succ_ne_self _) O,⟨⟨_,he⟩,hi⟩,fun b hb=>?_,q⟩
 rcases List.mem_cons.mp hb with z | z
 ·subst z
  exact I.fpOk (Nat.le_succ _) (I.hok.fresh (Nat.le_succ _))
 ·have z':b=s.heap.objs.size:=by simpa using z
  subst z'
  exact I.fpOk (Nat.le_refl _) (I.hok.fresh (Nat.le_refl _))
theorem dg {e:Expr} {te:TE} {p pos:Pos} (hg:Gl X "enumerate") (hm:X.mg "enumerate" = none) (he:PE X e te) (hs:starEach [e] X.env=[(false,eval e X.env)]:=by rfl):PI X (.Tuple elts x1 tp) (.Call (.Name "enumerate" p) [e] [] pos) (Af X.K 0 te):=by
 intro pins s σ H R I h
 refine Call_ (ir I hg hm boot_enumerate (PyProof.Rows.callWith_type1 ?_ hs rfl))
 rw [hs]
 refine Calls.spliced_cons (thn (he pins s σ H _ I h) fun v s1 ⟨x,H1,I1,rx,q1⟩=>Calls.spliced_nil ?_)
 obtain⟨a,rfl,⟨xs,hq⟩,q⟩:=q1
 cases rx
 obtain⟨its,rv,pl,_⟩:=I1.list hq
 exact call_enumerate_list pl.isList fun g e1 e2 _ hk=>jZ I1 (src_list a _) rfl e1 e2 hk q
theorem nT {M:Model} {A:Around} {E:Value→Shared→Prop} {s:Shared} {env:Env} {pos:Pos} {T:String} {x:Sem Value} {rest:List (Bool×Sem Value)} {kws:List (Option Str×Sem Value)} {Q:Value→Shared→Prop} (h1:rest.any (·.1)=false) (h2:kws.all (·.1.isSome)=true) (h3:kws.any (·.1.isNone)=false)
  (h:wpAny M A (spliced ((false,x) :: rest)) (fun vs s1=>wpAny M A (evalAll (kws.map (·.2))) (fun ks s2=>wpAny M A (call (.type T) vs ((kws.filterMap (·.1)).zip ks)) Q E s2) E s1) E s):wpAny M A (callWith pos (.type T) [] ((false,x) :: rest) kws) Q E s:=by
 unfold callWith
 refine wpAny_bind (wpAny_holding (wpAny_mono (evalArgs_kwB h2 (Q:=fun a s1=>wpAny M A (call (.type T) ([] ++ a.pos) a.kw) Q E s1) h) (fun a s1 z=>wpAny_bind (wpAny_standAt ?_)) fun _ _ z=>z))
 simp only [List.any_cons,h1,h3,Bool.or_false,Bool.false_or]
 exact wpAny_bind (wpAny_pure (wpAny_bind (wpAny_mono z (fun r s2 hr=>wpAny_bind (wpAny_holding (wpAny_point (wpAny_pure hr)))) fun _ _ z=>z)))
theorem j4 {e:Expr} {te:TE} {p pos kp ip:Pos} {j:Nat} {pins:List (Addr×Obj)} {s:Shared} {σ:St} {H:Hp} {Q:VK} {R:Value→Shared→Prop} (hg:Gl X "enumerate") (hm:X.mg "enumerate" = none) (he:PE X e te) (hs:starEach [e] X.env=[(false,eval e X.env)])
  (I:Inv X pins σ H s) (h:te σ H Q) (k:∀x v H1 s1 t,Inv X pins σ H1 s1→RelV x v→Q x H1→wpAny (model X.prog X.w) X.A (call (.type "enumerate") [v] [("start",.int 1 t)]) R X.xe s1) :
  wpAny (model X.prog X.w) X.A (eval (.Call (.Name "enumerate" p) [e] [⟨some "start",.Constant (.int 1) j ip,kp⟩] pos) X.env) R X.xe s:=by
 refine wpAny_Call_Name_kw (ir I hg hm boot_enumerate ?_)
 rw [hs]
 refine nT (env:=X.env) (rest:=[]) rfl rfl rfl ?_
 refine Calls.spliced_cons (thn (he pins s σ H Q I h) fun v s1 ⟨x,H1,I1,rx,q⟩=>Calls.spliced_nil ?_)
 refine kws_cons (wpAny_Constant_int (kws_nil ?_))
 exact k x v H1 _ _ (I1.tok _) rx q
theorem lH {e:Expr} {te:TE} {p pos kp ip:Pos} {j:Nat} (hg:Gl X "enumerate") (hm:X.mg "enumerate" = none) (he:PE X e te) (hs:starEach [e] X.env=[(false,eval e X.env)]:=by rfl):PI X (.Tuple elts x1 tp) (.Call (.Name "enumerate" p) [e] [⟨some "start",.Constant (.int 1) j ip,kp⟩] pos) (Af X.K 1 te):=by
 intro pins s σ H R I h
 refine j4 hg hm he hs I h fun x v H1 s1 t I1 rx q1=>?_
 obtain⟨a,rfl,⟨xs,hq⟩,q⟩:=q1
 cases rx
 obtain⟨its,rv,pl,_⟩:=I1.list hq
 exact rn pl.isList fun g e1 e2 hk=>jZ I1 (src_list a _) rfl e1 e2 hk q
theorem nU {e:Expr} {te:TE} {p pos kp ip:Pos} {j:Nat} (hg:Gl X "enumerate") (hm:X.mg "enumerate" = none) (he:PE X e te) (hs:starEach [e] X.env=[(false,eval e X.env)]:=by rfl):PI X (.Tuple elts x1 tp) (.Call (.Name "enumerate" p) [e] [⟨some "start",.Constant (.int 1) j ip,kp⟩] pos) (Hu X.K 1 te):=by
 intro pins s σ H R I h
 refine j4 hg hm he hs I h fun x v H1 s1 t I1 rx q1=>?_
 obtain⟨a,rfl,⟨xs,hq⟩,q⟩:=q1
 cases rx
 obtain⟨its,rv,pl,_⟩:=I1.tuple hq
 exact rA pl fun g e1 e2 hk=>jZ I1 (Ae a _) rfl e1 e2 hk q
end
structure fM (P:Program) (w:World) (K:PySem.W.Frag) (mg:Str→Option Value) (base:Heap) (x:Str) (C:Addr) (ps:List Str) (k:Nat) (sp:Sp):Prop where
 ex:∃ (f:Addr) (fd:FuncData),bA P w K mg base CX0 k f fd ps sp∧Binds K fd ps []∧Mk K C f∧mg x=some (.ref C)
structure cU (P:Program) (w:World) (K:PySem.W.Frag) (mg:Str→Option Value) (base:Heap) (C:Addr) (m:Str) (ps:List Str) (k:Nat) (sp:Sp):Prop where
 ex:∃ (f:Addr) (fd:FuncData),bA P w K mg base CX0 k f fd ps sp∧Binds K fd ps []∧Meth K C m f∧Cls K C
theorem dG {X:Cx} {x:Str} {C:Addr} {ps:List Str} {k:Nat} {sp:Sp} {e:Expr} {es:List Expr} {t:TA} {p pos:Pos} (c:fM X.prog X.w X.K X.mg X.base x C ps k sp) (hr:Room (k + 1) X.A) (hg:Gl X x) (ha:PA X (e :: es) t)
  (hdb:(x == ("__debug__":Str))=false:=by decide) (he:starEach (e :: es) X.env=(false,eval e X.env) :: starEach es X.env:=by rfl) (hpl:(backTo pos (starEach es X.env)).any (·.1)=false:=by rfl) :
  PE X (.Call (.Name x p) (e :: es) [] pos) (xj C sp [] E0 t):=by
 obtain⟨f,fd,F,b,m,hm⟩:=c.ex
 exact zG m F hr hg hm b .nil xK ha hdb he hpl
theorem bT {X:Cx} {m:Str} {C:Addr} {ps:List Str} {k:Nat} {sp:Sp} {o e:Expr} {es:List Expr} {ta:TE} {t:TA} {apos pos:Pos} {pl:Sem Bool} (c:cU X.prog X.w X.K X.mg X.base C m ps k sp) (hr:Room k X.A) (ho:PE X o ta) (ha:PA X (e :: es) t)
  (he:starEach (e :: es) X.env=(false,eval e X.env) :: starEach es X.env:=by rfl) (hpl:(backTo pos (starEach es X.env)).any (·.1)=false:=by rfl)
  (ht:eval (.Call (.Attribute o m apos) (e :: es) [] pos) X.env=(do
   let v←eval o X.env
   standAt apos.atName
   let (g,first)←holding [v] (getMethod v m pl)
   callWith pos g first (backTo pos (starEach (e :: es) X.env)) (backToKw pos (keywordEach [] X.env))):=by rfl):PE X (.Call (.Attribute o m apos) (e :: es) [] pos) (xg C m sp [] E0 ta t):=by
 obtain⟨f,fd,F,b,hm,cl⟩:=c.ex
 exact zF ho cl hm F hr b .nil xK ha he hpl ht
theorem gm {X:Cx} {x:Str} {n:Int} {pos:Pos} (hg:Gl X x) (hm:∃tk,X.mg x=some (.int n tk)) (hd:(x == ("__debug__":Str))=false:=by decide):PE X (.Name x pos) (tC (.int n)):=by
 obtain⟨tk,hm⟩:=hm
 exact zp hg hm ⟨tk,rfl⟩ hd
noncomputable def Ag:V→List V→Hp→VK→Prop:=fun x vs H Q=>∃l xs i y,x=.ref l∧vs=[.int i,y]∧H l=some (.lst xs)∧0≤i∧i≤xs.length∧xs.length < sizeLine∧Q .non (upd H l (.lst (xs.take i.toNat ++ y :: xs.drop i.toNat)))
end L2
namespace L2
open PySem PySem.Spec PyProof.Rows
section
variable {X:Cx} {K:PySem.W.Frag}
theorem iK (hK:X.K=K):IxR X (Do K):=by subst hK;exact cD
theorem cP (hK:X.K=K):IxR X (Dp K):=by subst hK;exact bI
theorem jH {es:List Expr} {k:Nat} {t:TGs} {n:Nat} {pos:Pos} (hK:X.K=K) (hc:X.calm=true) (h:PGs X es t) (hn:(assignEach es X.env).length=n:=by rfl) (hst:(assignEach es X.env).findIdx? (·.1)=none:=by rfl):PG X (.Tuple es k pos) (Dh K n t):=by
 subst hK;exact cL hc h hn hst
noncomputable def Hv (K:PySem.W.Frag):List V→Hp→VK→Prop:=fun xs H Q=>∃p ys,xs=[.ref p]∧(SqL K H p ys∨SqT K H p ys)∧Q (.int ys.length) H
theorem bC (hK:X.K=K):dC X (.builtin "len") (Hv K):=by subst hK;exact nJ
noncomputable def tG (K:PySem.W.Frag):List V→Hp→VK→Prop:=fun xs H Q=>∃p ys,xs=[.ref p]∧(SqL K H p ys∨SqT K H p ys)∧∀l,H l=none→Q (.ref l) (upd H l (.lst ys))
theorem rC (hK:X.K=K):dC X (.type "list") (tG K):=by subst hK;exact nM
noncomputable def BW (K:PySem.W.Frag):List V→Hp→VK→Prop:=fun xs H Q=>∃p ys,xs=[.ref p]∧SqL K H p ys∧∀l,H l=none→Q (.ref l) (upd H l (.tup ys))
theorem cQ (hK:X.K=K):dC X (.type "tuple") (BW K):=by
 subst hK
 intro pins s σ H xs us Q I r h
 obtain⟨p,ys,e,hs,q⟩:=h
 exact lG pins s σ H xs us Q I r ⟨p,ys,e,.inl ⟨hs,q⟩⟩
end
theorem SqL.off {K:PySem.W.Frag} {H:Hp} {a x:Addr} {xs:List V} {o:HO} (h:SqL K H a xs) (h1:∀ys,H x≠some (.lst ys)) (h2:∀v u,H x≠some (.frz v u)):SqL K (upd H x o) a xs:=by
 rcases h with (h | ⟨v,h⟩) | h
 ·have ne:a≠x:=fun z=>h1 _ (z ▸ h)
  exact .inl (.inl (by rw [aG ne];exact h))
 ·have ne:a≠x:=fun z=>h2 _ _ (z ▸ h)
  exact .inl (.inr ⟨v,by rw [aG ne];exact h⟩)
 ·exact .inr h
end L2
namespace L2
theorem aA {t u:TS} {D:Ends} {σ:St} {H:Hp} (h:∀U:TS,U=u→t { D with nx:=U D } σ H):Df t u D σ H:=h u rfl
end L2
set_option maxHeartbeats 4000000
namespace My
open PySem L2
noncomputable def New (H H':Hp) (r:Addr) (xs:List V):Prop:=Same H H'∧H r=none∧H' r=some (.lst xs)
theorem same_new {H:Hp} {p:Addr} (h:H p=none) (o:HO):Same H (upd H p o):=fun b u q=>by rw [aG (aH q h)];exact q
theorem aY {H H':Hp} {p:Addr} (h:H p=none) (g:Same H H') (o:HO):Same H (upd H' p o):=fun b u q=>by rw [aG (aH q h)];exact g b u q
theorem Ah {ns:List Int} {k:Int} (h0:0≤k) (h:k < (ns.length:Int)):∃v:Int,atI (ns.map V.int) k=some (.int v):=by
 have hk:k.toNat < ns.length:=by omega
 have q:atI (ns.map V.int) ((k.toNat:Nat):Int)=some (.int ns[k.toNat]):=cY (by rw [List.getElem?_map,List.getElem?_eq_getElem hk] <;> rfl)
 rw [show ((k.toNat:Nat):Int)=k by lia] at q
 exact⟨_,q⟩
theorem dO {n:Nat} (h:n≤1000):n≤sizeLine:=Nat.le_of_lt (aW h)
noncomputable abbrev Pst:=Int×Int×Int
noncomputable def PostV (H:Hp) (v:V) (q:Pst):Prop:=∃t,v=.ref t∧H t=some (.tup [.int q.1,.int q.2.1,.int q.2.2])
noncomputable def okH (h:Int):Prop:=0≤h∧h < 1073741824
noncomputable def okP (q:Pst):Prop:=(0≤q.1∧q.1 < 1073741824)∧(0≤q.2.1∧q.2.1≤1000000000)∧(0≤q.2.2∧q.2.2≤1)
structure Ok (d:Int) (hs:List Int) (ps:List Pst):Prop where
 d1:1≤d
 d2:d≤31
 h:∀x∈hs,okH x
 hl:hs.length≤8
 p:∀q∈ps,okP q
 pl:ps.length≤6
theorem PostV.mono {H H':Hp} {v:V} {q:Pst} (g:Same H H') (h:PostV H v q):PostV H' v q:=by
 obtain⟨t,e,h⟩:=h
 exact⟨t,e,g _ _ h⟩
noncomputable abbrev Posts (H:Hp):List V→List Pst→Prop:=Paired (PostV H)
theorem Posts.mono {H H':Hp} (g:Same H H') {ts:List V} {ps:List Pst} (h:Posts H ts ps):Posts H' ts ps:=Paired.mapP h fun _ _=>PostV.mono g
theorem Posts.at' {H:Hp} {ts:List V} {ps:List Pst} (h:Posts H ts ps) {i:Nat} {v:V} (e:ts[i]? = some v):∃q,ps[i]? = some q∧PostV H v q:=Paired.get' h e
theorem Posts.len {H:Hp} {ts:List V} {ps:List Pst} (h:Posts H ts ps):ts.length=ps.length:=Paired.length h
theorem Posts.get {H:Hp} {ts:List V} {ps:List Pst} (h:Posts H ts ps) {i:Nat} {q:Pst} (e:ps[i]? = some q):∃t,ts[i]? = some (.ref t)∧H t=some (.tup [.int q.1,.int q.2.1,.int q.2.2]):=by
 have hi:i < ts.length:=by rw [h.len];exact (List.getElem?_eq_some_iff.mp e).1
 have e1:ts[i]? = some ts[i]:=List.getElem?_eq_getElem hi
 obtain⟨q',e2,t,et,ht⟩:=h.at' e1
 rw [e] at e2
 cases e2
 exact⟨t,by rw [e1,et],ht⟩
theorem n1:¬ (("days":Str) = "hands"):=by decide +kernel
theorem n2:¬ (("days":Str) = "posts"):=by decide +kernel
theorem n3:¬ (("hands":Str) = "posts"):=by decide +kernel
noncomputable def wf (d:Int) (h p:Addr):List (Str×V):=bR "posts" (.ref p) (bR "hands" (.ref h) (bR "days" (.int d) []))
theorem eZ (d:Int) (h p:Addr):(wf d h p).lookup ("days":Str)=some (.int d):=by
 unfold wf
 rw [aC,if_neg n2,aC,if_neg n1,aC,if_pos rfl]
theorem iM (d:Int) (h p:Addr):(wf d h p).lookup ("hands":Str)=some (.ref h):=by
 unfold wf
 rw [aC,if_neg n3,aC,if_pos rfl]
theorem gn (d:Int) (h p:Addr):(wf d h p).lookup ("posts":Str)=some (.ref p):=by
 unfold wf
 rw [aC,if_pos rfl]
theorem BX (d:Int) (h p:Addr) {m:Str} (h1:¬ m = "posts") (h2:¬ m = "hands") (h3:¬ m = "days"):(wf d h p).lookup m=none:=by
 unfold wf
 rw [aC,if_neg h1,aC,if_neg h2,aC,if_neg h3]
 all_goals rfl
structure WardAt (C:Addr) (H:Hp) (x:Addr) (d:Int) (hs:List Int) (ps:List Pst):Prop where
 ex:∃dx ha pa ts,H x=some (.ins C dx (wf d ha pa))∧H ha=some (.tup (hs.map V.int))∧H pa=some (.tup ts)∧Posts H ts ps
theorem WardAt.mono {C:Addr} {H H':Hp} {x:Addr} {d:Int} {hs:List Int} {ps:List Pst} (g:Same H H') (w:WardAt C H x d hs ps):WardAt C H' x d hs ps:=by
 obtain⟨dx,ha,pa,ts,h1,h2,h3,h4⟩:=w.ex
 exact⟨dx,ha,pa,ts,g _ _ h1,g _ _ h2,g _ _ h3,h4.mono g⟩
noncomputable def cv (h n:Int):Bool:=decide (Builtin.bitAnd h n=n)
noncomputable def post0:Pst:=(0,0,0)
noncomputable def chI (h:Int) (ps:List Pst) (i:Nat):List Int:=((List.range i).filter fun j=>cv h (ps[j]?.getD post0).1).map fun j:Nat=>(j:Int) + 1
noncomputable def ch (h:Int) (ps:List Pst):List Int:=0 :: chI h ps ps.length
theorem pA (h:Int) (ps:List Pst) (i:Nat):chI h ps (i + 1)=chI h ps i ++ if cv h (ps[i]?.getD post0).1 then [(i:Int) + 1] else []:=by
 unfold chI
 rw [List.range_succ,List.filter_append,List.map_append]
 congr 1
 by_cases e:cv h (ps[i]?.getD post0).1 <;> simp [e]
theorem jJ (h:Int) (ps:List Pst) (i:Nat):(chI h ps i).length≤i:=by
 unfold chI
 rw [List.length_map]
 have:=List.length_filter_le (fun j=>cv h (ps[j]?.getD post0).1) (List.range i)
 simpa using this
theorem j5 (h:Int) (ps:List Pst):(ch h ps).length≤ps.length + 1:=by
 unfold ch
 rw [List.length_cons]
 have:=jJ h ps ps.length
 lia
noncomputable def hrs (ps:List Pst):Nat→Int
 | 0=>0
 | k + 1=>(ps[k]?.getD post0).2.1
noncomputable def ngt (ps:List Pst):Nat→Bool
 | 0=>false
 | k + 1=>decide ((ps[k]?.getD post0).2.2=1)
theorem Paired.getR {α β:Type} {F:α→β→Prop}:∀ {xs:List α} {ys:List β} {i:Nat} {y:β},Paired F xs ys→ys[i]? = some y→∃x,xs[i]? = some x∧F x y
 | _,_,_,_,.nil,e=>by simp at e
 | _,_,0,_,.cons r _,e=>by simp at e;subst e;exact⟨_,rfl,r⟩
 | _,_,i + 1,y,.cons _ t,e=>by
  obtain⟨u,h1,h2⟩:=Paired.getR (i:=i) (y:=y) t (by simpa using e)
  exact⟨u,by simpa using h1,h2⟩
end My
set_option maxHeartbeats 1000000
namespace My
open PySem L2
noncomputable def Dv (H:Hp) (v:V) (row:List Int):Prop:=∃t,v=.ref t∧H t=some (.lst (row.map V.int))
noncomputable abbrev Rows (H:Hp):List V→List (List Int)→Prop:=Paired (Dv H)
theorem Rows.mono {H H':Hp} (g:Same H H') {ts:List V} {rows:List (List Int)} (h:Rows H ts rows):Rows H' ts rows:=Paired.mapP h fun _ _ ⟨t,e,q⟩=>⟨t,e,g _ _ q⟩
theorem Rows.len {H:Hp} {ts:List V} {rows:List (List Int)} (h:Rows H ts rows):ts.length=rows.length:=Paired.length h
theorem Rows.at' {H:Hp} {ts:List V} {rows:List (List Int)} (h:Rows H ts rows) {i:Nat} {v:V} (e:ts[i]? = some v):∃row,rows[i]? = some row∧Dv H v row:=Paired.get' h e
theorem Rows.get {H:Hp} {ts:List V} {rows:List (List Int)} (h:Rows H ts rows) {i:Nat} {row:List Int} (e:rows[i]? = some row):∃t,ts[i]? = some (.ref t)∧H t=some (.lst (row.map V.int)):=by
 obtain⟨v,e1,t,rfl,q⟩:=Paired.getR h e
 exact⟨t,e1,q⟩
theorem Rows.snoc {H:Hp} {ts:List V} {rows:List (List Int)} {v:V} {row:List Int} (h:Rows H ts rows) (hv:Dv H v row):Rows H (ts ++ [v]) (rows ++ [row]):=by
 induction h with
 | nil=>exact .cons hv .nil
 | cons a _ ih=>exact .cons a ih
theorem Rows.off {H:Hp} {ts:List V} {rows:List (List Int)} {l:Addr} {o:HO} (h:Rows H ts rows) (hl:V.ref l∉ts):Rows (upd H l o) ts rows:=by
 induction h with
 | nil=>exact .nil
 | cons a _ ih =>
  obtain⟨t,rfl,q⟩:=a
  have ne:t≠l:=fun z=>hl (by rw [z];exact List.mem_cons_self)
  exact .cons ⟨t,rfl,by rw [aG ne];exact q⟩ (ih fun z=>hl (List.mem_cons_of_mem _ z))
theorem Rows.tracked {H:Hp} {ts:List V} {rows:List (List Int)} (h:Rows H ts rows) {l:Addr} (hl:V.ref l∈ts):∃row:List Int,H l=some (.lst (row.map V.int)):=by
 induction h with
 | nil=>cases hl
 | cons a _ ih =>
  obtain⟨t,rfl,q⟩:=a
  rcases List.mem_cons.mp hl with z | z
  ·cases z
   exact⟨_,q⟩
  ·exact ih z
end My
set_option maxHeartbeats 400000
namespace L2
open PySem PySem.Spec PyProof.Rows
section
variable {P:Program} {w:World} {l:List Env} {H H':Hp} {s s':Shared} {B h'':Heap} {a:Addr} {cls a0:Value}
end
section
variable {X:Cx} {pins:List (Addr×Obj)} {σ:St} {H H':Hp} {s s':Shared} {B:Heap} {a:Addr} {cls a0:Value}
end
section
variable {P:Program} {w:World} {K:PySem.W.Frag} {mg:Str→Option Value} {base:Heap} {N:List Str} {qual:Str} {scope:Scope} {f:Addr} {cd:Value} {A:Around} {outer:List Env} {s₀:Shared} {H₀:Hp} {E:XK}
end
noncomputable def Dw (E:XK) (C:Addr) (ta:TA):TS:=fun _ σ H=>ta σ H fun vs H1=>vs.length≤sizeLine∧E (.ref C) none H1
noncomputable def Dy (sp:Sp) (t:TA):St→Hp→VK→XK→Prop:=fun σ H Q E=>t σ H fun vs H1=>sp (vs ++ []) H1 Q E
noncomputable def Dz (te:St→Hp→VK→XK→Prop):Ends→St→Hp→XK→Prop:=fun D σ H E=>te σ H (fun _ H1=>D.nx σ H1) E
noncomputable def Hw (i:Nat) (te:St→Hp→VK→XK→Prop):Ends→St→Hp→XK→Prop:=fun D σ H E=>te σ H (fun v H1=>D.nx (σ.set i (some v)) H1) E
noncomputable def Hx (C:Addr) (tb:Ends→St→Hp→XK→Prop) (ts to:TS):TS:=fun D σ H=>tb { D with nx:=to D } σ H fun cls _ H'=>cls=.ref C∧ts D σ H'
end L2
set_option maxHeartbeats 1000000
namespace My
open PySem L2
end My
set_option maxHeartbeats 400000
namespace L2
open PySem PySem.Spec PySem.Calls PyProof.Rows
structure Jd (K:PySem.W.Frag) (C:Addr):Prop where
 ga:findIn K (.ref C) "__getattribute__" = some (some (.builtin "BaseException.__getattribute__"))
 cl:findIn K (.ref C) "__class__" = some (some (.builtin "object.__class__"))
 no:findIn K (.ref C) "__getattr__" = some none
 be:mroIn K C (.type "BaseException")=some true
 ob:mroIn K C (.type "object")=some true
section
variable {K:PySem.W.Frag} {prog:Program} {w:World} {A:Around} {E:Value→Shared→Prop} {h:Heap} {g:Array GenState} {d:Drawn} {t:Nat} {os:OsState} {a C:Addr} {o:Obj}
end
noncomputable abbrev Hy (a C:Addr) (h:Heap):Prop:=∃o,h.get? a=some o∧o.cls=.ref C
noncomputable abbrev DG (a C:Addr):HO:=.ext (Hy a C)
noncomputable def vO:V→Value
 | .ref a=>.ref a
 | .ty n=>.type n
 | _=>.none
noncomputable def Je (K:PySem.W.Frag):List V→Hp→VK→Prop:=fun xs H Q=>∃a D c b,xs=[.ref a,c]∧H a=some (DG a D)∧Jd K D∧kitOne K (.ref D) (vO c)=some b∧Q (.bl b) H
noncomputable def Jf (C:Addr):List V→Hp→VK→Prop:=fun xs H Q=>xs.length≤sizeLine∧∀a,H a=none→Q (.ref a) (upd H a (DG a C))
end L2
set_option maxHeartbeats 1000000
namespace My
open PySem L2 PySem.Spec PyProof.Rows
structure Jg (K:PySem.W.Frag) (C:Addr):Prop where
 ha:findIn K (.ref C) "__class__" = some (some (.builtin "object.__class__"))
 hn:specialIn K (.builtin "object.__class__") "__get__" = some (some (.builtin "getset_descriptor.__get__"))
 htk:takesIn K (.builtin "object.__class__")=some true
 hm:mroIn K C (.type "object")=some true
noncomputable def Jh (K:PySem.W.Frag):List V→Hp→VK→Prop:=fun xs H Q=>∃a C dx fs c b,xs=[.ref a,c]∧H a=some (.ins C dx fs)∧Cls K C∧Jg K C∧kitOne K (.ref C) (vO c)=some b∧Q (.bl b) H
section
variable {X:Cx}
noncomputable def BZ:List V→Hp→VK→Prop:=fun xs H Q=>∃i j:Int,xs=[.int i,.int j]∧∀p,H p=none→Q (.ref p) (upd H p (.rng i j))
theorem fV:dC X (.type "range") BZ:=by
 intro pins s σ H xs us Q I r h
 obtain⟨i,j,rfl,q⟩:=h
 obtain⟨u,u',rfl,⟨t,rfl⟩,⟨t',rfl⟩⟩:=vals2 r
 refine call_range_2 ⟨.ref s.heap.objs.size,_,I.laid (fun b o e=>Heap.get?_push_of_some _ e) (Nat.le_refl _) ?_,rfl,q _ I.fresh⟩
 exact⟨_,_,_,Heap.get?_push_size _ rfl⟩
noncomputable def upto (i:Int) (n:Nat):List Int:=(List.range n).map fun k:Nat=>i + (k:Int)
noncomputable def xT:List V→Hp→VK→Prop:=fun xs H Q=>∃p,∃i j:Int,xs=[.ref p]∧H p=some (.rng i j)∧-1000≤i∧i≤1000∧j≤1000∧-1000≤j∧∀l,H l=none→Q (.ref l) (upd H l (.lst ((upto i (j - i).toNat).map V.int)))
theorem gq (hc:X.calm=true):dC X (.type "list") xT:=by
 intro pins s σ H xs us Q I r h
 obtain⟨p,i,j,rfl,hp,i0,i1,j1,j0,q⟩:=h
 obtain⟨u,rfl,ru⟩:=vals1 r
 cases ru
 obtain⟨t,u',v,e⟩:=I.hok p _ hp
 have hn:Builtin.Range.rangeSize i j 1=((j - i).toNat:Int):=by rw [rangeSize_one];split <;> lia
 refine call_list_range (I.ok.hd hc) (a:=i) (b:=j) (c:=1) e (small_one (by lia) (by lia) (by lia) (by lia)) hn (by lia) fun h' tk acc' c' hk hS hacc=>?_
 refine⟨.ref s.heap.objs.size,_,I.laid hk (Nat.le_refl _) (o:=.lst ((upto i (j - i).toNat).map V.int)) ?_,rfl,q _ I.fresh⟩
 refine⟨by unfold upto;simp only [List.length_map,List.length_range];rw [sizeLine_eq];lia,acc'.toList,c',?_,by simpa using hS⟩
 have go:∀ (n k:Nat) (l:List Value),l.length=n→(∀ (m:Nat) (v:Value),l[m]? = some v→∃t,v=Value.int (i + ((m + k:Nat):Int) * 1) t)→Vals (((List.range' k n).map fun m:Nat=>i + (m:Int)).map V.int) l:=by
  intro n
  induction n with
  | zero =>
   intro k l hl _
   cases l with
   | nil=>exact .nil
   | cons a b=>simp at hl
  | succ n ih =>
   intro k l hl hv
   cases l with
   | nil=>simp at hl
   | cons a b =>
    rw [List.range'_succ,List.map_cons,List.map_cons]
    refine .cons ?_ (ih (k + 1) b (by simpa using hl) fun m v hm=>?_)
    ·obtain⟨t,e⟩:=hv 0 a (by simp)
     exact⟨t,by rw [e];congr 1;lia⟩
    ·obtain⟨t,e⟩:=hv (m + 1) v (by simpa using hm)
     exact⟨t,by rw [e];congr 1;lia⟩
 have:=go (j - i).toNat 0 acc'.toList (by simp [hacc.1]) fun m v hm=>hacc.2 m v (by simpa using hm)
 rw [← List.range_eq_range'] at this
 exact this
noncomputable def Ji:List V→Hp→VK→Prop:=fun xs H Q=>(∃i:Int,xs=[.int i]∧i.natAbs.log2 < 1920∧Q (.str (toString i)) H)∨∃z,xs=[.str z]∧Q (.str z) H
noncomputable def Its (lo c:Int) (n:Nat):It:=⟨fun i _=>i < n,fun i H x H'=>H'=H∧x=.int (lo + i * c),fun i _=>n≤i⟩
noncomputable def Hz (ta:TA):TI:=fun σ H R=>ta σ H fun vs H1=>∃i j:Int,vs=[.int i,.int j,.int 2]∧(-1000≤i∧i≤1000∧-1000≤j∧j≤1000)∧R (Its i 2 ((j - i + 1) / 2).toNat) H1
end
end My
namespace My
open PySem L2
end My
set_option maxHeartbeats 400000
namespace L2
open PySem PySem.Spec PySem.Calls PyProof.Rows
structure Jj (K:PySem.W.Frag) (mg:Str→Option Value) (x:Str) (W C:Addr):Prop where
 at_:mg x=some (.ref W)
 ty:typeIn K (.ref W)=some (.type "type")
 be:mroIn K W (.type "BaseException")=some true
 sub:mroIn K C (.ref W)=some true
section
variable {X:Cx} {pins:List (Addr×Obj)} {σ:St} {H H':Hp} {s s':Shared} {B:Heap} {a:Addr} {cls a0:Value}
end
noncomputable def Ends.gone (D:Ends) (i:Nat):Ends:={ nx:=fun σ H=>D.nx (σ.set i none) H,rt:=D.rt,bk:=fun σ H=>D.bk (σ.set i none) H,ct:=fun σ H=>D.ct (σ.set i none) H }
noncomputable def HF (i:Nat) (K:PySem.W.Frag) (mg:Str→Option Value) (x:Str) (W:Addr) (tb:Ends→St→Hp→XK→Prop) (ts to:TS):TS:=fun D σ H =>
 tb { D with nx:=to D } σ H fun cls _ H'=>∃C,cls=.ref C∧Jj K mg x W C∧∀a,H' a=none→ts (D.gone i) (σ.set i (some (.ref a))) (upd H' a (DG a C))
theorem gU {X:Cx} {K:PySem.W.Frag} {e:Expr} {ta:TE} {f:Str} {pos:Pos} (hK:X.K=K) (he:PE X e ta) (hb:attributeBase e f X.env (eval e X.env)=eval e X.env):PE X (.Attribute e f pos) (Dl K ta f):=by subst hK;exact aZ he hb
end L2
set_option maxHeartbeats 1000000
namespace My
open PySem L2
section
variable {d:Int} {hs:List Int} {ps:List Pst} {i:Nat} {rows:List (List Int)} {row:List Int} {x:Int}
end
section
variable {H:Hp} {us:List V} {rows:List (List Int)} {v:V} {row:List Int}
end
noncomputable def xU (H:Hp) (v:V) (q:Int×Int):Prop:=∃t,v=.ref t∧H t=some (.tup [.int q.1,.int q.2])
noncomputable abbrev Cells (H:Hp):List V→List (Int×Int)→Prop:=Paired (xU H)
theorem Cells.mono {H H':Hp} (g:Same H H') {ts:List V} {qs:List (Int×Int)} (h:Cells H ts qs):Cells H' ts qs:=Paired.mapP h fun _ _ ⟨t,e,q⟩=>⟨t,e,g _ _ q⟩
theorem Cells.len {H:Hp} {ts:List V} {qs:List (Int×Int)} (h:Cells H ts qs):ts.length=qs.length:=Paired.length h
theorem Cells.snoc {H:Hp} {ts:List V} {qs:List (Int×Int)} {v:V} {q:Int×Int} (h:Cells H ts qs) (hv:xU H v q):Cells H (ts ++ [v]) (qs ++ [q]):=by
 induction h with
 | nil=>exact .cons hv .nil
 | cons a _ ih=>exact .cons a ih
theorem Cells.get' {H:Hp} {ts:List V} {qs:List (Int×Int)} (h:Cells H ts qs) {i:Nat} {v:V} (e:ts[i]? = some v):∃q,qs[i]? = some q∧xU H v q:=Paired.get' h e
section
variable {H H' H'':Hp} {r:Addr} {us us':List V} {rows rows':List (List Int)} {n L:Nat}
end
end My
namespace My
open PySem L2
theorem bz {α β:Type} {F:α→β→Prop} {xs:List α} {ys:List β} {x:α} {y:β} (h:Paired F xs ys) (hx:F x y):Paired F (xs ++ [x]) (ys ++ [y]):=by
 induction h with
 | nil=>exact .cons hx .nil
 | cons a _ ih=>exact .cons a ih
theorem iy {α β:Type} {F:α→β→Prop} {xs xs':List α} {ys ys':List β} (h:Paired F xs ys) (h':Paired F xs' ys'):Paired F (xs ++ xs') (ys ++ ys'):=by
 induction h with
 | nil=>exact h'
 | cons a _ ih=>exact .cons a ih
theorem bh {α:Type} {xs:List α} {i:Nat} {x:α} (h:xs[i]? = some x):xs.take (i + 1)=xs.take i ++ [x]:=by
 rw [List.take_succ,h]
 rfl
noncomputable def gr (H H':Hp):Prop:=∀a xs,H a=some (.tup xs)→H' a=some (.tup xs)
theorem aF {H H':Hp} (g:Same H H'):gr H H':=fun a xs e=>g _ _ e
theorem pB {H:Hp} {l:Addr} {o:HO} (h:∀xs,H l≠some (.tup xs)):gr H (upd H l o):=fun a xs e=>by
 have ne:a≠l:=fun z=>h xs (by rw [← z];exact e)
 rw [aG ne];exact e
theorem bK {H:Hp} {l:Addr} {ys:List V} {o:HO} (h:H l=some (.lst ys)):gr H (upd H l o):=pB fun xs z=>by rw [h] at z;cases z
structure Prt where
 h:Int
 d:Int
 p:Int
 n:Int
noncomputable def Jk (H:Hp) (v:V) (q:Prt):Prop:=∃t,v=.ref t∧H t=some (.tup [.int q.h,.int q.d,.int q.p,.int q.n])
noncomputable abbrev Prts (H:Hp):List V→List Prt→Prop:=Paired (Jk H)
theorem Prts.mono {H H':Hp} (g:gr H H') {ts:List V} {qs:List Prt} (h:Prts H ts qs):Prts H' ts qs:=Paired.mapP h fun _ _ ⟨t,e,q⟩=>⟨t,e,g _ _ q⟩
structure Lin where
 ps:List Prt
 b:Int
noncomputable def LinV (H:Hp) (v:V) (l:Lin):Prop:=∃t u ts,v=.ref t∧H t=some (.tup [.ref u,.int l.b])∧H u=some (.tup ts)∧Prts H ts l.ps
noncomputable abbrev Lins (H:Hp):List V→List Lin→Prop:=Paired (LinV H)
theorem LinV.mono {H H':Hp} (g:gr H H') {v:V} {l:Lin} (h:LinV H v l):LinV H' v l:=by
 obtain⟨t,u,ts,e,h1,h2,h3⟩:=h
 exact⟨t,u,ts,e,g _ _ h1,g _ _ h2,h3.mono g⟩
theorem Lins.mono {H H':Hp} (g:gr H H') {ts:List V} {ls:List Lin} (h:Lins H ts ls):Lins H' ts ls:=Paired.mapP h fun _ _=>LinV.mono g
theorem Cells.tmono {H H':Hp} (g:gr H H') {ts:List V} {qs:List (Int×Int)} (h:Cells H ts qs):Cells H' ts qs:=Paired.mapP h fun _ _ ⟨t,e,q⟩=>⟨t,e,g _ _ q⟩
noncomputable def spr (h:Int) (ds ps:List Int) (n:Int):List Prt:=ds.flatMap fun d=>ps.map fun p=>⟨h,d,p,n⟩
theorem pC (h:Int) (ds:List Int) (d:Int) (ps:List Int) (n:Int):spr h (ds ++ [d]) ps n=spr h ds ps n ++ ps.map fun p=>⟨h,d,p,n⟩:=by
 unfold spr
 rw [List.flatMap_append,List.flatMap_singleton]
theorem cR (h:Int) (ps:List Int) (n:Int):∀ds:List Int,(spr h ds ps n).length=ds.length * ps.length
 | []=>by simp [spr]
 | d :: ds=>by
  have ih:=cR h ps n ds
  unfold spr at ih ⊢
  rw [List.flatMap_cons,List.length_append,ih,List.length_map,List.length_cons,Nat.succ_mul]
  lia
theorem iQ {h n:Int} {ds ps:List Int} {q:Prt} (hq:q∈spr h ds ps n):q.h=h∧q.d∈ds∧q.p∈ps∧q.n=n:=by
 unfold spr at hq
 obtain⟨d,hd,hq⟩:=List.mem_flatMap.mp hq
 obtain⟨p,hp,rfl⟩:=List.mem_map.mp hq
 exact⟨rfl,hd,hp,rfl⟩
noncomputable def cH (ps:List Pst):List Int:=upto 1 ps.length
noncomputable def npI (ps:List Pst) (i:Nat):List Int:=((List.range i).filter fun j=>ngt ps (j + 1)).map fun j:Nat=>1 + (j:Int)
noncomputable def np (ps:List Pst):List Int:=npI ps ps.length
theorem xV (ps:List Pst) (i:Nat):npI ps (i + 1)=npI ps i ++ if ngt ps (i + 1)=true then [1 + (i:Int)] else []:=by
 unfold npI
 rw [List.range_succ,List.filter_append,List.map_append]
 congr 1
 cases h:ngt ps (i + 1)
 ·rw [List.filter_cons_of_neg (by rw [h];exact Bool.false_ne_true)]
  rfl
 ·rw [List.filter_cons_of_pos (by exact h)]
  rfl
theorem tH (ps:List Pst) (i:Nat):(npI ps i).length≤i:=by
 unfold npI
 rw [List.length_map]
 exact Nat.le_trans (List.length_filter_le _ _) (by rw [List.length_range];exact Nat.le_refl _)
theorem np_mem {ps:List Pst} {v:Int}:v∈np ps↔1≤v∧v≤ps.length∧ngt ps v.toNat=true:=by
 unfold np npI
 rw [List.mem_map]
 constructor
 ·rintro⟨j,hj,rfl⟩
  obtain⟨h1,h2⟩:=List.mem_filter.mp hj
  have:=List.mem_range.mp h1
  exact⟨by lia,by lia,by rw [show (1 + (j:Int)).toNat=j + 1 by lia];exact h2⟩
 ·rintro⟨h1,h2,h3⟩
  refine⟨v.toNat - 1,List.mem_filter.mpr ⟨List.mem_range.mpr (by omega),?_⟩,by omega⟩
  show ngt ps (v.toNat - 1 + 1)=true
  rw [show v.toNat - 1 + 1=v.toNat by lia]
  exact h3
end My
namespace My
open PySem L2
noncomputable def fY (hs:List Int) (h:Int):Bool:=decide (0≤h) && decide (h < (hs.length:Int))
noncomputable def isM (m:Int):Bool:=decide (0≤m) && decide (m≤99)
theorem nhm:¬ (("hand":Str) = "many"):=by decide +kernel
noncomputable def hm (h m:Int):List (Str×V):=bR "many" (.int m) (bR "hand" (.int h) [])
theorem nW (h m:Int):(hm h m).lookup ("hand":Str)=some (.int h):=by
 unfold hm
 rw [aC,if_neg nhm,aC,if_pos rfl]
theorem jK (h m:Int):(hm h m).lookup ("many":Str)=some (.int m):=by
 unfold hm
 rw [aC,if_pos rfl]
theorem Ca (h m:Int) {x:Str} (h1:¬ x = "many") (h2:¬ x = "hand"):(hm h m).lookup x=none:=by
 unfold hm
 rw [aC,if_neg h1,aC,if_neg h2]
 rfl
noncomputable def dH (h m d:Int) (ps:List Int):List Lin:=(List.range (d - m).toNat).map fun i:Nat=>⟨spr h (upto i (m + 1).toNat) ps (-1),-m⟩
end My
namespace My
open PySem L2
end My
namespace My
open PySem L2
end My
namespace My
open PySem L2
end My
namespace My
open PySem L2
end My
namespace My
open PySem L2
end My
namespace My
open PySem L2
theorem bU {wi:TI} {g:TG} {tb:TS} {D:Ends} {σ:St} {H:Hp} (h:∀B:TS,B=tb→zx wi g B D σ H):zx wi g tb D σ H:=h tb rfl
end My
namespace My
open PySem L2
end My
namespace L2
open PySem PySem.Spec PyProof.Rows
section
variable {prog:Program} {w:World} {A:Around} {E:Value→Shared→Prop} {s:Shared}
theorem xW {t b:Addr} {vs ws:List Value} {Q:Value→Shared→Prop} (ht:IsTup s.heap t vs.toArray) (hb:IsTup s.heap b ws.toArray) (hv:vs=[]) (h:Q (.ref b) s):wpAny (model prog w) A (binaryOp .Add (.ref t) (.ref b)) Q E s:=by
 obtain⟨⟨cls,dd,data,sl⟩,ho,hc,n,hd⟩:=id ht
 obtain⟨⟨cls2,dd2,data2,sl2⟩,ho2,hc2,n2,hd2⟩:=id hb
 simp only at hc hd hc2 hd2
 subst hc hd hc2 hd2
 exact concat_meets ⟨_,ho,rfl⟩ ⟨_,ho2,rfl⟩ noFill_tuple_add seq_tuple_add PySem.F.slot_tuple_add PySem.F.entry_tuple_add (PySem.F.args_tuple_add_2 _ _)
   (tuple_addW0 t b vs.toArray ws.toArray n n2 dd dd2 sl sl2 (by simp [hv])) ⟨ho,ho2,h⟩
end
section
variable {X:Cx}
noncomputable def Cd:R2:=fun x y H Q=>∃a b xs ys,x=.ref a∧y=.ref b∧H a=some (.tup xs)∧H b=some (.tup ys)∧xs.length + ys.length≤sizeLine∧∀t H',L2.Same H H'→H' t=some (.tup (xs ++ ys))→Q (.ref t) H'
theorem Ai:OpR X (binaryOp .Add) Cd:=by
 intro pins s σ H x y v u Q I rx ry h
 obtain⟨a,b,xs,ys,rfl,rfl,ha,hb,hz,q⟩:=h
 by_cases hx:xs=[]
 ·subst hx
  cases rx
  cases ry
  obtain⟨its,r1,p1,_⟩:=I.tuple (SqT.of ha)
  obtain⟨its2,r2,p2,_⟩:=I.tuple (SqT.of hb)
  exact xW p1 p2 (r1.nil_iff.mpr rfl) ⟨.ref b,H,I,rfl,q b H (fun _ _ z=>z) hb⟩
 ·refine zH pins s σ H _ _ v u Q I rx ry ⟨a,b,xs,ys,rfl,rfl,SqT.of ha,SqT.of hb,hx,hz,fun e=>?_,fun e p hp=>?_⟩
  ·subst e
   exact q a H (fun _ _ z=>z) (by rw [List.append_nil];exact ha)
  ·exact q p _ (My.same_new hp _) aj
end
end L2
namespace My
open PySem L2
end My
namespace L2
open PySem PySem.Spec PyProof.Rows
section
variable {κ:Type} [DecidableEq κ]
noncomputable def bW (kvs:List (κ×V)) (k:κ):Option V:=(kvs.find? fun kv=>decide (kv.1=k)).map (·.2)
noncomputable def putK (kvs:List (κ×V)) (k:κ) (v:V):List (κ×V) :=
 if (kvs.any fun kv=>decide (kv.1=k))=true then kvs.map (fun kv=>if kv.1=k then (kv.1,v) else kv) else kvs ++ [(k,v)]
theorem cM {p:κ×V} {r:List (κ×V)} {k:κ} (e:p.1=k):bW (p :: r) k=some p.2:=by simp [bW,List.find?_cons,e]
theorem cN {p:κ×V} {r:List (κ×V)} {k:κ} (e:¬ p.1=k):bW (p :: r) k=bW r k:=by simp [bW,List.find?_cons,e]
theorem iR (k:κ):∀kvs:List (κ×V),(kvs.any fun kv=>decide (kv.1=k))=(bW kvs k).isSome
 | []=>rfl
 | p :: r=>by
  rw [List.any_cons]
  by_cases e:p.1=k
  ·simp only [cM e,decide_eq_true e,Bool.true_or,Option.isSome_some]
  ·rw [cN e,decide_eq_false e,Bool.false_or];exact iR k r
theorem pD (k j:κ) (y:V):∀kvs:List (κ×V),bW (kvs.map fun kv=>if kv.1=k then (kv.1,y) else kv) j=(bW kvs j).map fun x=>if j=k then y else x
 | []=>rfl
 | p :: r=>by
  have ih:=pD k j y r
  rw [List.map_cons]
  by_cases h:p.1=k
  ·rw [if_pos h]
   by_cases e:p.1=j
   ·rw [cM (p:=(p.1,y)) e,cM e,Option.map_some,if_pos (e.symm.trans h)]
   ·rw [cN (p:=(p.1,y)) e,cN e,ih]
  ·rw [if_neg h]
   by_cases e:p.1=j
   ·rw [cM (p:=p) e,cM e,Option.map_some,if_neg (fun z=>h (e.trans z))]
   ·rw [cN (p:=p) e,cN e,ih]
theorem mj (k j:κ) (y:V):∀kvs:List (κ×V),bW kvs k=none→bW (kvs ++ [(k,y)]) j=if j=k then some y else bW kvs j
 | [],_=>by
  by_cases e:k=j
  ·rw [if_pos e.symm];exact cM (p:=(k,y)) e
  ·rw [if_neg (fun z=>e z.symm)];exact cN (p:=(k,y)) e
 | p :: r,hn=>by
  rw [List.cons_append]
  have hk:¬ p.1=k:=fun z=>by rw [cM z] at hn;cases hn
  rw [cN hk] at hn
  have ih:=mj k j y r hn
  by_cases e:p.1=j
  ·rw [cM e,cM e,if_neg (fun z=>hk (e.trans z))]
  ·rw [cN e,cN e,ih]
theorem iT (kvs:List (κ×V)) (k j:κ) (y:V):bW (putK kvs k y) j=if j=k then some y else bW kvs j:=by
 unfold putK
 by_cases a:(kvs.any fun kv=>decide (kv.1=k))=true
 ·rw [if_pos a,pD]
  rw [iR] at a
  by_cases e:j=k
  ·obtain⟨x,hx⟩:=Option.isSome_iff_exists.mp a
   rw [if_pos e,e,hx,Option.map_some,if_pos rfl]
  ·rw [if_neg e]
   cases bW kvs j with
   | none=>rfl
   | some x=>rw [Option.map_some,if_neg e]
 ·rw [if_neg a]
  refine mj k j y kvs ?_
  rw [iR] at a
  cases q:bW kvs k with
  | none=>rfl
  | some x=>rw [q] at a;exact (a rfl).elim
theorem dF (kvs:List (κ×V)) (k:κ) (v:V):(putK kvs k v).length≤kvs.length + 1:=by
 unfold putK
 split
 ·rw [List.length_map];omega
 ·rw [List.length_append,List.length_cons,List.length_nil];omega
theorem RelO.isSome_eq {o:Option V} {u:Option Value} (r:RelO o u):o.isSome=u.isSome:=by
 cases o with
 | none=>cases u with
  | none=>rfl
  | some _=>exact (show False from r).elim
 | some _=>cases u with
  | none=>exact (show False from r).elim
  | some _=>rfl
theorem RelO.getD {o:Option V} {u:Option Value} {d:V} {d':Value} (r:RelO o u) (rd:RelV d d'):RelV (o.getD d) (u.getD d'):=by
 cases o with
 | none=>cases u with
  | none=>exact rd
  | some _=>exact (show False from r).elim
 | some _=>cases u with
  | none=>exact (show False from r).elim
  | some _=>exact r
theorem KV.val {kvs:List (κ×V)} {vs:List (κ×Value)} (r:KV kvs vs) (k:κ):RelO (bW kvs k) (valueAt vs k):=by
 unfold KV at r
 induction r with
 | nil=>exact True.intro
 | @cons p q ps qs h t ih =>
  obtain⟨h1,h2⟩:=h
  by_cases e:p.1=k
  ·have e':q.1=k:=h1.symm.trans e
   have b:valueAt (q :: qs) k=some q.2:=by simp [valueAt,List.find?_cons,e']
   rw [cM e,b];exact h2
  ·have e':¬ q.1=k:=fun z=>e (h1.trans z)
   have b:valueAt (q :: qs) k=valueAt qs k:=by simp [valueAt,List.find?_cons,e']
   rw [cN e,b];exact ih
theorem KV.any {kvs:List (κ×V)} {vs:List (κ×Value)} (r:KV kvs vs) (k:κ):(kvs.any fun kv=>decide (kv.1=k))=vs.any fun kv=>decide (kv.1=k):=by
 unfold KV at r
 induction r with
 | nil=>rfl
 | cons h t ih=>rw [List.any_cons,List.any_cons,ih,h.1]
theorem KV.repl {kvs:List (κ×V)} {vs:List (κ×Value)} (r:KV kvs vs) (k:κ) {y:V} {u:Value} (ry:RelV y u) :
  KV (kvs.map fun kv=>if kv.1=k then (kv.1,y) else kv) (vs.map fun kv=>if kv.1=k then (kv.1,u) else kv):=by
 unfold KV at r ⊢
 induction r with
 | nil=>exact .nil
 | @cons p q ps qs h t ih =>
  rw [List.map_cons,List.map_cons]
  refine .cons ?_ ih
  obtain⟨h1,h2⟩:=h
  by_cases e:p.1=k
  ·rw [if_pos e,if_pos (h1.symm.trans e)];exact⟨h1,ry⟩
  ·rw [if_neg e,if_neg (fun z=>e (h1.trans z))];exact⟨h1,h2⟩
theorem KV.put {kvs:List (κ×V)} {vs:List (κ×Value)} (r:KV kvs vs) (k:κ) {y:V} {u:Value} (ry:RelV y u):KV (putK kvs k y) (stored vs k u):=by
 unfold putK stored
 rw [r.any k]
 by_cases e:(vs.any fun kv=>decide (kv.1=k))=true
 ·rw [if_pos e,if_pos e];exact r.repl k ry
 ·rw [if_neg e,if_neg e];exact Paired.snoc r ⟨rfl,ry⟩
theorem KV.length {kvs:List (κ×V)} {vs:List (κ×Value)} (r:KV kvs vs):kvs.length=vs.length:=Paired.length r
end
theorem mq {P:Program} {w:World} {k:Key} {u:Value} (r:RelV (kV k) u):(bD P w).is k u=true:=by
 cases k with
 | inl i=>obtain⟨t,e⟩:=(show ∃t,u=Value.int i t from r);subst e;exact oV P w i t
 | inr x=>obtain⟨t,e⟩:=(show ∃t,u=Value.str x t from r);subst e;exact oW P w x t
theorem my {P:Program} {w:World}:∀ {ks:List Key} {us:List Value},Vals (ks.map kV) us→ItemsAre (bD P w) ks us
 | [],_,r=>by rw [List.map_nil] at r;cases r;exact .nil
 | k :: ks,_,r=>by
  rw [List.map_cons] at r
  cases r with
  | cons h t=>exact .cons (mq h) (my t)
noncomputable abbrev KT (H:Hp):List (List Key×V)→List (List Key×Addr×Value)→Prop:=Paired fun p q=>p.1=q.1∧H q.2.1=some (.tup (p.1.map kV))∧RelV p.2 q.2.2
theorem KT.val {H:Hp} {kvs:List (List Key×V)} {xs:List (List Key×Addr×Value)} (r:KT H kvs xs) (k:List Key):RelO (bW kvs k) ((atKey xs k).map (·.2)):=by
 induction r with
 | nil=>exact True.intro
 | @cons p q ps qs h t ih =>
  obtain⟨h1,_,h2⟩:=h
  by_cases e:p.1=k
  ·have e':q.1=k:=h1.symm.trans e
   have b:atKey (q :: qs) k=some q.2:=by simp [atKey,List.find?_cons,e']
   rw [cM e,b];exact h2
  ·have e':¬ q.1=k:=fun z=>e (h1.trans z)
   have b:atKey (q :: qs) k=atKey qs k:=by simp [atKey,List.find?_cons,e']
   rw [cN e,b];exact ih
theorem KT.repl {H:Hp} {kvs:List (List Key×V)} {xs:List (List Key×Addr×Value)} (r:KT H kvs xs) (k:List Key) {y:V} {u:Value} (ry:RelV y u) :
  KT H (kvs.map fun kv=>if kv.1=k then (kv.1,y) else kv) (xs.map (putAt k u)):=by
 induction r with
 | nil=>exact .nil
 | @cons p q ps qs h t ih =>
  rw [List.map_cons,List.map_cons]
  refine .cons ?_ ih
  obtain⟨h1,h2,h3⟩:=h
  unfold putAt
  by_cases e:p.1=k
  ·rw [if_pos e,if_pos (h1.symm.trans e)];exact⟨h1,h2,ry⟩
  ·rw [if_neg e,if_neg (fun z=>e (h1.trans z))];exact⟨h1,h2,h3⟩
theorem KT.put {H:Hp} {kvs:List (List Key×V)} {xs:List (List Key×Addr×Value)} (r:KT H kvs xs) (k:List Key) {b:Addr} {y:V} {u:Value} (hb:H b=some (.tup (k.map kV))) (ry:RelV y u) :
  KT H (putK kvs k y) (storedH xs k b u):=by
 have e:(kvs.any fun kv=>decide (kv.1=k))=(atKey xs k).isSome:=by
  rw [iR,(r.val k).isSome_eq,Option.isSome_map]
 unfold putK storedH
 rw [e]
 by_cases q:(atKey xs k).isSome=true
 ·rw [if_pos q,if_pos q];exact r.repl k ry
 ·rw [if_neg q,if_neg q];exact Paired.snoc r ⟨rfl,hb,ry⟩
theorem KT.keeps {H H':Hp} {kvs:List (List Key×V)} {xs:List (List Key×Addr×Value)} (r:KT H kvs xs) (ht:∀b ys,H b=some (.tup ys)→H' b=some (.tup ys)):KT H' kvs xs :=
 Paired.mapP r fun _ _ z=>⟨z.1,ht _ _ z.2.1,z.2.2⟩
section
variable {P:Program} {w:World} {H:Hp} {h:Heap} {a:Addr}
theorem Ce {u:HO} (ok:HOk P w H h) (e:Rd H a u):ObjOk P w H h a u:=e.ok ok
theorem j6 {kvs:List (Key×V)} (ok:HOk P w H h) (e:Rd H a (.dK kvs)):kvs.length≤sizeLine∧(a == sysModules)=false∧∃vs,KV kvs vs∧h.DictOf (bD P w) a vs :=
 show ObjOk P w H h a (.dK kvs) from Ce ok e
theorem HH {kvs:List (Key×V)} (ok:HOk P w H h) (e:H a=some (.dK kvs)):kvs.length≤sizeLine∧(a == sysModules)=false∧∃vs,KV kvs vs∧h.DictOf (bD P w) a vs:=j6 ok (.inl e)
theorem iz {ks:List Key} (ok:HOk P w H h) (e:H a=some (.tup (ks.map kV))):(tupleKind (bD P w)).is h ks a:=by
 obtain⟨_,its,r,o,h1,h2,n,h3⟩:=(show ObjOk P w H h a (.tup (ks.map kV)) from ok a _ e)
 exact⟨o,its.toArray,n,h1,h2,h3,by simpa using my r⟩
theorem j7 {kvs:List (List Key×V)} (ok:HOk P w H h) (e:Rd H a (.dT kvs)):kvs.length≤sizeLine∧(a == sysModules)=false ∧
  ∃xs,KT H kvs xs∧h.DictOfH (tupleKind (bD P w)) a xs:=by
 obtain⟨z,y,xs,r,o,es,ep,h1,h2,h3,h4,h5⟩:=(show ObjOk P w H h a (.dT kvs) from Ce ok e)
 refine⟨z,y,xs,r,o,es,ep,h1,h2,h3,h4,fun x hx=>?_,h5⟩
 have all:∀ {l:List (List Key×V)} {m:List (List Key×Addr×Value)},KT H l m→∀x∈m,(tupleKind (bD P w)).is h x.1 x.2.1:=by
  intro l m q
  induction q with
  | nil=>intro x hx;exact nomatch hx
  | @cons p q ps qs hq t ih =>
   intro x hx
   rcases List.mem_cons.mp hx with e | hx
   ·subst e
    exact iz ok (by rw [← hq.1];exact hq.2.1)
   ·exact ih x hx
 exact all r x hx
theorem tK {kvs:List (List Key×V)} (ok:HOk P w H h) (e:H a=some (.dT kvs)):kvs.length≤sizeLine∧(a == sysModules)=false ∧
  ∃xs,KT H kvs xs∧h.DictOfH (tupleKind (bD P w)) a xs:=j7 ok (.inl e)
end
noncomputable def DGet (H:Hp) (a:Addr) (y:V) (r:Option V):Prop :=
 (∃kvs k,Rd H a (.dK kvs)∧y=kV k∧r=bW kvs k)∨∃kvs k b,Rd H a (.dT kvs)∧y=.ref b∧H b=some (.tup (k.map kV))∧r=bW kvs k
noncomputable def DPut (H:Hp) (a:Addr) (y v:V) (H':Hp):Prop :=
 (∃kvs k,H a=some (.dK kvs)∧y=kV k∧kvs.length < sizeLine∧H'=upd H a (.dK (putK kvs k v))) ∨
 ∃kvs k b,H a=some (.dT kvs)∧y=.ref b∧H b=some (.tup (k.map kV))∧kvs.length < sizeLine∧H'=upd H a (.dT (putK kvs k v))
theorem DGet.t {H:Hp} {a b:Addr} {kvs:List (List Key×V)} {k:List Key} (e:H a=some (.dT kvs)) (eb:H b=some (.tup (k.map kV))):DGet H a (.ref b) (bW kvs k):=.inr ⟨kvs,k,b,.inl e,rfl,eb,rfl⟩
theorem DPut.t {H:Hp} {a b:Addr} {kvs:List (List Key×V)} {k:List Key} {v:V} (e:H a=some (.dT kvs)) (eb:H b=some (.tup (k.map kV))) (hl:kvs.length < sizeLine) :
  DPut H a (.ref b) v (upd H a (.dT (putK kvs k v))):=.inr ⟨kvs,k,b,e,rfl,eb,hl,rfl⟩
section
variable {X:Cx} {pins:List (Addr×Obj)} {σ:St} {H:Hp} {s:Shared} {a:Addr} {y v:V} {u r:Value} {o:Option V} {A:Around} {E:Value→Shared→Prop}
theorem Inv.big (I:Inv X pins σ H s):sysModules < s.heap.objs.size:=by
 have h:mainGlobals < s.heap.objs.size:=(I.mod.glob.keeps I.bk).lt
 exact Nat.lt_trans (by decide) h
theorem uM {Q:Value→Shared→Prop} (hu:A.units + 1 < cLine) (I:Inv X pins σ H s) (g:DGet H a y (some v)) (ry:RelV y u) (h:∀w' s',Inv X pins σ H s'→RelV v w'→Q w' s') :
  wpAny (model X.prog X.w) A (getItem (.ref a) u) Q E s:=by
 rcases g with ⟨kvs,k,e,ey,l⟩ | ⟨kvs,k,b,e,ey,eb,l⟩
 ·subst ey
  obtain⟨z,hd,vs,rel,dd⟩:=j6 I.hok e
  obtain⟨w',hw,rw'⟩:=RelO.some_of (v:=v) (o:=valueAt vs k) (by rw [l];exact rel.val k)
  exact wpAny_getItem_of (mq ry) dd.mapOf hw (h w' _ (I.tok _) rw')
 ·subst ey
  cases (show u=Value.ref b from ry)
  obtain⟨z,hd,xs,rel,dd⟩:=j7 I.hok e
  obtain⟨w',hw,rw'⟩:=RelO.some_of (v:=v) (o:=(atKey xs k).map (·.2)) (by rw [l];exact rel.val k)
  obtain⟨p,hp,hp2⟩:=Option.map_eq_some_iff.mp hw
  refine wpAny_getItem_heap (tupleKind_room_in1 hu) (iz I.hok eb) dd hp ?_
  rw [hp2]
  exact h w' _ (I.tok _) rw'
theorem Jl {Q:Value→Shared→Prop} (hu:A.units + 1 < cLine) (I:Inv X pins σ H s) (g:DGet H a y o) (ry:RelV y u) (h:∀s',Inv X pins σ H s'→Q (.bool o.isSome) s') :
  wpAny (model X.prog X.w) A (compareOp .In u (.ref a)) Q E s:=by
 rcases g with ⟨kvs,k,e,ey,l⟩ | ⟨kvs,k,b,e,ey,eb,l⟩
 ·subst ey
  obtain⟨z,hd,vs,rel,dd⟩:=j6 I.hok e
  refine wpAny_in_of (mq ry) hd dd.mapOf ?_
  rw [← (rel.val k).isSome_eq,← l]
  exact h _ (I.tok _)
 ·subst ey
  cases (show u=Value.ref b from ry)
  obtain⟨z,hd,xs,rel,dd⟩:=j7 I.hok e
  refine wpAny_in_heap (tupleKind_room_in1 hu) (iz I.hok eb) hd dd ?_
  have q:=(rel.val k).isSome_eq
  rw [Option.isSome_map] at q
  rw [← q,← l]
  exact h _ (I.tok _)
theorem Aj {Q:Value→Shared→Prop} (hu:A.units + 1 < cLine) (I:Inv X pins σ H s) (g:DGet H a y o) (ry:RelV y u) (h:∀s',Inv X pins σ H s'→Q (.bool (!o.isSome)) s') :
  wpAny (model X.prog X.w) A (compareOp .NotIn u (.ref a)) Q E s:=by
 rcases g with ⟨kvs,k,e,ey,l⟩ | ⟨kvs,k,b,e,ey,eb,l⟩
 ·subst ey
  obtain⟨z,hd,vs,rel,dd⟩:=j6 I.hok e
  refine wpAny_notIn_of (mq ry) hd dd.mapOf ?_
  rw [← (rel.val k).isSome_eq,← l]
  exact h _ (I.tok _)
 ·subst ey
  cases (show u=Value.ref b from ry)
  obtain⟨z,hd,xs,rel,dd⟩:=j7 I.hok e
  refine wpAny_notIn_heap (tupleKind_room_in1 hu) (iz I.hok eb) hd dd ?_
  have q:=(rel.val k).isSome_eq
  rw [Option.isSome_map] at q
  rw [← q,← l]
  exact h _ (I.tok _)
theorem tL {h':Heap} {t':Nat} {ob:HO} (I:Inv X pins σ H s) (mu:Mut (H a)) (hs:Heap.SameBut a s.heap h') (he:∃q,h'.get? a=some q) (new:ObjOk X.prog X.w (upd H a ob) h' a ob) :
  Inv X pins σ (upd H a ob) { s with heap:=h',toks:=t' } :=
 I.write (x:=a) (e:=a) mu (.inl rfl) (fun b q hb z=>(hs.2 b hb).trans z) he new
theorem DK {P:Program} {w:World} {H':Hp} {h':Heap} {kvs:List (Key×V)} {vs:List (Key×Value)} (z:kvs.length≤sizeLine) (hd:(a == sysModules)=false) (rel:KV kvs vs) (dd:h'.DictOf (bD P w) a vs) :
  ObjOk P w H' h' a (.dK kvs):=⟨z,hd,vs,rel,dd⟩
theorem uN {H':Hp} {Q:Unit→Shared→Prop} (hu:A.units + 1 < cLine) (I:Inv X pins σ H s) (g:DPut H a y v H') (ry:RelV y u) (rv:RelV v r) (h:∀s',Inv X pins σ H' s'→Q () s') :
  wpAny (model X.prog X.w) A (setItem (.ref a) u r) Q E s:=by
 rcases g with ⟨kvs,k,e,ey,l,eH⟩ | ⟨kvs,k,b,e,ey,eb,l,eH⟩
 ·subst ey eH
  obtain⟨z,hd,vs,rel,dd⟩:=HH I.hok e
  have hz:vs.length≤sizeLine:=by rw [← rel.length];exact z
  have hl:(putK kvs k v).length≤sizeLine:=by have:=dF kvs k v;omega
  refine wpAny_setItem_pairs (hsz:=hz) (mq ry) dd fun h' dd' hs=>h _ ?_
  have he:∃q,h'.get? a=some q:=let ⟨q,_,_,hq,_⟩:=dd'; ⟨q,hq⟩
  exact tL I (by rw [e];exact True.intro) hs he (DK hl hd (rel.put k rv) dd')
 ·subst ey eH
  cases (show u=Value.ref b from ry)
  obtain⟨z,hd,xs,rel,dd⟩:=tK I.hok e
  have hz:xs.length≤sizeLine:=by rw [← Paired.length rel];exact z
  have hl:(putK kvs k v).length≤sizeLine:=by have:=dF kvs k v;omega
  refine wpAny_setItem_heap (hsz:=hz) (tupleKind_room_in1 hu) (iz I.hok eb) dd fun h' dd' hs=>h _ ?_
  obtain⟨q,es,ep,hq,h2,h3,h4,_,h5⟩:=dd'
  refine tL I (by rw [e];exact True.intro) hs ⟨q,hq⟩ ⟨hl,hd,_,(rel.put k eb rv).keeps fun c ys ec=>?_,q,es,ep,hq,h2,h3,h4,h5⟩
  rw [aG (GK ec e (fun z=>nomatch z))]
  exact ec
end
section
variable {X:Cx} {pins:List (Addr×Obj)} {σ:St} {H:Hp} {s:Shared} {a:Addr} {kvs:List (Key×V)} {k:Key} {u:Value} {A:Around} {E:Value→Shared→Prop}
end
noncomputable def HJ (i:Expr):Prop:=∀ov iv,subscripted i false ov iv=operate [ov,iv] (getItem ov iv)
theorem Ak {prog:Program} {w:World} {A:Around} {E:Value→Shared→Prop} {s:Shared} {env:Env} {value slice:Expr} {pos:Pos} {T id:String} {Q:Value→Shared→Prop}
  (hl:typeLookup (.type T) "__getitem__" = pure (some (.builtin id))) (hs:HJ slice)
  (h:wpAny (model prog w) A (eval value env) (fun o s₁=>wpAny (model prog w) A (eval slice env) (fun i s₂=>s₂.TypeIs o T∧wpAny (model prog w) A (getItem o i) Q E s₂) E s₁) E s) :
  wpAny (model prog w) A (eval (.Subscript value slice pos) env) Q E s:=by
 refine Subscript_ (wpAny_mono h (fun o s₁ h₁=>wpAny_mono h₁ (fun i s₂ h₂=>?_) fun _ _ x=>x) fun _ _ x=>x)
 obtain⟨hT,h₂⟩:=h₂
 unfold subscriptTail
 refine wpAny_bind ?_
 rw [getitemInPython_of_ne hT.not_modules]
 refine wpAny_bind (wpAny_specialOf hT hl ?_)
 have fin:wpAny (model prog w) A (subscripted slice false o i) (fun r s₃=>wpAny (model prog w) A (letTemporaryGo value o r >>= fun _=>pure r) Q E s₃) E s₂:=by
  rw [hs o i]
  exact wpAny_operating (wpAny_mono h₂ (fun r s₃ h₃=>wpAny_bind (wpAny_letTemporaryGo (wpAny_pure h₃))) fun _ _ x=>x)
 first
  | exact wpAny_pure (wpAny_bind fin)
  | exact wpAny_bind (wpAny_pure (wpAny_bind fin))
  | exact wpAny_bind fin
theorem pH {X:Cx} {pins:List (Addr×Obj)} {σ:St} {H:Hp} {s:Shared} {a:Addr} {y:V} {o:Option V} (I:Inv X pins σ H s) (g:DGet H a y o):s.TypeIs (.ref a) "dict" := by
 rcases g with ⟨kvs,k,e,_,_⟩ | ⟨kvs,k,b,e,_,_,_⟩
 ·obtain⟨_,_,vs,_,dd⟩:=j6 I.hok e
  exact dd.typeIs
 ·obtain⟨_,_,xs,_,dd⟩:=j7 I.hok e
  exact dd.typeIs
noncomputable def Cg (td ty:TE):TE:=fun σ H Q=>td σ H fun x H1=>ty σ H1 fun y H2=>∃a v,x=.ref a∧DGet H2 a y (some v)∧Q v H2
noncomputable def HN (ty td:TE):TE:=fun σ H Q=>ty σ H fun y H1=>td σ H1 fun x H2=>∃a o,x=.ref a∧DGet H2 a y o∧Q (.bl o.isSome) H2
noncomputable def tM (ty td:TE):TE:=fun σ H Q=>ty σ H fun y H1=>td σ H1 fun x H2=>∃a o,x=.ref a∧DGet H2 a y o∧Q (.bl (!o.isSome)) H2
noncomputable def Ci (td ty tv:TE):TS:=fun D σ H=>tv σ H fun v H1=>td σ H1 fun x H2=>ty σ H2 fun y H3=>∃a H4,x=.ref a∧DPut H3 a y v H4∧D.nx σ H4
section
variable {X:Cx} {o i e value:Expr} {pos pos' tpos:Pos} {td ty tv:TE}
theorem tO (hu:X.A.units + 1 < cLine) (ho:PE X o td) (hi:PE X i ty) (hs:HJ i):PE X (.Subscript o i pos) (Cg td ty):=by
 intro pins s σ H Q I h
 refine Ak PySem.F.slot_dict_getitem.lookup hs (thn (ho pins s σ H _ I h) fun u s1 ⟨x,H1,I1,rx,q1⟩=>thn (hi pins s1 σ H1 _ I1 q1) fun iv s2 ⟨y,H2,I2,ry,a,v,ex,g,q2⟩=>?_)
 subst ex
 obtain rfl:u=Value.ref a:=rx
 exact⟨pH I2 g,uM hu I2 g ry fun w' s3 I3 rw'=>⟨v,H2,I3,rw',q2⟩⟩
theorem rD (hu:X.A.units + 1 < cLine) (hi:PE X i ty) (ho:PE X o td):PC X .In i o (HN ty td):=by
 intro pins s σ H Q I h
 refine thn (hi pins s σ H _ I h) fun iv s1 ⟨y,H1,I1,ry,q1⟩=>thn (ho pins s1 σ H1 _ I1 q1) fun u s2 ⟨x,H2,I2,rx,a,ov,ex,g,q2⟩=>?_
 subst ex
 obtain rfl:u=Value.ref a:=rx
 exact Jl hu I2 g ry fun s3 I3=>⟨.bl ov.isSome,H2,I3,rfl,q2⟩
theorem mz (hu:X.A.units + 1 < cLine) (hi:PE X i ty) (ho:PE X o td):PC X .NotIn i o (tM ty td):=by
 intro pins s σ H Q I h
 refine thn (hi pins s σ H _ I h) fun iv s1 ⟨y,H1,I1,ry,q1⟩=>thn (ho pins s1 σ H1 _ I1 q1) fun u s2 ⟨x,H2,I2,rx,a,ov,ex,g,q2⟩=>?_
 subst ex
 obtain rfl:u=Value.ref a:=rx
 exact Aj hu I2 g ry fun s3 I3=>⟨.bl (!ov.isSome),H2,I3,rfl,q2⟩
theorem iU (hu:X.A.units + 1 < cLine) (ho:PE X o td) (hi:PE X i ty) (hv:PE X value tv) (hs:swapsWith value (some (.Subscript o i pos')) pos.line X.env=pure false) :
  PS X (.Assign [.Subscript o i pos'] value pos) (Ci td ty tv):=by
 intro pins s σ H D I h
 refine wpAny_Assign_Subscript (thn (hv pins s σ H _ I h) fun r s1 ⟨v,H1,I1,rv,q1⟩=>thn (ho pins s1 σ H1 _ I1 q1) fun u s2 ⟨x,H2,I2,rx,q2⟩=>thn (hi pins s2 σ H2 _ I2 q2) fun iv s3 ⟨y,H3,I3,ry,a,H4,ex,g,q3⟩=>?_) hs
 subst ex
 obtain rfl:u=Value.ref a:=rx
 exact uN hu I3 g ry rv fun s4 I4=>⟨σ,H4,I4,q3⟩
end
theorem xX {P:Program} {w:World} {H:Hp} (h:Heap) (hb:sysModules < h.objs.size):ObjOk P w H (h.push { cls:=.type "dict",data:=.dict #[] }) h.objs.size (.dT []) :=
 ⟨Nat.zero_le _,beq_eq_false_iff_ne.mpr (Ne.symm (Nat.ne_of_lt hb)),[],.nil,_,#[],0,Heap.get?_push_size _ rfl,⟨rfl,rfl,rfl⟩,rfl,rfl,List.nodup_nil⟩
noncomputable def xY:TE:=fun _ H Q=>∀p,H p=none→Q (.ref p) (upd H p (.dT []))
section
variable {X:Cx} {pos:Pos}
theorem iV:PE X (.Dict [] [] pos) xY:=fun pins s σ H Q I h =>
 wpAny_Dict_empty ⟨.ref s.heap.objs.size,_,I.laid (a:=s.heap.objs.size) (o:=.dT []) (t':=s.toks) (fun _ _ q=>Heap.get?_push_of_some _ q) (Nat.le_refl _) (xX s.heap I.big),rfl,h _ (I.hok.fresh (Nat.le_refl _))⟩
end
structure M2 (X:Cx) (o:Expr) (m:Str) (apos:Pos) (e f:Expr) (cpos:Pos):Prop where
 base:attributeBase o m X.env (eval o X.env)=eval o X.env
 few:((backTo cpos (starEach [e,f] X.env)).all (fun x=>!x.1) && (backToKw cpos (keywordEach [] X.env)).all (fun x=>x.1.isSome)
  && decide (([e,f]:List Expr).length + ([]:List Keyword).length + (if ([]:List Keyword).isEmpty then 0 else 1) < 30))=true
 line:(apos.endLine == cpos.line)=true
 trees:backTo cpos (starEach [e,f] X.env)=[(false,eval e X.env),(false,eval f X.env)]
noncomputable def IsD (H:Hp) (a:Addr):Prop:=(∃kvs,Rd H a (.dK kvs))∨∃kvs,Rd H a (.dT kvs)
theorem DP {X:Cx} {pins:List (Addr×Obj)} {σ:St} {H:Hp} {s:Shared} {a:Addr} (I:Inv X pins σ H s) (d:IsD H a) :
  s.TypeIs (.ref a) "dict" ∧ (∀b,Value.ref a=.ref b→∃ob,s.heap.get? b=some ob∧ob.dict=none)∧(a == sysModules)=false:=by
 rcases d with ⟨kvs,e⟩ | ⟨kvs,e⟩
 ·obtain⟨_,hd,vs,_,dd⟩:=j6 I.hok e
  refine⟨dd.typeIs,fun b q=>?_,hd⟩
  cases q
  obtain⟨ob,_,_,h1,h2,_⟩:=dd
  exact⟨ob,h1,h2.2.1⟩
 ·obtain⟨_,hd,xs,_,dd⟩:=j7 I.hok e
  refine⟨dd.typeIs,fun b q=>?_,hd⟩
  cases q
  obtain⟨ob,_,_,h1,h2,_⟩:=dd
  exact⟨ob,h1,h2.2.1⟩
section
variable {X:Cx} {pins:List (Addr×Obj)} {σ:St} {H:Hp} {s:Shared} {a:Addr} {y d:V} {u r:Value} {o:Option V} {A:Around} {E:Value→Shared→Prop}
theorem DQ {Q:Value→Shared→Prop} (hu:A.units + 1 < cLine) (I:Inv X pins σ H s) (g:DGet H a y o) (ry:RelV y u) (rd:RelV d r) (h:∀w' s',Inv X pins σ H s'→RelV (o.getD d) w'→Q w' s') :
  wpAny (model X.prog X.w) A (call (.builtin "dict.get") [.ref a,u,r]) Q E s:=by
 rcases g with ⟨kvs,k,e,ey,l⟩ | ⟨kvs,k,b,e,ey,eb,l⟩
 ·subst ey
  obtain⟨z,hd,vs,rel,dd⟩:=j6 I.hok e
  refine call_meetsIn PySem.F.slot_dict_get dd.typeIs PySem.F.entry_dict_get (PySem.F.args_dict_get_3 _ _ _) (meets_dict_get_default (bD X.prog X.w) a (mq ry) hd r) ⟨_,dd.mapOf,h _ _ (I.tok _) ?_⟩
  rw [l]
  exact (rel.val k).getD rd
 ·subst ey
  cases (show u=Value.ref b from ry)
  obtain⟨z,hd,xs,rel,dd⟩:=j7 I.hok e
  refine call_meetsIn PySem.F.slot_dict_get dd.typeIs PySem.F.entry_dict_get (PySem.F.args_dict_get_3 _ _ _) (meetsH_dict_get_default (tupleKind (bD X.prog X.w)) a b hd r) ⟨tupleKind_room_in1 hu,k,xs,iz I.hok eb,dd,h _ _ (I.tok _) ?_⟩
  rw [l]
  exact (rel.val k).getD rd
end
noncomputable def xZ (td ty tx:TE):TE:=fun σ H Q=>td σ H fun x H1=>∃a,x=.ref a∧IsD H1 a∧ty σ H1 fun y H2=>tx σ H2 fun z H3=>∃o,DGet H3 a y o∧Q (o.getD z) H3
section
variable {X:Cx} {o e f:Expr} {apos cpos:Pos} {td ty tx:TE}
theorem gw (hu:X.A.units + 1 < cLine) (ho:PE X o td) (he:PE X e ty) (hf:PE X f tx) (m:M2 X o "get" apos e f cpos):PE X (.Call (.Attribute o "get" apos) [e,f] [] cpos) (xZ td ty tx):=by
 intro pins s σ H Q I h
 refine wpAny_Call_method m.base m.few m.line PySem.F.plainAttrs_dict PySem.F.slot_dict_get PySem.F.type_dict_get (thn (ho pins s σ H _ I h) fun u s1 ⟨x,H1,I1,rx,a,ex,d,q1⟩=>?_)
 subst ex
 obtain rfl:u=Value.ref a:=rx
 obtain⟨t1,t2,_⟩:=DP I1 d
 refine⟨t1,t2,?_⟩
 rw [m.trees]
 refine Calls.callWith_builtin rfl (Calls.evalArgs_plain (Calls.spliced_cons (thn (he pins s1 σ H1 _ I1 q1) fun iv s2 ⟨y,H2,I2,ry,q2⟩ =>
  Calls.spliced_cons (thn (hf pins s2 σ H2 _ I2 q2) fun fv s3 ⟨z,H3,I3,rz,ov,g,q3⟩=>Calls.spliced_nil ?_))))
 exact DQ hu I3 g ry rz fun w' s4 I4 rw'=>⟨_,H3,I4,rw',q3⟩
end
section
variable {X:Cx} {pins:List (Addr×Obj)} {σ:St} {H:Hp} {s:Shared} {a:Addr} {kvs:List (Key×V)} {A:Around} {E:Value→Shared→Prop}
end
section
variable {X:Cx} {pins:List (Addr×Obj)} {σ:St} {H:Hp} {s:Shared} {a:Addr} {y:V} {u:Value} {A:Around} {E:Value→Shared→Prop}
end
end L2
namespace L2
open PySem PySem.Spec PyProof.Rows
section
variable {prog:Program} {w:World} {A:Around} {E:Value→Shared→Prop} {s:Shared} {it d:Addr} {i ep:Nat} {es:Array DictEntry} {o:Obj}
theorem yc {Q:Value→Shared→Prop} (hs:(d == sysModules)=false) (hd:s.heap.get? d=some o) (hx:o.ExactDict) (ht:s.TypeIs (.ref d) "dict") (hdat:o.data=.dict es ep)
  (hQ:Q (.ref s.heap.objs.size) { s with heap:=s.heap.push { cls:=.type "dict_keyiterator",data:=.fields #[.ref d,.int 0 0,.int es.size 0,.int ep 0] } }) :
  wpAny (model prog w) A (pyIter (.ref d)) Q E s:=by
 refine wpAny_pyIter_slot ht F.slot_dict_iter (wpAny_call_entry F.slot_dict_iter ht F.entry_dict_iter ?_ (F.args_dict_iter_1 _))
 unfold Builtin.«dict.__iter__» Builtin.Dict.dictSlotNone Builtin.Dict.showsAll
 refine wpAny_bind (wpAny_bind (wpAny_notOrdered_dict ht (wpAny_pure ?_)))
 show wpAny _ _ ((if (d == sysModules)=true then _ else _) >>= _) _ _ s
 rw [if_neg (by rw [hs];exact Bool.false_ne_true)]
 refine wpAny_bind (wpAny_pure (wpAny_bind (wpAny_dictEntries hd hdat (wpAny_bind (wpAny_dictEpoch hd hdat ?_)))))
 refine wpAny_bind (wpAny_newObj_type (wpAny_pure ⟨_,rfl,"dict_keyiterator",_,⟨_,Heap.get?_push_size _ rfl,rfl⟩,F.slot_dict_keyiterator_next.lookup,?_⟩))
 simpa [rawInt] using hQ
theorem yd {Q:Option Value→Shared→Prop} (hit:s.heap.IsKeyIter it d i es.size ep) (hd:s.heap.get? d=some o) (hdat:o.data=.dict es ep) (hlt:i < es.size)
  (hQ:∀h',h'.IsKeyIter it d (i + 1) es.size ep→Heap.SameBut it s.heap h'→Q (some es[i].key) { s with heap:=h' }) :
  wpAny (model prog w) A (pyNext (.ref it)) Q E s:=by
 obtain⟨oi,ho,hc,hf⟩:=id hit
 have hown:Builtin.Dict_items.ownsTuple "dict_keyiterator" = false:=by decide
 unfold pyNext
 refine wpAny_bind (wpAny_attempt (wpAny_callSpecial?_slot (name:=Str.ofString "__next__") hit.typeIs F.slot_dict_keyiterator_next
  (wpAny_call_entry F.slot_dict_keyiterator_next hit.typeIs F.entry_dict_keyiterator_next (wpAny_bind (wpAny_pure (wpAny_bind (wpAny_bind ?_)))) (F.args_dict_keyiterator_next_1 _))))
 refine wpAny_bind (wpAny_typeNameOfWhole_keyiter hit.typeIs (wpAny_pure (wpAny_bind (wpAny_fieldsOf ho hf ?_))))
 simp only [hown,Bool.false_eq_true,if_false]
 show wpAny _ _ (if (Value.ref d == Value.none)=true then _ else _) _ _ s
 rw [if_neg (show ¬ ((Value.ref d == Value.none)=true) from Bool.false_ne_true)]
 refine wpAny_bind (wpAny_pure (wpAny_bind (wpAny_dictEntries hd hdat ?_)))
 rw [if_neg (by simp)]
 refine wpAny_bind (wpAny_pure (wpAny_bind (wpAny_dictEpoch hd hdat ?_)))
 rw [if_neg (by simp)]
 refine wpAny_pure ?_
 simp only [show ¬ ((i:Int) < 0) from by lia,if_false,Int.toNat_natCast,Array.getElem?_eq_getElem hlt]
 refine wpAny_bind (wpAny_bind (wpAny_typeNameOfWhole_keyiter hit.typeIs (wpAny_pure (wpAny_bind (wpAny_isOneOf_keyiter hit.typeIs ?_)))))
 show wpAny _ _ (setField (.ref it) 1 (rawInt ((i:Int) + 1)) >>= _) _ _ s
 refine wpAny_bind (wpAny_setField ho hf (by simp) ?_)
 have hit2:(s.heap.update it (Obj.mapFields (·.setIfInBounds 1 (rawInt ((i:Int) + 1))))).IsKeyIter it d (i + 1) es.size ep :=
  ⟨_,Heap.get?_update_self _ ho (Obj.isFreed_of_fields (Obj.data_mapFields hf _)),(Obj.cls_mapFields ..).trans hc,by rw [Obj.data_mapFields hf];simp [rawInt]⟩
 refine wpAny_bind (wpAny_holding (wpAny_bind (wpAny_isOneOf_keyiter (s:={ s with heap:=s.heap.update it (Obj.mapFields (·.setIfInBounds 1 (rawInt ((i:Int) + 1)))) }) hit2.typeIs ?_)))
 show wpAny _ _ (pure es[i].key) _ _ _
 exact wpAny_pure (wpAny_pure ⟨_,rfl,wpAny_pure (hQ _ hit2 (Heap.SameBut.update ..))⟩)
theorem Al {Q:Option Value→Shared→Prop} (hh:A.handled=none) (hit:s.heap.IsKeyIter it d i es.size ep) (hd:s.heap.get? d=some o) (hdat:o.data=.dict es ep) (hge:es.size≤i)
  (hQ:∀h',Heap.ExtBut it s.heap h'→Q none { s with heap:=h' }):wpAny (model prog w) A (pyNext (.ref it)) Q E s:=by
 obtain⟨oi,ho,hc,hf⟩:=id hit
 have hown:Builtin.Dict_items.ownsTuple "dict_keyiterator" = false:=by decide
 unfold pyNext
 refine wpAny_bind (wpAny_attempt (wpAny_callSpecial?_slot (name:=Str.ofString "__next__") hit.typeIs F.slot_dict_keyiterator_next
  (wpAny_call_entry F.slot_dict_keyiterator_next hit.typeIs F.entry_dict_keyiterator_next (wpAny_bind (wpAny_pure (wpAny_bind (wpAny_bind ?_)))) (F.args_dict_keyiterator_next_1 _))))
 refine wpAny_bind (wpAny_typeNameOfWhole_keyiter hit.typeIs (wpAny_pure (wpAny_bind (wpAny_fieldsOf ho hf ?_))))
 simp only [hown,Bool.false_eq_true,if_false]
 show wpAny _ _ (if (Value.ref d == Value.none)=true then _ else _) _ _ s
 rw [if_neg (show ¬ ((Value.ref d == Value.none)=true) from Bool.false_ne_true)]
 refine wpAny_bind (wpAny_pure (wpAny_bind (wpAny_dictEntries hd hdat ?_)))
 rw [if_neg (by simp)]
 refine wpAny_bind (wpAny_pure (wpAny_bind (wpAny_dictEpoch hd hdat ?_)))
 rw [if_neg (by simp)]
 refine wpAny_pure ?_
 simp only [show ¬ ((i:Int) < 0) from by lia,if_false,Int.toNat_natCast,Array.getElem?_eq_none hge]
 refine wpAny_bind (wpAny_bind (wpAny_typeNameOfWhole_keyiter hit.typeIs (wpAny_pure ?_)))
 show wpAny _ _ (setField (.ref it) 0 .none >>= _) _ _ s
 refine wpAny_bind (wpAny_setField ho hf (by simp) ?_)
 show wpAny _ _ (newExc (.type "StopIteration") [] >>= _) _ _ _
 simp only [newExc,newTuple]
 refine wpAny_bind (wpAny_bind (wpAny_newObj_type ?_ (by size_fits)))
 refine wpAny_bind (m:=firstArgMember _ _) (wpAny_of_eq (a:=Value.none) (by first | rfl | (simp only [firstArgMember];rfl)) (wpAny_newObj_type ?_ (by size_fits)))
 simp only [raiseNew]
 refine wpAny_bind (wpAny_handled ?_)
 rw [show A.in1.handled=none from hh]
 refine wpAny_bind (wpAny_pure (wpAny_throw ?_))
 refine wpAny_bind (wpAny_isInstance (T := "StopIteration") (b:=true) ⟨_,Heap.get?_push_size _ rfl,rfl⟩ isSubtype_stop ?_)
 exact wpAny_pure (hQ _ (((Heap.SameBut.update ..).extBut.push _).push _))
end
noncomputable def Itd (d:Addr) (ob:Obj) (kvs:List (List Key×V)):It :=
 ⟨fun i H=>H d=some (.frz ob (.dT kvs))∧i < kvs.length,fun i H x H'=>H'=H∧∃b k v,kvs[i]? = some (k,v)∧x=.ref b∧H b=some (.tup (k.map kV)),fun i H=>H d=some (.frz ob (.dT kvs))∧kvs.length≤i⟩
theorem rE {P:Program} {w:World} {K:PySem.W.Frag} {tg:Expr} (d it:Addr) (ob:Obj) (es:Array DictEntry) (ep:Nat) (kvs:List (List Key×V)) (hdat:ob.data=.dict es ep) (hsz:es.size=kvs.length) :
  Turn P w K tg (Itd d ob kvs) [it] it (fun i h=>h.IsKeyIter it d i es.size ep) where
 mem:=by simp
 obj:=fun i h st b hb=>by
  have e:b=it:=by simpa using hb
  subst e
  obtain⟨o,e,c,dd⟩:=st
  exact⟨o,e,fun v z=>by rw [dd] at z;cases z⟩
 keep:=fun i h h' st k=>st.at fun o e=>k it (by simp) o e
 item:=by
  intro X hP hw hK hc i pins s σ H E I hf st hg
  subst hP hw hK
  obtain⟨hH,hlt⟩:=hg
  obtain⟨f0,f1,f2,f3,f4,f5⟩:=hf it (by simp)
  obtain⟨hob,hz,hsm,xs,rel,o',es',ep',g1,g2,g3,g4,g5⟩:=(show ObjOk X.prog X.w H s.heap d (.frz ob (.dT kvs)) from I.hok d _ hH)
  rw [hob] at g1
  cases g1
  rw [hdat] at g3
  cases g3
  have hlt':i < es.size:=by lia
  refine yd st hob hdat hlt' fun h' st' sb=>?_
  have I1:Inv X pins σ H { s with heap:=h' }:=I.turned (t':=s.toks) (fun b o hb e=>(sb.2 b hb).trans e) f0 f1 f3 f4 f5
  have hxl:xs.length=kvs.length:=(Paired.length rel).symm
  have hxi:xs[i]? = some xs[i]:=List.getElem?_eq_getElem (by lia)
  have hki:kvs[i]? = some kvs[i]:=List.getElem?_eq_getElem hlt
  obtain⟨q,hq,r1,r2,r3⟩:=Paired.get' rel hki
  rw [hxi] at hq
  have hq':xs[i]=q:=Option.some.inj hq
  have hkey:es[i].key=.ref q.2.1:=by
   have z:es.toList[i]? = (xs.map (entryOfKey (tupleKind (bD X.prog X.w))))[i]?:=by rw [g4]
   rw [List.getElem?_map,hxi,Array.getElem?_toList,Array.getElem?_eq_getElem hlt'] at z
   have z':=Option.some.inj z
   rw [z',hq']
   rfl
  rw [hkey]
  obtain⟨oi,ei,ci,di⟩:=id st'
  exact⟨_,rfl,o4 (s:={ s with heap:=h' }) ei ci di (by decide) ⟨.ref q.2.1,H,I1,rfl,⟨rfl,q.2.1,kvs[i].1,kvs[i].2,hki,rfl,r2⟩,st',fun b hb=>(hf b hb).1⟩⟩
 done:=by
  intro X hP hw hK hc i pins s σ H E I hf st hg
  subst hP hw hK
  obtain⟨hH,hge⟩:=hg
  obtain⟨f0,f1,f2,f3,f4,f5⟩:=hf it (by simp)
  obtain⟨hob,_⟩:=(show ObjOk X.prog X.w H s.heap d (.frz ob (.dT kvs)) from I.hok d _ hH)
  exact Al (I.ok.hd hc) st hob hdat (by lia) fun h' eb=>⟨rfl,I.turned (t':=s.toks) (fun b o hb e=>eb b o hb e) f0 f1 f3 f4 f5⟩
 self:=fun _ _ _ _ _ st h=>wpAny_pyIter_keyiter st h
section
variable {X:Cx} {pins:List (Addr×Obj)} {σ:St} {H:Hp} {s:Shared} {d:Addr} {kvs:List (List Key×V)}
theorem ye {P:Program} {w:World} {h:Heap} {o:HO} (n:∀xs,H d≠some (.tup xs)) (x:ObjOk P w H h d (.dT kvs)):ObjOk P w (upd H d o) h d (.dT kvs):=by
 obtain⟨hz,hsm,xs,rel,rest⟩:=x
 refine⟨hz,hsm,xs,?_,rest⟩
 clear rest hz hsm
 induction rel with
 | nil=>exact .nil
 | cons a _ ih=>exact .cons ⟨a.1,by rw [aG fun z=>n _ (by rw [← z];exact a.2.1)];exact a.2.1,a.2.2⟩ ih
theorem Inv.freeze {ob:Obj} (I:Inv X pins σ H s) (e:H d=some (.dT kvs)) (g:s.heap.get? d=some ob):Inv X pins σ (upd H d (.frz ob (.dT kvs))) s :=
 I.write (t':=s.toks) (x:=d) (e:=d) (by rw [e];exact True.intro) (.inl rfl) (fun _ _ _ q=>q) ⟨_,g⟩ ⟨g,ye (fun xs z=>by rw [e] at z;cases z) (I.hok d _ e)⟩
theorem Inv.thaw {ob:Obj} (I:Inv X pins σ H s) (e:H d=some (.frz ob (.dT kvs))) (hb:∀o u,X.H₀ d≠some (.frz o u)):Inv X pins σ (upd H d (.dT kvs)) s:=by
 have up:∀b u,H b=some u→b≠d→upd H d (.dT kvs) b=some u:=fun b u q z=>by rw [aG z];exact q
 have no:∀b,H b=none→upd H d (.dT kvs) b=none:=fun b q=>by rw [aG fun z=>by rw [z,e] at q;cases q];exact q
 refine⟨I.ok,I.os,I.bare,⟨I.base.keep,I.base.slot,fun b o e1 n hx=>no b (I.base.free b o e1 n hx),I.base.there,fun b xs q=>?_,fun b o u q=>?_,fun b ps q=>?_⟩,I.loc,I.cell,no _ I.free,fun x c q=>no _ (I.freeC x c q),fun p hp=>?_,fun b u q=>?_,I.len⟩
 ·have z:=I.base.tups b xs q
  exact up b _ z fun y=>by rw [y,e] at z;cases z
 ·exact up b _ (I.base.frzs b o u q) fun y=>hb o u (by rw [← y];exact q)
 ·obtain⟨m,z⟩:=I.base.tbls b ps q
  exact⟨m,up b _ z fun y=>by rw [y,e] at z;cases z⟩
 ·obtain⟨p1,p2,p3⟩:=I.pin p hp
  exact⟨p1,no _ p2,p3⟩
 ·by_cases z:b=d
  ·subst z
   rw [aj] at q
   cases q
   exact ye (fun xs y=>by rw [e] at y;cases y) (show ObjOk X.prog X.w H s.heap b (.frz ob (.dT kvs)) from I.hok b _ e).2
  ·rw [aG z] at q
   exact (I.hok b u q).stay (fun c v _ y=>y) (fun c y=>up _ _ y fun w=>by rw [w,e] at y;cases y) fun c xs y=>up _ _ y fun w=>by rw [w,e] at y;cases y
end
noncomputable def iDT (te:TE):TI:=fun σ H R=>te σ H fun x H1=>∃d kvs,x=.ref d∧H1 d=some (.dT kvs)∧∀ob,R (Itd d ob kvs) (upd H1 d (.frz ob (.dT kvs)))
theorem pK {X:Cx} {tg:Expr} {e:Expr} {te:TE} (he:PE X e te):PI X tg e (iDT te):=by
 intro pins s σ H R I h
 refine thn (he pins s σ H _ I h) fun v s1 ⟨x,H1,I1,r1,q1⟩=>?_
 obtain⟨d,kvs,rfl,hd,q⟩:=q1
 cases r1
 obtain⟨hz,hsm,xs,rel,o,es,ep,g1,g2,g3,g4,g5⟩:=id (show ObjOk X.prog X.w H1 s1.heap d (.dT kvs) from I1.hok d _ hd)
 have hxl:xs.length=kvs.length:=(Paired.length rel).symm
 have hsz:es.size=kvs.length:=by
  rw [← hxl,← Array.length_toList,g4,List.length_map]
 have hty:s1.TypeIs (.ref d) "dict" := ⟨o,g1,g2.1⟩
 have I2:=I1.freeze hd g1
 refine yc hsm g1 g2 hty g3 ?_
 refine⟨s1.heap.objs.size,[s1.heap.objs.size],_,_,_,rfl,I2.kept (t':=s1.toks) fun b o e=>Heap.get?_push_of_some _ e,rE d _ o es ep kvs g3 hsz,⟨_,Heap.get?_push_size _ rfl,rfl,rfl⟩,fun b hb=>?_,q o⟩
 have e:b=s1.heap.objs.size:=by simpa using hb
 subst e
 exact I2.fpOk (Nat.le_refl _) (I2.hok.fresh (Nat.le_refl _))
noncomputable def Cj (H0:Hp) (t:TS):TS:=fun D σ H=>∃d ob kvs,H d=some (.frz ob (.dT kvs))∧(∀o u,H0 d≠some (.frz o u))∧t D σ (upd H d (.dT kvs))
theorem pL {X:Cx} {sts:List Stmt} {t:TS} (h:PSs X sts t):PSs X sts (Cj X.H₀ t):=by
 intro pins s σ H D I hq
 obtain⟨d,ob,kvs,e,hb,q⟩:=hq
 exact h pins s σ _ D (I.thaw e hb) q
end L2
namespace My
open PySem L2
theorem mC {d:Addr} {ob:Obj} {kvs:List (List Key×V)} {σ:St} {H:Hp} {DN:St→Hp→Prop} {B:(St→Hp→Prop)→V→St→Hp→Prop} (Pv:Nat→St→Hp→Prop) (h0:Pv 0 σ H)
  (hl:∀i σ H,i≤kvs.length→Pv i σ H→H d=some (.frz ob (.dT kvs)))
  (hs:∀i b k v σ H,kvs[i]? = some (k,v)→H b=some (.tup (k.map kV))→Pv i σ H→B (Pv (i + 1)) (.ref b) σ H) (hd:∀σ H,Pv kvs.length σ H→DN σ H) :
  ∃W:Nat→Nat→St→Hp→Prop,(∃m,W 0 m σ H)∧∀i m σ H,W i m σ H →
   ((Itd d ob kvs).stop i H∧DN σ H)∨((Itd d ob kvs).go i H∧∃N:St→Hp→Prop,(∀σ' H',N σ' H'→∃m',m' < m∧W (i + 1) m' σ' H')∧∀x H',(Itd d ob kvs).yld i H x H'→B N x σ H'):=by
 refine⟨fun i m σ H=>m=kvs.length - i∧i≤kvs.length∧Pv i σ H,⟨kvs.length,by simp,Nat.zero_le _,h0⟩,?_⟩
 rintro i m σ H ⟨rfl,hi,p⟩
 have q:=hl i σ H hi p
 by_cases hlt:i < kvs.length
 ·refine .inr ⟨⟨q,hlt⟩,Pv (i + 1),fun σ' H' p'=>⟨kvs.length - (i + 1),by omega,rfl,hlt,p'⟩,fun x H' y=>?_⟩
  obtain⟨e,b,k,v,h1,h2,h3⟩:=y
  subst e h2
  exact hs i b k v σ _ h1 h3 p
 ·have e:i=kvs.length:=by lia
  subst e
  exact .inl ⟨⟨q,Nat.le_refl _⟩,hd σ H p⟩
end My
namespace L2
open PySem PySem.Spec PyProof.Rows
variable {X:Cx}
noncomputable def HQ:List V→Hp→VK→Prop:=fun xs H Q=>∃a kvs,xs=[.ref a,.ty "dict"]∧H a=some (.dT kvs)∧Q (.bl true) H
theorem yf:dC X (.builtin "isinstance") HQ:=by
 intro pins s σ H xs us Q I r h
 obtain⟨a,kvs,rfl,e,q⟩:=h
 obtain⟨u,u',rfl,rx,rT⟩:=vals2 r
 obtain rfl:u'=Value.type "dict" := rT
 exact lU I rx (.dT e) rfl fun tk=>⟨.bl _,H,I.tok _,rfl,q⟩
noncomputable def Am:V→List V→Hp→VK→Prop:=fun x vs H Q=>∃a kvs,x=.ref a∧vs=[]∧H a=some (.dT kvs)∧Q .non (upd H a (.dT []))
end L2
namespace My
open PySem L2
theorem gG (a:Int) (n:Nat):(upto a n).length=n:=by unfold upto;rw [List.length_map,List.length_range]
theorem dI (ps:List Pst):(cH ps).length=ps.length:=by unfold cH;exact gG _ _
end My
namespace L2
open PySem PySem.Spec PyProof.Rows
noncomputable def Itz (K:PySem.W.Frag) (a b:Addr):It :=
 ⟨fun i H=>∃xs ys x y,SqL K H a xs∧SqL K H b ys∧xs[i]? = some x∧ys[i]? = some y,
  fun i H v H'=>∃t x y,v=.ref t∧H t=none∧H'=upd H t (.tup [x,y])∧(∀xs,SqL K H a xs→xs[i]? = some x)∧(∀ys,SqL K H b ys→ys[i]? = some y),
  fun i H=>∃xs ys,SqL K H a xs∧SqL K H b ys∧(xs[i]? = none∨ys[i]? = none)⟩
section
variable {X:Cx} {pins:List (Addr×Obj)} {σ:St} {H:Hp} {s:Shared}
end
noncomputable def Jm (K:PySem.W.Frag) (ta:TA):TI:=fun σ H R=>ta σ H fun vs H1=>∃a b,vs=[.ref a,.ref b]∧(∃xs,SqL K H1 a xs)∧(∃ys,SqL K H1 b ys)∧R (Itz K a b) H1
end L2
namespace My
open PySem L2
theorem nho:¬ (("hand":Str) = "other"):=by decide +kernel
noncomputable def ho (h o:Int):List (Str×V):=bR "other" (.int o) (bR "hand" (.int h) [])
theorem nY (h o:Int):(ho h o).lookup ("hand":Str)=some (.int h):=by
 unfold ho
 rw [aC,if_neg nho,aC,if_pos rfl]
theorem pM (h o:Int):(ho h o).lookup ("other":Str)=some (.int o):=by
 unfold ho
 rw [aC,if_pos rfl]
theorem Ck (h o:Int) {x:Str} (h1:¬ x = "other") (h2:¬ x = "hand"):(ho h o).lookup x=none:=by
 unfold ho
 rw [aC,if_neg h1,aC,if_neg h2]
 rfl
noncomputable def jo (P d:Nat):List (Int×Int):=(List.range d).flatMap fun i:Nat=>(upto 1 P).map fun p=>((i:Int),p)
theorem jq (P d:Nat):jo P (d + 1)=jo P d ++ (upto 1 P).map fun p=>((d:Int),p):=by
 unfold jo
 rw [List.range_succ,List.flatMap_append,List.flatMap_singleton]
theorem gJ (P:Nat):∀d,(jo P d).length=d * P
 | 0=>by simp [jo]
 | d + 1=>by rw [jq,List.length_append,gJ P d,List.length_map,gG,Nat.succ_mul]
theorem upto1_mem {P:Nat} {v:Int}:v∈upto 1 P↔1≤v∧v≤P:=by
 unfold upto
 rw [List.mem_map]
 constructor
 ·rintro⟨j,hj,rfl⟩
  have:=List.mem_range.mp hj
  omega
 ·rintro⟨h1,h2⟩
  exact⟨v.toNat - 1,List.mem_range.mpr (by omega),by omega⟩
theorem plcI_mem {P d:Nat} {q:Int×Int}:q∈jo P d↔(0≤q.1∧q.1 < d)∧1≤q.2∧q.2≤P:=by
 unfold jo
 rw [List.mem_flatMap]
 constructor
 ·rintro⟨i,hi,h⟩
  obtain⟨p,hp,rfl⟩:=List.mem_map.mp h
  have:=List.mem_range.mp hi
  have:=upto1_mem.mp hp
  refine⟨⟨?_,?_⟩,this⟩
  ·show (0:Int)≤(i:Int);omega
  ·show (i:Int) < d;omega
 ·rintro⟨⟨h0,h1⟩,h2⟩
  exact⟨q.1.toNat,List.mem_range.mpr (by omega),List.mem_map.mpr ⟨q.2,upto1_mem.mpr h2,Prod.ext (by show ((q.1.toNat:Nat):Int)=q.1;omega) rfl⟩⟩
noncomputable def pN (h o n b:Int) (q:Int×Int):Lin:=⟨[⟨h,q.1,q.2,-1⟩,⟨o,q.1,q.2,n⟩],b⟩
noncomputable def fW (h o n b:Int) (P d:Nat):List Lin:=(jo P d).map (pN h o n b)
theorem mD {ns:List Int} {i:Nat} {v:V} (h:(ns.map V.int)[i]? = some v):∃y,ns[i]? = some y∧V.int y=v:=by
 rw [List.getElem?_map] at h
 exact Option.map_eq_some_iff.mp h
theorem dY {X:Cx} {e:PySem.Expr} {t1 t2:TE} (h1:PE X e t1) (h2:PE X e t2):PE X e (fun σ H Q=>t1 σ H Q∨t2 σ H Q):=fun pins s σ H Q I h=>h.elim (fun h=>h1 pins s σ H Q I h) fun h=>h2 pins s σ H Q I h
end My
namespace My
open PySem L2
end My
namespace My
open PySem L2
end My
set_option maxHeartbeats 4000000
namespace My
open PySem L2
noncomputable def plN (n:Nat) (k:Nat):List Nat:=(List.range k).filter fun i=>n.testBit i
noncomputable def pl (n:Int):List Int:=(plN n.toNat 40).map fun i:Nat=>(i:Int)
theorem pO {n k m:Nat} (h:∀i,k≤i→n.testBit i=false) (hk:k≤m):plN n k=plN n m:=by
 unfold plN
 obtain⟨d,rfl⟩:∃d,m=k + d:=⟨m - k,by lia⟩
 rw [List.range_add,List.filter_append]
 have:(List.map (fun x=>k + x) (List.range d)).filter (fun i=>n.testBit i)=[]:=by
  rw [List.filter_eq_nil_iff]
  intro a ha
  obtain⟨b,_,rfl⟩:=List.mem_map.mp ha
  rw [h _ (by lia)];decide
 rw [this,List.append_nil]
theorem yg (n k:Nat):plN n (k + 1)=plN n k ++ if n.testBit k then [k] else []:=by
 unfold plN
 rw [List.range_succ,List.filter_append]
 congr 1
 by_cases h:n.testBit k <;> simp [h]
theorem An (n k:Nat):(plN n k).length≤k:=by
 have:=List.length_filter_le (fun i=>n.testBit i) (List.range k)
 simpa [plN] using this
theorem Jo {n:Int} (h0:0≤n) (h:n < 2 ^ 40):n.toNat < 2 ^ 40:=by
 have e:(2:Int) ^ 40=1099511627776:=by decide
 have e':(2:Nat) ^ 40=1099511627776:=by decide
 lia
theorem Ao {n:Int} (h:0≤n) (i:Nat):decide (Builtin.bitAnd n (1 * 2 ^ i)=1 * 2 ^ i)=n.toNat.testBit i:=by
 have e:(1 * 2 ^ i:Int)=((2 ^ i:Nat):Int):=by simp
 have hi:(n.toNat &&& 2 ^ i=2 ^ i)↔n.toNat.testBit i=true:=by
  constructor
  ·intro z
   have:=congrArg (fun x=>x.testBit i) z
   simpa [Nat.testBit_and,Nat.testBit_two_pow] using this
  ·intro z
   refine Nat.eq_of_testBit_eq fun j=>?_
   rw [Nat.testBit_and,Nat.testBit_two_pow]
   by_cases q:i=j
   ·subst q;simp [z]
   ·simp [q]
 rw [e,PyProof.Rows.bitAnd_pp h (Int.natCast_nonneg _),Int.toNat_natCast,Bool.eq_iff_iff,decide_eq_true_eq,← hi]
 lia
theorem bits_le {n:Int} (h0:0≤n) (h:n < 2 ^ 40):Builtin.Int.intBits n≤40∧∀i,Builtin.Int.intBits n≤i→n.toNat.testBit i=false:=by
 have e:n.natAbs=n.toNat:=by lia
 constructor
 ·unfold Builtin.Int.intBits
  split
  ·exact Nat.zero_le _
  ·rename_i hz
   have hz':n.toNat≠0:=fun q=>hz (by simp;lia)
   have:n.toNat.log2 < 40:=(Nat.log2_lt hz').mpr (Jo h0 h)
   rw [e]
   lia
 ·intro i hi
  refine Nat.testBit_lt_two_pow ?_
  unfold Builtin.Int.intBits at hi
  split at hi
  ·rename_i hz
   have:n=0:=by simpa using hz
   subst this
   exact Nat.two_pow_pos i
  ·rename_i hz
   rw [e] at hi
   exact Nat.lt_of_lt_of_le (Nat.lt_log2_self) (Nat.pow_le_pow_right (by decide) hi)
end My
set_option maxHeartbeats 1000000
namespace My
open PySem L2
noncomputable def dJ (n:Nat) (d p:Int):List Prt:=(List.range n).map fun i:Nat=>⟨(i:Int),d,p,1⟩
theorem j8 (n:Nat) (d p:Int):dJ (n + 1) d p=dJ n d p ++ [⟨(n:Int),d,p,1⟩]:=by
 unfold dJ
 rw [List.range_succ,List.map_append]
 rfl
noncomputable def dsN (days d:Nat):List Int:=((List.range d).filter fun i=>days.testBit i).map fun i:Nat=>(i:Int)
theorem DR {days d:Nat} (hd:d≤40):pl ((days &&& (2 ^ d - 1):Nat):Int)=dsN days d:=by
 unfold pl dsN
 rw [Int.toNat_natCast]
 have h:plN (days &&& (2 ^ d - 1)) 40=(List.range d).filter fun i=>days.testBit i:=by
  rw [← pO (k:=d) (m:=40) (fun i hi=>by rw [Nat.testBit_and,Nat.testBit_two_pow_sub_one,decide_eq_false (by omega),Bool.and_false]) hd]
  unfold plN
  refine List.filter_congr fun i hi=>?_
  have:=List.mem_range.mp hi
  rw [Nat.testBit_and,Nat.testBit_two_pow_sub_one,decide_eq_true this,Bool.and_true]
 rw [h]
noncomputable def mF (h:Int) (ps:List Pst) (days d:Nat):List Lin:=(dsN days d).map fun x=>⟨spr h [x] (cH ps) (-1),0⟩
end My
namespace My
open PySem L2
theorem Jp:¬ (("day":Str) = "post"):=by decide +kernel
theorem Jq:¬ (("day":Str) = "many"):=by decide +kernel
theorem Jr:¬ (("post":Str) = "many"):=by decide +kernel
theorem HR:¬ (("hand":Str) = "days"):=by decide +kernel
noncomputable def wf3 (d p m:Int):List (Str×V):=bR "many" (.int m) (bR "post" (.int p) (bR "day" (.int d) []))
theorem nZ (d p m:Int):(wf3 d p m).lookup ("day":Str)=some (.int d):=by
 unfold wf3
 rw [aC,if_neg Jq,aC,if_neg Jp,aC,if_pos rfl]
theorem pP (d p m:Int):(wf3 d p m).lookup ("post":Str)=some (.int p):=by
 unfold wf3
 rw [aC,if_neg Jr,aC,if_pos rfl]
theorem pQ (d p m:Int):(wf3 d p m).lookup ("many":Str)=some (.int m):=by
 unfold wf3
 rw [aC,if_pos rfl]
theorem yh (d p m:Int) {x:Str} (h1:¬ x = "many") (h2:¬ x = "post") (h3:¬ x = "day"):(wf3 d p m).lookup x=none:=by
 unfold wf3
 rw [aC,if_neg h1,aC,if_neg h2,aC,if_neg h3]
 rfl
noncomputable def af2 (h s:Int):List (Str×V):=bR "days" (.int s) (bR "hand" (.int h) [])
theorem j9 (h s:Int):(af2 h s).lookup ("hand":Str)=some (.int h):=by
 unfold af2
 rw [aC,if_neg HR,aC,if_pos rfl]
theorem pR (h s:Int):(af2 h s).lookup ("days":Str)=some (.int s):=by
 unfold af2
 rw [aC,if_pos rfl]
theorem yj (h s:Int) {x:Str} (h1:¬ x = "days") (h2:¬ x = "hand"):(af2 h s).lookup x=none:=by
 unfold af2
 rw [aC,if_neg h1,aC,if_neg h2]
 rfl
end My
namespace My
open PySem L2
theorem yl (n:Nat):((2:Int) ^ n - 1)=((2 ^ n - 1:Nat):Int):=by
 have h:1≤2 ^ n:=Nat.one_le_two_pow
 rw [Int.natCast_sub h,Int.natCast_pow]
 rfl
theorem ym (s n:Nat):Builtin.bitAnd (s:Int) ((2:Int) ^ n - 1)=((s &&& (2 ^ n - 1):Nat):Int):=by
 rw [yl,PyProof.Rows.bitAnd_pp (Int.natCast_nonneg _) (Int.natCast_nonneg _),Int.toNat_natCast,Int.toNat_natCast]
theorem uO {s n:Nat} (h:s < 2147483648):((s &&& n:Nat):Int) < 2 ^ 40:=by
 have:s &&& n≤s:=Nat.and_le_left
 have e:(2:Int) ^ 40=1099511627776:=by decide
 omega
end My
namespace My
open PySem L2
end My
namespace My
open PySem L2
theorem pU (s i:Nat):(Builtin.bitAnd ((s:Int) / 2 ^ i) 1=1)↔s.testBit i=true:=by
 have e1:((s:Int) / 2 ^ i)=((s / 2 ^ i:Nat):Int):=by rw [Int.natCast_ediv,Int.natCast_pow];rfl
 rw [e1,PyProof.Rows.bitAnd_pp (Int.natCast_nonneg _) (by decide),Int.toNat_natCast,Nat.testBit_eq_decide_div_mod_eq,decide_eq_true_eq,show (1:Int).toNat=1 from rfl,Nat.and_one_is_mod]
 omega
theorem pW (s i:Nat):dsN s (i + 1)=dsN s i ++ if s.testBit i=true then [(i:Int)] else []:=by
 unfold dsN
 rw [List.range_succ,List.filter_append,List.map_append]
 congr 1
 cases h:s.testBit i
 ·rw [List.filter_cons_of_neg (by rw [h];exact Bool.false_ne_true)]
  rfl
 ·rw [List.filter_cons_of_pos (by exact h)]
  rfl
theorem jL (s i:Nat):(dsN s i).length≤i:=by
 unfold dsN
 rw [List.length_map]
 exact Nat.le_trans (List.length_filter_le _ _) (by rw [List.length_range];exact Nat.le_refl _)
end My
namespace My
open PySem L2 PySem.Spec
end My
namespace My
open PySem L2 PySem.Spec
end My
namespace My
open PySem L2 PySem.Spec
noncomputable def hrV (ps:List Pst) (p:Int):Int:=hrs ps p.toNat
noncomputable def byI (h:Int) (ps:List Pst) (d:Nat) (times:Int) (i:Nat):List Prt:=(upto 1 i).flatMap fun p=>spr h (upto 0 d) [p] (hrV ps p * times)
noncomputable def byH (h:Int) (ps:List Pst) (d:Nat) (times:Int):List Prt:=byI h ps d times ps.length
theorem fD (a:Int) (i:Nat):upto a (i + 1)=upto a i ++ [a + i]:=by
 unfold upto
 rw [List.range_succ,List.map_append]
 rfl
theorem pX (h:Int) (ps:List Pst) (d:Nat) (times:Int) (i:Nat):byI h ps d times (i + 1)=byI h ps d times i ++ spr h (upto 0 d) [1 + (i:Int)] (hrV ps (1 + i) * times):=by
 unfold byI
 rw [fD,List.flatMap_append]
 congr 1
 rw [List.flatMap_cons,List.flatMap_nil,List.append_nil]
theorem tQ (h:Int) (ps:List Pst) (d:Nat) (times:Int):∀i,(byI h ps d times i).length=i * d
 | 0=>by simp [byI,upto]
 | i + 1=>by rw [pX,List.length_append,tQ h ps d times i,cR,gG,Nat.succ_mul];simp
theorem DW {ps:List Pst} (h:∀q∈ps,okP q) (j:Nat):0≤hrs ps j∧hrs ps j≤1000000000:=by
 cases j with
 | zero=>exact⟨Int.le_refl 0,by show (0:Int)≤1000000000;decide⟩
 | succ k =>
  show 0≤(ps[k]?.getD post0).2.1∧(ps[k]?.getD post0).2.1≤1000000000
  cases e:ps[k]? with
  | none=>exact⟨by decide,by decide⟩
  | some q=>exact (h q (List.mem_of_getElem? e)).2.1
end My
namespace My
open PySem L2 PySem.Spec
theorem Js:¬ (("hand":Str) = "many"):=by decide +kernel
theorem Jt:¬ (("days":Str) = "many"):=by decide +kernel
theorem Ju:¬ (("hand":Str) = "least"):=by decide +kernel
theorem Jv:¬ (("hand":Str) = "most"):=by decide +kernel
theorem Jw:¬ (("least":Str) = "most"):=by decide +kernel
noncomputable def mf3 (h s m:Int):List (Str×V):=bR "many" (.int m) (bR "days" (.int s) (bR "hand" (.int h) []))
theorem fG (h s m:Int):(mf3 h s m).lookup ("hand":Str)=some (.int h):=by
 unfold mf3
 rw [aC,if_neg Js,aC,if_neg HR,aC,if_pos rfl]
theorem iW (h s m:Int):(mf3 h s m).lookup ("days":Str)=some (.int s):=by
 unfold mf3
 rw [aC,if_neg Jt,aC,if_pos rfl]
theorem gK (h s m:Int):(mf3 h s m).lookup ("many":Str)=some (.int m):=by
 unfold mf3
 rw [aC,if_pos rfl]
theorem oh (h s m:Int) {x:Str} (h1:¬ x = "many") (h2:¬ x = "days") (h3:¬ x = "hand"):(mf3 h s m).lookup x=none:=by
 unfold mf3
 rw [aC,if_neg h1,aC,if_neg h2,aC,if_neg h3]
 rfl
noncomputable def qf3 (h l m:Int):List (Str×V):=bR "most" (.int m) (bR "least" (.int l) (bR "hand" (.int h) []))
theorem kh (h l m:Int):(qf3 h l m).lookup ("hand":Str)=some (.int h):=by
 unfold qf3
 rw [aC,if_neg Jv,aC,if_neg Ju,aC,if_pos rfl]
theorem mG (h l m:Int):(qf3 h l m).lookup ("least":Str)=some (.int l):=by
 unfold qf3
 rw [aC,if_neg Jw,aC,if_pos rfl]
theorem pY (h l m:Int):(qf3 h l m).lookup ("most":Str)=some (.int m):=by
 unfold qf3
 rw [aC,if_pos rfl]
theorem ou (h l m:Int) {x:Str} (h1:¬ x = "most") (h2:¬ x = "least") (h3:¬ x = "hand"):(qf3 h l m).lookup x=none:=by
 unfold qf3
 rw [aC,if_neg h1,aC,if_neg h2,aC,if_neg h3]
 rfl
theorem eQ {a:Int} {n:Nat} {x:Int} (h:x∈upto a n):a≤x∧x < a + n:=by
 unfold upto at h
 obtain⟨i,hi,rfl⟩:=List.mem_map.mp h
 have:=List.mem_range.mp hi
 omega
end My
namespace My
open PySem L2
noncomputable def kk (h d p:Int):List Key:=[Sum.inl h,Sum.inl d,Sum.inl p]
noncomputable def iv:Option V→Int
 | some (.int i)=>i
 | _=>0
noncomputable def dj (t:Int) (kvs:List (List Key×V)) (q:Prt):List (List Key×V):=putK kvs (kk q.h q.d q.p) (.int (iv (bW kvs (kk q.h q.d q.p)) + q.n * t))
noncomputable def oA (kvs:List (List Key×V)) (l:Lin×Int):List (List Key×V):=l.1.ps.foldl (dj l.2) kvs
noncomputable def bJ (ls:List (Lin×Int)):List (List Key×V):=ls.foldl oA []
noncomputable def dW (ls:List (Lin×Int)):Int:=(ls.map fun l=>l.1.b * l.2).sum
noncomputable def dX (kvs:List (List Key×V)):Prop:=∀k v,bW kvs k=some v→∃i:Int,v=.int i
theorem gM:dX []:=fun k v h=>by cases h
theorem km {kvs:List (List Key×V)} (h:dX kvs) (k:List Key) (i:Int):dX (putK kvs k (.int i)):=fun j v e=>by
 rw [iT] at e
 by_cases z:j=k
 ·rw [if_pos z] at e
  cases e
  exact⟨i,rfl⟩
 ·rw [if_neg z] at e
  exact h j v e
theorem rF {kvs:List (List Key×V)} (h:dX kvs) (k:List Key):(bW kvs k).getD (.int 0)=.int (iv (bW kvs k)):=by
 cases e:bW kvs k with
 | none=>rfl
 | some v =>
  obtain⟨i,rfl⟩:=h k v e
  rfl
theorem Aq {t:Int} {kvs:List (List Key×V)} {q:Prt} (h:dX kvs):dX (dj t kvs q):=km h _ _
theorem iY {t:Int}:∀ {qs:List Prt} {kvs:List (List Key×V)},dX kvs→dX (qs.foldl (dj t) kvs)
 | [],_,h=>h
 | _ :: qs,_,h=>iY (qs:=qs) (Aq h)
theorem iZ:∀ {ls:List (Lin×Int)} {kvs:List (List Key×V)},dX kvs→dX (ls.foldl oA kvs)
 | [],_,h=>h
 | l :: ls,_,h=>iZ (ls:=ls) (iY (qs:=l.1.ps) h)
theorem gW {t:Int}:∀ {qs:List Prt} {kvs:List (List Key×V)},(qs.foldl (dj t) kvs).length≤kvs.length + qs.length
 | [],_=>Nat.le_refl _
 | q :: qs,kvs=>by
  have h1:=gW (t:=t) (qs:=qs) (kvs:=dj t kvs q)
  have h2:(dj t kvs q).length≤kvs.length + 1:=dF _ _ _
  show (qs.foldl (dj t) (dj t kvs q)).length≤_
  rw [List.length_cons]
  omega
noncomputable def bL (ls:List (Lin×Int)):Nat:=(ls.map fun l=>l.1.ps.length).sum
theorem gY:∀ {ls:List (Lin×Int)} {kvs:List (List Key×V)},(ls.foldl oA kvs).length≤kvs.length + bL ls
 | [],_=>Nat.le_refl _
 | l :: ls,kvs=>by
  have h1:=gY (ls:=ls) (kvs:=oA kvs l)
  have h2:(oA kvs l).length≤kvs.length + l.1.ps.length:=gW
  show (ls.foldl oA (oA kvs l)).length≤_
  have h3:bL (l :: ls)=l.1.ps.length + bL ls:=by unfold bL;rw [List.map_cons,List.sum_cons]
  omega
noncomputable def kE (kvs:List (List Key×V)):Prop:=(kvs.map (·.1)).Nodup
theorem kI {kvs:List (List Key×V)} (h:kE kvs) (k:List Key) (v:V):kE (putK kvs k v):=by
 unfold kE putK at *
 split
 ·have e:(kvs.map fun kv=>if kv.1=k then (kv.1,v) else kv).map (·.1)=kvs.map (·.1):=by
   rw [List.map_map]
   refine List.map_congr_left fun kv _=>?_
   show (if kv.1=k then (kv.1,v) else kv).1=kv.1
   split <;> rfl
  rw [e]
  exact h
 ·rename_i hn
  rw [List.map_append,List.nodup_append]
  refine⟨h,by simp,fun a ha b hb=>?_⟩
  rw [show b=k by simpa using hb]
  intro z
  obtain⟨kv,hkv,rfl⟩:=List.mem_map.mp ha
  exact hn (List.any_eq_true.mpr ⟨kv,hkv,decide_eq_true z⟩)
theorem DX {kvs:List (List Key×V)} (h:kE kvs) {i:Nat} {k:List Key} {v:V} (e:kvs[i]? = some (k,v)):bW kvs k=some v:=by
 induction kvs generalizing i with
 | nil=>simp at e
 | cons p r ih =>
  unfold kE at h
  rw [List.map_cons,List.nodup_cons] at h
  cases i with
  | zero =>
   rw [List.getElem?_cons_zero] at e
   cases e
   exact cM rfl
  | succ j =>
   rw [List.getElem?_cons_succ] at e
   rw [cN fun z=>h.1 (by rw [z];exact List.mem_map.mpr ⟨_,List.mem_of_getElem? e,rfl⟩)]
   exact ih h.2 e
noncomputable def PrV (H:Hp) (v:V) (l:Lin×Int):Prop:=∃t u,v=.ref t∧H t=some (.tup [.ref u,.int l.2])∧LinV H (.ref u) l.1
noncomputable abbrev Prs (H:Hp):List V→List (Lin×Int)→Prop:=Paired (PrV H)
theorem PrV.mono {H H':Hp} (g:gr H H') {v:V} {l:Lin×Int} (h:PrV H v l):PrV H' v l:=by
 obtain⟨t,u,e,h1,h2⟩:=h
 exact⟨t,u,e,g _ _ h1,h2.mono g⟩
theorem Prs.mono {H H':Hp} (g:gr H H') {ts:List V} {ls:List (Lin×Int)} (h:Prs H ts ls):Prs H' ts ls:=Paired.mapP h fun _ _=>PrV.mono g
end My
namespace L2
open PySem PySem.Spec PyProof.Rows
section
variable {prog:Program} {w:World} {A:Around} {E:Value→Shared→Prop} {s:Shared}
end
end L2
namespace L2
open PySem
end L2
namespace L2
open PySem
end L2
namespace My
open PySem L2
theorem eU {ns:List Int} {i:Nat} {v:V} (h:(ns.map V.int)[i]? = some v):∃x,ns[i]? = some x∧v=.int x:=by
 rw [List.getElem?_map] at h
 cases hz:ns[i]? with
 | none=>rw [hz] at h;cases h
 | some x=>rw [hz] at h;exact⟨x,rfl,(Option.some.inj h).symm⟩
end My
namespace My
open PySem L2
end My
namespace My
open PySem L2
end My
namespace L2
open PySem PySem.Spec PyProof.Rows
section
variable {X:Cx}
end
end L2
namespace My
end My
namespace My
open PySem L2
end My
namespace My
open PySem L2
end My
namespace My
open PySem L2
end My
namespace My
open PySem L2
end My
namespace L2
open PySem PySem.Spec PyProof.Rows
end L2
namespace My
open PySem L2
end My
namespace My
open PySem L2
end My
namespace My
open PySem L2
end My
namespace My
open PySem L2
end My
namespace My
open PySem L2
end My
namespace L2
open PySem PySem.Spec PyProof.Rows
end L2
namespace My
open PySem L2
end My
namespace My
open PySem L2
end My
namespace L2
open PySem PySem.Spec PyProof.Rows
end L2
namespace L2
open PySem PySem.Spec PyProof.Rows
end L2
namespace L2
open PySem
end L2
namespace My
open PySem L2
theorem Ar {c:TT} {tb:TS} {D:Ends} {σ:St} {H:Hp} (h:∀B:TS,B=tb→nu c B D σ H):nu c tb D σ H:=h tb rfl
structure PsG (H:Hp) (L:Addr) (i:Nat) (H':Hp):Prop where
 ex:∃ (ts:List V) (ps:List Pst),ps.length=i∧Same H H'∧H' L=some (.lst ts)∧Posts H' ts ps∧∀q∈ps,okP q
theorem PsG.start {H:Hp} {L:Addr} (hL:H L=none):PsG H L 0 (upd H L (.lst [])):=⟨[],[],rfl,same_new hL _,aj,.nil,fun q z=>by cases z⟩
theorem PsG.same {H H':Hp} {L:Addr} {i:Nat} (h:PsG H L i H'):Same H H':=by
 obtain⟨_,_,_,g,_⟩:=h.ex
 exact g
theorem PsG.mono {H H' H2:Hp} {L:Addr} {i:Nat} (h:PsG H L i H') (g:Same H' H2):PsG H L i H2:=by
 obtain⟨ts,ps,hl,g0,e,hP,ok⟩:=h.ex
 exact⟨ts,ps,hl,g0.trans g,g _ _ e,hP.mono g,ok⟩
theorem PsG.step {H H':Hp} {L t:Addr} {i:Nat} {q:Pst} (h:PsG H L i H') (hL:H L=none) (hi:i≤900) (ht:H' t=none) (hq:okP q) :
  ∃xs,upd H' t (.tup [.int q.1,.int q.2.1,.int q.2.2]) L=some (.lst xs)∧xs.length < sizeLine∧PsG H L (i + 1) (upd (upd H' t (.tup [.int q.1,.int q.2.1,.int q.2.2])) L (.lst (xs ++ [.ref t]))):=by
 obtain⟨ts,ps,hl,g,e,hP,ok⟩:=h.ex
 have htl:=hP.len
 have gt:=same_new ht (.tup [.int q.1,.int q.2.1,.int q.2.2])
 refine⟨ts,gt _ _ e,aW (by omega),ts ++ [.ref t],ps ++ [q],by rw [List.length_append,hl];rfl,aY hL (g.trans gt) _,aj,?_,fun q' hq'=>?_⟩
 ·have h1:Posts (upd H' t (.tup [.int q.1,.int q.2.1,.int q.2.2])) (ts ++ [.ref t]) (ps ++ [q]):=bz (hP.mono gt) ⟨t,rfl,aj⟩
  exact Paired.mapP h1 fun _ _ ⟨t',e',q'⟩=>⟨t',e',(bK (gt _ _ e)) _ _ q'⟩
 ·rcases List.mem_append.mp hq' with z | z
  ·exact ok q' z
  ·rw [List.mem_singleton.mp z];exact hq
theorem Posts.tmono {H H':Hp} (g:gr H H') {ts:List V} {ps:List Pst} (h:Posts H ts ps):Posts H' ts ps:=Paired.mapP h fun _ _ ⟨t,e,q⟩=>⟨t,e,g _ _ q⟩
end My
namespace My
open PySem L2
structure Sp4 where
 k:Nat
 a:Int
 b:Int
 c:Int
structure jr (d:Int) (n P:Nat) (s:Sp4):Prop where
 k6:s.k≤6
 P0:0 < P
 w:s.k=0→0≤s.a∧s.a < d∧0≤s.c∧s.c≤99
 h:s.k≠0→0≤s.a∧s.a < (n:Int)
 b:s.k=1∨s.k=2∨s.k=3→0≤s.b∧s.b < 2147483648
 c1:s.k=1→-1≤s.c∧s.c≤99
 c2:s.k=2→0≤s.c∧s.c≤99
 c4:s.k=4→0≤s.c∧s.c≤99
 q:s.k=5→0≤s.b∧s.b≤100000000000∧-1≤s.c∧s.c≤100000000000
 o:s.k=6→0≤s.b∧s.b < (n:Int)∧s.a≠s.b
noncomputable def fieldsOf (P:Nat) (s:Sp4):List (Str×V) :=
 if s.k=0 then wf3 s.a (1 + s.b % (P:Int)) s.c else if s.k=1 then mf3 s.a s.b s.c else if s.k=2 then mf3 s.a s.b s.c else if s.k=3 then af2 s.a s.b else if s.k=4 then hm s.a s.c else if s.k=5 then qf3 s.a s.b s.c else ho s.a s.b
noncomputable def cI (d n:Nat) (ps:List Pst) (s:Sp4):List Lin :=
 if s.k=0 then [⟨dJ n s.a (1 + s.b % (ps.length:Int)),s.c⟩] else if s.k=1 then [⟨spr s.a (dsN s.b.toNat d) (cH ps) (-1),-s.c⟩] else if s.k=2 then [⟨spr s.a (dsN s.b.toNat d) (cH ps) 1,s.c⟩] else if s.k=3 then mF s.a ps s.b.toNat d else if s.k=4 then dH s.a s.c d (np ps) else if s.k=5 then [⟨byH s.a ps d 1,s.b⟩,⟨byH s.a ps d (-1),-s.c⟩] else fW s.a s.b (-1) (-1) ps.length d
noncomputable def iB (ps:List Pst) (i m:Int) (q:Prt):Bool:=ngt ps q.p.toNat && (decide (i≤q.d) && decide (q.d≤i + m))
noncomputable def gZ (h m:Int) (d:Nat) (ps:List Pst):List Lin:=(List.range ((d:Int) - m).toNat).map fun i:Nat=>⟨(spr h (upto 0 d) (cH ps) (-1)).filter (iB ps i m),-m⟩
noncomputable def gO (h:Int) (d:Nat) (ps:List Pst) (t:Int):List Prt:=(spr h (upto 0 d) (cH ps) 1).map fun q=>⟨q.h,q.d,q.p,hrV ps q.p * t⟩
noncomputable def fH (d n:Nat) (ps:List Pst) (s:Sp4):List Lin :=
 if s.k=4 then gZ s.a s.c d ps else if s.k=5 then [⟨gO s.a d ps 1,s.b⟩,⟨gO s.a d ps (-1),-s.c⟩] else cI d n ps s
theorem HS {α:Type} (f g:α→Int):∀xs:List α,(xs.map fun x=>f x + g x).sum=(xs.map f).sum + (xs.map g).sum
 | []=>rfl
 | x :: xs=>by
  rw [List.map_cons,List.map_cons,List.map_cons,List.sum_cons,List.sum_cons,List.sum_cons,HS f g xs]
  lia
theorem sumZ {α:Type}:∀xs:List α,(xs.map fun _=>(0:Int)).sum=0
 | []=>rfl
 | _ :: xs=>by rw [List.map_cons,List.sum_cons,sumZ xs];rfl
theorem Cm {α β:Type} (f:α→β→Int) (ys:List β):∀xs:List α,(xs.map fun x=>(ys.map (f x)).sum).sum=(ys.map fun y=>(xs.map fun x=>f x y).sum).sum
 | []=>(sumZ ys).symm
 | x :: xs=>by
  rw [List.map_cons,List.sum_cons,Cm f ys xs,← HS]
  rfl
theorem tR (i m:Nat):∀d:Nat,(upto 0 d).filter (fun x=>decide ((i:Int)≤x) && decide (x≤(i:Int) + m))=upto i (min (d - i) (m + 1))
 | 0=>by rw [Nat.zero_sub,Nat.zero_min];rfl
 | d + 1=>by
  rw [fD,List.filter_append,tR i m d]
  by_cases h1:i≤d
  ·by_cases h2:d≤i + m
   ·have e1:min (d - i) (m + 1)=d - i:=by lia
    have e2:min (d + 1 - i) (m + 1)=(d - i) + 1:=by omega
    rw [e1,e2,fD]
    congr 1
    rw [List.filter_cons,List.filter_nil,if_pos (by simp;lia)]
    congr 1
    lia
   ·have e1:min (d - i) (m + 1)=m + 1:=by lia
    have e2:min (d + 1 - i) (m + 1)=m + 1:=by omega
    rw [e1,e2,List.filter_cons,List.filter_nil,if_neg (by simp;lia),List.append_nil]
  ·have e1:d - i=0:=by lia
   have e2:d + 1 - i=0:=by omega
   rw [e1,e2,Nat.zero_min,List.filter_cons,List.filter_nil,if_neg (by simp;omega),List.append_nil]
theorem uP (ps:List Pst):(cH ps).filter (fun p=>ngt ps p.toNat)=np ps:=by
 unfold cH np npI upto
 rw [List.filter_map]
 refine congrArg (List.map _) ?_
 refine List.filter_congr fun k _=>?_
 show ngt ps (1 + (k:Int)).toNat=ngt ps (k + 1)
 rw [show (1 + (k:Int)).toNat=k + 1 by lia]
theorem jb (h m:Int) (d:Nat) (ps:List Pst) (hm:0≤m):gZ h m d ps=dH h m d (np ps):=by
 obtain⟨m,rfl⟩:∃m':Nat,m=m':=⟨m.toNat,by lia⟩
 unfold gZ dH
 refine List.map_congr_left fun i hi=>?_
 have hi':=List.mem_range.mp hi
 have key:(spr h (upto 0 d) (cH ps) (-1)).filter (iB ps i m)=spr h (upto i ((m:Int) + 1).toNat) (np ps) (-1):=by
  rw [show ((m:Int) + 1).toNat=m + 1 by lia,← uP]
  have hw:=tR i m d
  rw [show min (d - i) (m + 1)=m + 1 by lia] at hw
  rw [← hw]
  unfold spr
  rw [List.filter_flatMap]
  generalize upto 0 d=xs
  induction xs with
  | nil=>rfl
  | cons x xs ih =>
   rw [List.flatMap_cons,ih,List.filter_cons]
   have e0:((cH ps).map fun p=>(⟨h,x,p,-1⟩:Prt)).filter (iB ps i m)=if (decide ((i:Int)≤x) && decide (x≤(i:Int) + m))=true then ((cH ps).filter fun p=>ngt ps p.toNat).map fun p=>⟨h,x,p,-1⟩ else []:=by
    rw [List.filter_map]
    by_cases z:(decide ((i:Int)≤x) && decide (x≤(i:Int) + m))=true
    ·rw [if_pos z]
     refine congrArg (List.map _) (List.filter_congr fun p _=>?_)
     show (ngt ps p.toNat && (decide ((i:Int)≤x) && decide (x≤(i:Int) + m)))=_
     rw [z,Bool.and_true]
    ·rw [if_neg z]
     rw [List.map_eq_nil_iff,List.filter_eq_nil_iff]
     intro p _ y
     have y':(ngt ps p.toNat && (decide ((i:Int)≤x) && decide (x≤(i:Int) + m)))=true:=y
     rw [Bool.and_eq_true] at y'
     exact z y'.2
   rw [e0]
   by_cases z:(decide ((i:Int)≤x) && decide (x≤(i:Int) + m))=true
   ·rw [if_pos z,if_pos z,List.flatMap_cons]
   ·rw [if_neg z,if_neg z,List.nil_append]
 rw [key]
end My
namespace L2
open PySem
end L2
namespace My
open PySem L2
noncomputable def clsOf (W M L A N Q P:Addr) (k:Nat):Addr:=if k=0 then W else if k=1 then M else if k=2 then L else if k=3 then A else if k=4 then N else if k=5 then Q else P
noncomputable def lK (C:Nat→Addr) (P:Nat) (H:Hp) (v:V) (s:Sp4):Prop:=∃x dx,v=.ref x∧H x=some (.ins (C s.k) dx (fieldsOf P s))
theorem Cp {W M L A N Q P:Addr} {n:Nat} {H:Hp} {x dx:Addr} {s:Sp4} (hk:s.k=0) (e:H x=some (.ins (clsOf W M L A N Q P s.k) dx (fieldsOf n s))):H x=some (.ins W dx (wf3 s.a (1 + s.b % (n:Int)) s.c)):=by
 unfold clsOf fieldsOf at e
 rw [if_pos hk,if_pos hk] at e
 exact e
theorem Cq {W M L A N Q P:Addr} {n:Nat} {H:Hp} {x dx:Addr} {s:Sp4} (hk:s.k=1) (e:H x=some (.ins (clsOf W M L A N Q P s.k) dx (fieldsOf n s))):H x=some (.ins M dx (mf3 s.a s.b s.c)):=by
 unfold clsOf fieldsOf at e
 rw [if_neg (by lia),if_pos hk,if_neg (by lia),if_pos hk] at e
 exact e
theorem Cr {W M L A N Q P:Addr} {n:Nat} {H:Hp} {x dx:Addr} {s:Sp4} (hk:s.k=2) (e:H x=some (.ins (clsOf W M L A N Q P s.k) dx (fieldsOf n s))):H x=some (.ins L dx (mf3 s.a s.b s.c)):=by
 unfold clsOf fieldsOf at e
 rw [if_neg (by lia),if_neg (by lia),if_pos hk,if_neg (by lia),if_neg (by lia),if_pos hk] at e
 exact e
theorem Cu {W M L A N Q P:Addr} {n:Nat} {H:Hp} {x dx:Addr} {s:Sp4} (hk:s.k=3) (e:H x=some (.ins (clsOf W M L A N Q P s.k) dx (fieldsOf n s))):H x=some (.ins A dx (af2 s.a s.b)):=by
 unfold clsOf fieldsOf at e
 rw [if_neg (by lia),if_neg (by lia),if_neg (by lia),if_pos hk,if_neg (by lia),if_neg (by lia),if_neg (by lia),if_pos hk] at e
 exact e
theorem Cv {W M L A N Q P:Addr} {n:Nat} {H:Hp} {x dx:Addr} {s:Sp4} (hk:s.k=4) (e:H x=some (.ins (clsOf W M L A N Q P s.k) dx (fieldsOf n s))):H x=some (.ins N dx (hm s.a s.c)):=by
 unfold clsOf fieldsOf at e
 rw [if_neg (by lia),if_neg (by lia),if_neg (by lia),if_neg (by lia),if_pos hk,if_neg (by lia),if_neg (by lia),if_neg (by lia),if_neg (by lia),if_pos hk] at e
 exact e
theorem Cw {W M L A N Q P:Addr} {n:Nat} {H:Hp} {x dx:Addr} {s:Sp4} (hk:s.k=5) (e:H x=some (.ins (clsOf W M L A N Q P s.k) dx (fieldsOf n s))):H x=some (.ins Q dx (qf3 s.a s.b s.c)):=by
 unfold clsOf fieldsOf at e
 rw [if_neg (by lia),if_neg (by lia),if_neg (by lia),if_neg (by lia),if_neg (by lia),if_pos hk,if_neg (by lia),if_neg (by lia),if_neg (by lia),if_neg (by lia),if_neg (by lia),if_pos hk] at e
 exact e
theorem Cy {W M L A N Q P:Addr} {n:Nat} {H:Hp} {x dx:Addr} {s:Sp4} (hk:s.k=6) (e:H x=some (.ins (clsOf W M L A N Q P s.k) dx (fieldsOf n s))):H x=some (.ins P dx (ho s.a s.b)):=by
 unfold clsOf fieldsOf at e
 rw [if_neg (by lia),if_neg (by lia),if_neg (by lia),if_neg (by lia),if_neg (by lia),if_neg (by lia),if_neg (by lia),if_neg (by lia),if_neg (by lia),if_neg (by lia),if_neg (by lia),if_neg (by lia)] at e
 exact e
theorem HW {W M L A N Q P:Addr} {n:Nat} {H:Hp} {x dx:Addr} {s:Sp4} (hk:s.k=0) (e:H x=some (.ins W dx (wf3 s.a (1 + s.b % (n:Int)) s.c))):lK (clsOf W M L A N Q P) n H (.ref x) s:=by
 refine⟨x,dx,rfl,?_⟩
 unfold clsOf fieldsOf
 rw [if_pos hk,if_pos hk]
 exact e
theorem HX {W M L A N Q P:Addr} {n:Nat} {H:Hp} {x dx:Addr} {s:Sp4} (hk:s.k=1) (e:H x=some (.ins M dx (mf3 s.a s.b s.c))):lK (clsOf W M L A N Q P) n H (.ref x) s:=by
 refine⟨x,dx,rfl,?_⟩
 unfold clsOf fieldsOf
 rw [if_neg (by lia),if_pos hk,if_neg (by lia),if_pos hk]
 exact e
theorem HY {W M L A N Q P:Addr} {n:Nat} {H:Hp} {x dx:Addr} {s:Sp4} (hk:s.k=2) (e:H x=some (.ins L dx (mf3 s.a s.b s.c))):lK (clsOf W M L A N Q P) n H (.ref x) s:=by
 refine⟨x,dx,rfl,?_⟩
 unfold clsOf fieldsOf
 rw [if_neg (by lia),if_neg (by lia),if_pos hk,if_neg (by lia),if_neg (by lia),if_pos hk]
 exact e
theorem Ia {W M L A N Q P:Addr} {n:Nat} {H:Hp} {x dx:Addr} {s:Sp4} (hk:s.k=3) (e:H x=some (.ins A dx (af2 s.a s.b))):lK (clsOf W M L A N Q P) n H (.ref x) s:=by
 refine⟨x,dx,rfl,?_⟩
 unfold clsOf fieldsOf
 rw [if_neg (by lia),if_neg (by lia),if_neg (by lia),if_pos hk,if_neg (by lia),if_neg (by lia),if_neg (by lia),if_pos hk]
 exact e
theorem Ib {W M L A N Q P:Addr} {n:Nat} {H:Hp} {x dx:Addr} {s:Sp4} (hk:s.k=4) (e:H x=some (.ins N dx (hm s.a s.c))):lK (clsOf W M L A N Q P) n H (.ref x) s:=by
 refine⟨x,dx,rfl,?_⟩
 unfold clsOf fieldsOf
 rw [if_neg (by lia),if_neg (by lia),if_neg (by lia),if_neg (by lia),if_pos hk,if_neg (by lia),if_neg (by lia),if_neg (by lia),if_neg (by lia),if_pos hk]
 exact e
theorem Ie {W M L A N Q P:Addr} {n:Nat} {H:Hp} {x dx:Addr} {s:Sp4} (hk:s.k=5) (e:H x=some (.ins Q dx (qf3 s.a s.b s.c))):lK (clsOf W M L A N Q P) n H (.ref x) s:=by
 refine⟨x,dx,rfl,?_⟩
 unfold clsOf fieldsOf
 rw [if_neg (by lia),if_neg (by lia),if_neg (by lia),if_neg (by lia),if_neg (by lia),if_pos hk,if_neg (by lia),if_neg (by lia),if_neg (by lia),if_neg (by lia),if_neg (by lia),if_pos hk]
 exact e
theorem Ig {W M L A N Q P:Addr} {n:Nat} {H:Hp} {x dx:Addr} {s:Sp4} (hk:s.k=6) (e:H x=some (.ins P dx (ho s.a s.b))):lK (clsOf W M L A N Q P) n H (.ref x) s:=by
 refine⟨x,dx,rfl,?_⟩
 unfold clsOf fieldsOf
 rw [if_neg (by lia),if_neg (by lia),if_neg (by lia),if_neg (by lia),if_neg (by lia),if_neg (by lia),if_neg (by lia),if_neg (by lia),if_neg (by lia),if_neg (by lia),if_neg (by lia),if_neg (by lia)]
 exact e
theorem uQ (n:Nat) (s:Sp4):fieldsOf n s≠[]:=fun z=>by
 have h:∀ {k:Str} {v:V},(fieldsOf n s).lookup k≠some v:=fun {k v} e=>by rw [z] at e;cases e
 unfold fieldsOf at h
 by_cases k0:s.k=0
 ·rw [if_pos k0] at h;exact h (nZ _ _ _)
 rw [if_neg k0] at h
 by_cases k1:s.k=1
 ·rw [if_pos k1] at h;exact h (fG _ _ _)
 rw [if_neg k1] at h
 by_cases k2:s.k=2
 ·rw [if_pos k2] at h;exact h (fG _ _ _)
 rw [if_neg k2] at h
 by_cases k3:s.k=3
 ·rw [if_pos k3] at h;exact h (j9 _ _)
 rw [if_neg k3] at h
 by_cases k4:s.k=4
 ·rw [if_pos k4] at h;exact h (nW _ _)
 rw [if_neg k4] at h
 by_cases k5:s.k=5
 ·rw [if_pos k5] at h;exact h (kh _ _ _)
 rw [if_neg k5] at h
 exact h (nY _ _)
noncomputable abbrev Ruls (C:Nat→Addr) (P:Nat) (H:Hp):List V→List Sp4→Prop:=Paired (lK C P H)
theorem Ruls.mono {C:Nat→Addr} {P:Nat} {H H':Hp} (g:Same H H') {us:List V} {ss:List Sp4} (h:Ruls C P H us ss):Ruls C P H' us ss:=Paired.mapP h fun _ _ ⟨x,dx,e,q⟩=>⟨x,dx,e,g _ _ q⟩
noncomputable def Jx (H:Hp) (v:V) (ls:List Lin):Prop:=∃t us,v=.ref t∧H t=some (.tup us)∧Lins H us ls
noncomputable abbrev Sums (H:Hp):List V→List (List Lin)→Prop:=Paired (Jx H)
theorem Sums.tmono {H H':Hp} (g:gr H H') {us:List V} {ss:List (List Lin)} (h:Sums H us ss):Sums H' us ss:=Paired.mapP h fun _ _ ⟨t,us,e,q,r⟩=>⟨t,us,e,g _ _ q,Paired.mapP r fun _ _ z=>z.mono g⟩
theorem nwr:¬ (("ward":Str) = "rules"):=by decide +kernel
theorem nws:¬ (("ward":Str) = "sums"):=by decide +kernel
noncomputable def tf (y r s:Addr):List (Str×V):=bR "sums" (.ref s) (bR "rules" (.ref r) (bR "ward" (.ref y) []))
theorem oE (y r s:Addr):(tf y r s).lookup ("ward":Str)=some (.ref y):=by
 unfold tf
 rw [aC,if_neg nws,aC,if_neg nwr,aC,if_pos rfl]
theorem oF (y r s:Addr):(tf y r s).lookup ("sums":Str)=some (.ref s):=by
 unfold tf
 rw [aC,if_pos rfl]
structure TermsAt (CT CW:Addr) (H:Hp) (x:Addr) (d:Int) (hs:List Int) (ps:List Pst) (sums:List (List Lin)):Prop where
 ex:∃dx y rt st vr vs,H x=some (.ins CT dx (tf y rt st))∧WardAt CW H y d hs ps∧H rt=some (.tup vr)∧H st=some (.tup vs)∧Sums H vs sums
theorem TermsAt.mono {CT CW:Addr} {H H':Hp} {x:Addr} {d:Int} {hs:List Int} {ps:List Pst} {sums:List (List Lin)} (h:TermsAt CT CW H x d hs ps sums) (g:Same H H'):TermsAt CT CW H' x d hs ps sums:=by
 obtain⟨dx,y,rt,st,vr,vs,h1,h2,h3,h4,h5⟩:=h.ex
 exact⟨dx,y,rt,st,vr,vs,g _ _ h1,h2.mono g,g _ _ h3,g _ _ h4,Sums.tmono (aF g) h5⟩
theorem iC {hs:List Int} {h:Int} (a:0≤h) (b:h < (hs.length:Int)):fY hs h=true:=by
 unfold fY
 rw [decide_eq_true a,decide_eq_true b]
 rfl
theorem yo {m:Int} (a:0≤m) (b:m≤99):isM m=true:=by
 unfold isM
 rw [decide_eq_true a,decide_eq_true b]
 rfl
structure SumI (H:Hp) (L:Addr) (lls:List (List Lin)) (i:Nat) (H':Hp):Prop where
 ex:∃vs:List V,Same H H'∧H' L=some (.lst vs)∧Sums H' vs (lls.take i)
theorem SumI.start {H:Hp} {L:Addr} {lls:List (List Lin)} (hL:H L=none):SumI H L lls 0 (upd H L (.lst [])):=⟨[],same_new hL _,aj,by rw [List.take_zero];exact .nil⟩
theorem SumI.same {H H':Hp} {L:Addr} {lls:List (List Lin)} {i:Nat} (h:SumI H L lls i H'):Same H H':=by
 obtain⟨_,g,_⟩:=h.ex
 exact g
theorem SumI.step {H H' H2:Hp} {L l:Addr} {lls:List (List Lin)} {i:Nat} {ls:List Lin} {ul:List V} (h:SumI H L lls i H') (hL:H L=none) (hi:i≤900) (g2:Same H' H2) (hr:lls[i]? = some ls) (hl:H2 l=none) (hu:Lins H2 ul ls) :
  ∃xs,upd H2 l (.tup ul) L=some (.lst xs)∧xs.length < sizeLine∧SumI H L lls (i + 1) (upd (upd H2 l (.tup ul)) L (.lst (xs ++ [.ref l]))):=by
 obtain⟨vs,g,e,hS⟩:=h.ex
 have hvl:=Paired.length hS
 rw [List.length_take] at hvl
 have gl:=same_new hl (.tup ul)
 have gg:=g2.trans gl
 refine⟨vs,gg _ _ e,aW (by lia),vs ++ [.ref l],aY hL (g.trans gg) _,aj,?_⟩
 rw [bh hr]
 have h1:Sums (upd H2 l (.tup ul)) (vs ++ [.ref l]) (lls.take i ++ [ls]):=bz (Sums.tmono (aF gg) hS) ⟨l,ul,rfl,aj,Paired.mapP hu fun _ _ z=>z.mono (aF gl)⟩
 exact Sums.tmono (bK (gg _ _ e)) h1
theorem tU {d n:Nat} {ps:List Pst} {s:Sp4} (hk:s.k=0):cI d n ps s=[⟨dJ n s.a (1 + s.b % (ps.length:Int)),s.c⟩]:=by
 unfold cI
 rw [if_pos hk]
theorem tV {d n:Nat} {ps:List Pst} {s:Sp4} (hk:s.k=1):cI d n ps s=[⟨spr s.a (dsN s.b.toNat d) (cH ps) (-1),-s.c⟩]:=by
 unfold cI
 rw [if_neg (by lia),if_pos hk]
theorem tW {d n:Nat} {ps:List Pst} {s:Sp4} (hk:s.k=2):cI d n ps s=[⟨spr s.a (dsN s.b.toNat d) (cH ps) 1,s.c⟩]:=by
 unfold cI
 rw [if_neg (by lia),if_neg (by lia),if_pos hk]
theorem tX {d n:Nat} {ps:List Pst} {s:Sp4} (hk:s.k=3):cI d n ps s=mF s.a ps s.b.toNat d:=by
 unfold cI
 rw [if_neg (by lia),if_neg (by lia),if_neg (by lia),if_pos hk]
theorem pZ {d n:Nat} {ps:List Pst} {s:Sp4} (hk:s.k=4):cI d n ps s=dH s.a s.c d (np ps):=by
 unfold cI
 rw [if_neg (by lia),if_neg (by lia),if_neg (by lia),if_neg (by lia),if_pos hk]
theorem tY {d n:Nat} {ps:List Pst} {s:Sp4} (hk:s.k=5):cI d n ps s=[⟨byH s.a ps d 1,s.b⟩,⟨byH s.a ps d (-1),-s.c⟩]:=by
 unfold cI
 rw [if_neg (by lia),if_neg (by lia),if_neg (by lia),if_neg (by lia),if_neg (by lia),if_pos hk]
theorem tZ {d n:Nat} {ps:List Pst} {s:Sp4} (hk:s.k=6):cI d n ps s=fW s.a s.b (-1) (-1) ps.length d:=by
 unfold cI
 rw [if_neg (by lia),if_neg (by lia),if_neg (by lia),if_neg (by lia),if_neg (by lia),if_neg (by lia)]
noncomputable abbrev Tri:=Int×Int×Int
noncomputable def Jy (H:Hp) (v:V) (t:Tri):Prop:=∃a,v=.ref a∧H a=some (.tup [.int t.1,.int t.2.1,.int t.2.2])
noncomputable abbrev Tris (H:Hp):List V→List Tri→Prop:=Paired (Jy H)
theorem Tris.tmono {H H':Hp} (g:gr H H') {us:List V} {ts:List Tri} (h:Tris H us ts):Tris H' us ts:=Paired.mapP h fun _ _ ⟨a,e,q⟩=>⟨a,e,g _ _ q⟩
noncomputable def tD3 (t:Tri):DV:=.tup [.int t.1,.int t.2.1,.int t.2.2]
noncomputable def LinLV (H:Hp) (v:V) (ℓ:Lin):Prop:=∃t l ts,v=.ref t∧H t=some (.tup [.ref l,.int ℓ.b])∧H l=some (.lst ts)∧Prts H ts ℓ.ps
noncomputable abbrev LinsL (H:Hp):List V→List Lin→Prop:=Paired (LinLV H)
theorem LinsL.mono {H H':Hp} (g:Same H H') {us:List V} {ls:List Lin} (h:LinsL H us ls):LinsL H' us ls:=Paired.mapP h fun _ _ ⟨t,l,ts,e,q,r,z⟩=>⟨t,l,ts,e,g _ _ q,g _ _ r,z.mono (aF g)⟩
noncomputable def Jz (H:Hp) (v:V) (s:Sp4):Prop:=∃t,v=.ref t∧H t=some (.tup [.int (s.k:Nat),.int s.a,.int s.b,.int s.c])
noncomputable abbrev Spcs (H:Hp):List V→List Sp4→Prop:=Paired (Jz H)
theorem Spcs.tmono {H H':Hp} (g:gr H H') {us:List V} {ss:List Sp4} (h:Spcs H us ss):Spcs H' us ss:=Paired.mapP h fun _ _ ⟨t,e,q⟩=>⟨t,e,g _ _ q⟩
theorem upL (a:Int) (n:Nat):(upto a n).length=n:=by unfold upto;rw [List.length_map,List.length_range]
structure PrsI (H:Hp) (L:Addr) (qs:List Prt) (H':Hp):Prop where
 ex:∃us:List V,Same H H'∧H' L=some (.lst us)∧Prts H' us qs
theorem PrsI.start {H:Hp} {L:Addr} (hL:H L=none):PrsI H L [] (upd H L (.lst [])):=⟨[],same_new hL _,aj,.nil⟩
theorem PrsI.same {H H':Hp} {L:Addr} {qs:List Prt} (h:PrsI H L qs H'):Same H H':=by
 obtain⟨_,g,_⟩:=h.ex
 exact g
theorem PrsI.step {H H':Hp} {L t:Addr} {qs:List Prt} {a b c n:Int} (h:PrsI H L qs H') (hL:H L=none) (hl:qs.length≤900) (ht:H' t=none) :
  ∃xs,upd H' t (.tup [.int a,.int b,.int c,.int n]) L=some (.lst xs)∧xs.length < sizeLine∧PrsI H L (qs ++ [⟨a,b,c,n⟩]) (upd (upd H' t (.tup [.int a,.int b,.int c,.int n])) L (.lst (xs ++ [.ref t]))):=by
 obtain⟨us,g,e,hT⟩:=h.ex
 have hul:=Paired.length hT
 have gt:=same_new ht (.tup [.int a,.int b,.int c,.int n])
 refine⟨us,gt _ _ e,aW (by lia),us ++ [.ref t],aY hL (g.trans gt) _,aj,?_⟩
 exact Prts.mono (bK (gt _ _ e)) (bz (hT.mono (aF gt)) ⟨t,rfl,aj⟩)
structure MpI (H:Hp) (L:Addr) (tgt:List (List Int)) (i:Nat) (H':Hp):Prop where
 ex:∃us:List V,Same H H'∧H' L=some (.lst us)∧Rows H' us (tgt.take i)∧∀t,V.ref t∈us→t≠L
theorem MpI.start {H:Hp} {L:Addr} {tgt:List (List Int)} (hL:H L=none):MpI H L tgt 0 (upd H L (.lst [])) :=
 ⟨[],same_new hL _,aj,by rw [List.take_zero];exact .nil,fun t z=>by cases z⟩
theorem MpI.same {H H':Hp} {L:Addr} {tgt:List (List Int)} {i:Nat} (h:MpI H L tgt i H'):Same H H':=by
 obtain⟨_,g,_⟩:=h.ex
 exact g
theorem MpI.step {H H' H2:Hp} {L l:Addr} {tgt:List (List Int)} {i:Nat} {row:List Int} (h:MpI H L tgt i H') (hL:H L=none) (hi:i≤900) (hr:tgt[i]? = some row) (g2:Same H' H2) (hl:H' l=none) (hl2:H2 l=some (.lst (row.map V.int))) :
  ∃xs,H2 L=some (.lst xs)∧xs.length < sizeLine∧MpI H L tgt (i + 1) (upd H2 L (.lst (xs ++ [.ref l]))):=by
 obtain⟨us,g,e,hR,fr⟩:=h.ex
 have hul:=hR.len
 have htl:(tgt.take i).length≤i:=by rw [List.length_take];lia
 have ne:L≠l:=aH e hl
 refine⟨us,g2 _ _ e,aW (by lia),us ++ [.ref l],aY hL (g.trans g2) _,aj,?_,fun t ht=>?_⟩
 ·rw [List.take_succ,hr]
  refine Rows.off (Rows.snoc (hR.mono g2) ⟨l,rfl,hl2⟩) fun z=>?_
  rcases List.mem_append.mp z with z | z
  ·exact (fr L z) rfl
  ·exact ne (V.ref.inj (List.mem_singleton.mp z))
 ·rcases List.mem_append.mp ht with z | z
  ·exact fr t z
  ·rw [V.ref.inj (List.mem_singleton.mp z)]
   exact ne.symm
theorem yp {h n:Int} (hh:0≤h) (hn:0≤n):Builtin.bitAnd n h=Builtin.bitAnd h n:=by rw [PyProof.Rows.bitAnd_pp hn hh,PyProof.Rows.bitAnd_pp hh hn,Nat.and_comm]
end My
namespace My
open PySem L2
noncomputable def mH (d:Int) (n:Nat) (ℓ:Lin):Prop:=ℓ.ps.length≤900∧∀q∈ℓ.ps,0≤q.h∧q.h < (n:Int)∧0≤q.d∧q.d < d
noncomputable def DY (d:Int) (n:Nat) (ls:List Lin):Prop:=ls.length≤40∧∀ℓ∈ls,mH d n ℓ
theorem kJ {d:Int} {n:Nat} {ℓ:Lin} (h:mH d n ℓ):DY d n [ℓ]:=⟨by simp,fun _ z=>by rw [List.mem_singleton.mp z];exact h⟩
theorem yq {d:Int} {n:Nat} {ℓ m:Lin} (h:mH d n ℓ) (i:mH d n m):DY d n [ℓ,m]:=⟨by simp,fun _ z=>by
 rcases List.mem_cons.mp z with z | z
 ·rw [z];exact h
 ·rw [List.mem_singleton.mp z];exact i⟩
theorem jc {d h c b:Int} {n:Nat} {ds ps:List Int} (h0:0≤h) (h1:h < (n:Int)) (hd:∀x∈ds,0≤x∧x < d) (l:ds.length≤31) (p:ps.length≤6):mH d n ⟨spr h ds ps c,b⟩:=by
 refine⟨?_,fun q hq=>?_⟩
 ·show (spr h ds ps c).length≤900
  rw [cR]
  exact Nat.le_trans (Nat.mul_le_mul l p) (by decide)
 ·obtain⟨z1,z2,_,_⟩:=iQ hq
  have:=hd _ z2
  lia
theorem yr {s d:Nat} {x:Int} (h:x∈dsN s d):0≤x∧x < (d:Int):=by
 unfold dsN at h
 obtain⟨i,hi,rfl⟩:=List.mem_map.mp h
 have:=List.mem_range.mp (List.mem_filter.mp hi).1
 lia
theorem yt (ps:List Pst):(np ps).length≤ps.length:=by
 unfold np npI
 rw [List.length_map]
 exact Nat.le_trans (List.length_filter_le _ _) (by rw [List.length_range];exact Nat.le_refl _)
theorem rG {α β:Type} {f:α→List β} {B:Nat} (h:∀x,(f x).length≤B):∀xs:List α,(xs.flatMap f).length≤xs.length * B
 | []=>Nat.zero_le _
 | x :: xs=>by
  rw [List.flatMap_cons,List.length_append,List.length_cons,Nat.succ_mul]
  have:=rG h xs
  have:=h x
  lia
theorem p7 {d h c b:Int} {n:Nat} {ps:List Pst} (h0:0≤h) (h1:h < (n:Int)) (d1:1≤d) (d2:d≤31) (p:ps.length≤6):mH d n ⟨byH h ps d.toNat c,b⟩:=by
 refine⟨?_,fun q hq=>?_⟩
 ·show (byH h ps d.toNat c).length≤900
  unfold byH byI
  refine Nat.le_trans (rG (B:=31) (fun x=>?_) _) ?_
  ·rw [cR,upL]
   show d.toNat * 1≤31
   lia
  ·rw [upL]
   lia
 ·have hq':q∈byH h ps d.toNat c:=hq
  unfold byH byI at hq'
  obtain⟨y,hy,hq2⟩:=List.mem_flatMap.mp hq'
  obtain⟨z1,z2,_,_⟩:=iQ hq2
  have z6:=eQ z2
  lia
theorem uR {d:Int} {n:Nat} {ps:List Pst} {s:Sp4} (ok:jr d n ps.length s) (d1:1≤d) (d2:d≤6) (p:ps.length≤6) (n8:n≤8):DY d n (cI d.toNat n ps s):=by
 have k6:=ok.k6
 have al:=dI ps
 have hd:∀m,∀x∈dsN m d.toNat,0≤x∧x < d:=fun m x hx=>by have:=yr hx;lia
 have dl:∀m,(dsN m d.toNat).length≤31:=fun m=>by have:=jL m d.toNat;lia
 obtain hk | hk | hk | hk | hk | hk | hk:s.k=0∨s.k=1∨s.k=2∨s.k=3∨s.k=4∨s.k=5∨s.k=6:=by lia
 ·rw [tU hk]
  obtain⟨a0,a1,_,_⟩:=ok.w hk
  refine kJ ⟨?_,fun q hq=>?_⟩
  ·show (dJ n s.a (1 + s.b % (ps.length:Int))).length≤900
   unfold dJ
   rw [List.length_map,List.length_range]
   lia
  ·have hq':q∈dJ n s.a (1 + s.b % (ps.length:Int)):=hq
   unfold dJ at hq'
   obtain⟨i,hi,rfl⟩:=List.mem_map.mp hq'
   have:=List.mem_range.mp hi
   exact⟨by show (0:Int)≤(i:Int);lia,by show (i:Int) < n;lia,a0,a1⟩
 ·rw [tV hk]
  obtain⟨a0,a1⟩:=ok.h (by lia)
  exact kJ (jc a0 a1 (hd _) (dl _) (by lia))
 ·rw [tW hk]
  obtain⟨a0,a1⟩:=ok.h (by lia)
  exact kJ (jc a0 a1 (hd _) (dl _) (by lia))
 ·rw [tX hk]
  obtain⟨a0,a1⟩:=ok.h (by lia)
  unfold mF
  refine⟨by rw [List.length_map];have:=dl s.b.toNat;lia,fun ℓ hℓ=>?_⟩
  obtain⟨x,hx,rfl⟩:=List.mem_map.mp hℓ
  exact jc a0 a1 (fun y hy=>by rw [List.mem_singleton.mp hy];exact hd _ _ hx) (by simp) (by lia)
 ·rw [pZ hk]
  obtain⟨a0,a1⟩:=ok.h (by lia)
  obtain⟨c0,c1⟩:=ok.c4 hk
  unfold dH
  refine⟨by rw [List.length_map,List.length_range];lia,fun ℓ hℓ=>?_⟩
  obtain⟨i,hi,rfl⟩:=List.mem_map.mp hℓ
  have hi':=List.mem_range.mp hi
  have nl:=yt ps
  exact jc a0 a1 (fun y hy=>by have:=eQ hy;lia) (by rw [upL];lia) (by lia)
 ·rw [tY hk]
  obtain⟨a0,a1⟩:=ok.h (by lia)
  exact yq (p7 a0 a1 d1 (by lia) p) (p7 a0 a1 d1 (by lia) p)
 ·rw [tZ hk]
  obtain⟨a0,a1⟩:=ok.h (by lia)
  obtain⟨b0,b1,_⟩:=ok.o hk
  unfold fW
  refine⟨by rw [List.length_map,gJ];exact Nat.le_trans (Nat.mul_le_mul (show d.toNat≤6 by lia) p) (by decide),fun ℓ hℓ=>?_⟩
  obtain⟨x,hx,rfl⟩:=List.mem_map.mp hℓ
  obtain⟨⟨x0,x1⟩,_⟩:=plcI_mem.mp hx
  refine⟨by show 2≤900;decide,fun q hq=>?_⟩
  have hq':q∈[(⟨s.a,x.1,x.2,-1⟩:Prt),⟨s.b,x.1,x.2,-1⟩]:=hq
  rcases List.mem_cons.mp hq' with z | z
  ·rw [z]
   exact⟨a0,a1,x0,by show x.1 < d;lia⟩
  ·rw [List.mem_singleton.mp z]
   exact⟨b0,b1,x0,by show x.1 < d;lia⟩
noncomputable def Ih (H:Hp) (h0 p0:Addr) (hs:List Int) (ts:List V) (ps:List Pst) (f:Int→St) (m:Nat) (σ:St) (H':Hp):Prop :=
 ∃d:Int,m=d.toNat∧Same H H'∧H' h0=some (.lst (hs.map V.int))∧H' p0=some (.lst ts)∧Posts H' ts ps∧1≤d∧d≤4∧σ=f d
noncomputable def Cz (L:Addr) (H0 H:Hp) (v:V) (ℓ:Lin):Prop:=∃t l ts,v=.ref t∧H t=some (.tup [.ref l,.int ℓ.b])∧H l=some (.lst ts)∧Prts H ts ℓ.ps∧l≠L∧H0 l=none
noncomputable def Ii (H0 H:Hp) (v:V) (ℓ:Lin):Prop:=∃t l ts,v=.ref t∧H t=some (.tup [.ref l,.int ℓ.b])∧H l=some (.lst ts)∧Prts H ts ℓ.ps∧H0 l=none
noncomputable abbrev mJ (H0 H:Hp):List V→List Lin→Prop:=Paired (Ii H0 H)
structure LinI (H:Hp) (L:Addr) (ls:List Lin) (H':Hp):Prop where
 ex:∃us:List V,Same H H'∧H' L=some (.lst us)∧Paired (Cz L H H') us ls
theorem LinI.start {H:Hp} {L:Addr} (hL:H L=none):LinI H L [] (upd H L (.lst [])):=⟨[],same_new hL _,aj,.nil⟩
theorem LinI.same {H H':Hp} {L:Addr} {ls:List Lin} (h:LinI H L ls H'):Same H H':=by
 obtain⟨_,g,_⟩:=h.ex
 exact g
theorem LinI.done {H H':Hp} {L:Addr} {ls:List Lin} (h:LinI H L ls H'):∃us,Same H H'∧H' L=some (.lst us)∧mJ H H' us ls:=by
 obtain⟨us,g0,e,hT⟩:=h.ex
 exact⟨us,g0,e,Paired.mapP hT fun _ _ ⟨t,l,ts,e,q,r,z,n,f⟩=>⟨t,l,ts,e,q,r,z,f⟩⟩
theorem LinI.step {H H' H2:Hp} {L l t:Addr} {ls:List Lin} {ts:List V} {qs:List Prt} {b:Int} (h:LinI H L ls H') (hL:H L=none) (hi:ls.length≤900) (g2:Same H' H2) (hl:H' l=none) (el:H2 l=some (.lst ts)) (hP:Prts H2 ts qs) (ht:H2 t=none) :
  ∃xs,upd H2 t (.tup [.ref l,.int b]) L=some (.lst xs)∧xs.length < sizeLine∧LinI H L (ls ++ [⟨qs,b⟩]) (upd (upd H2 t (.tup [.ref l,.int b])) L (.lst (xs ++ [.ref t]))):=by
 obtain⟨us,g,e,hT⟩:=h.ex
 have hul:=Paired.length hT
 have gt:=same_new ht (.tup [.ref l,.int b])
 have ne:l≠L:=(aH e hl).symm
 have gg:=g2.trans gt
 have eL:=gg _ _ e
 refine⟨us,eL,aW (by lia),us ++ [.ref t],aY hL (g.trans gg) _,aj,?_⟩
 refine bz (Paired.mapP hT fun _ _ ⟨t',l',ts',e',q',r',z',n',f'⟩=>⟨t',l',ts',e',(bK eL) _ _ (gg _ _ q'),by rw [aG n'];exact gg _ _ r',(z'.mono (aF gg)).mono (bK eL),n',f'⟩) ?_
 exact⟨t,l,ts,rfl,(bK eL) _ _ aj,by rw [aG ne];exact gt _ _ el,(hP.mono (aF gt)).mono (bK eL),ne,g.free hl⟩
theorem CG {m k:Nat} (h:m≤k):(0:Int)≤1 * 2 ^ m∧(1:Int) * 2 ^ m≤((2 ^ k:Nat):Int):=by
 rw [Int.one_mul,show (2:Int) ^ m=((2 ^ m:Nat):Int) by simp]
 exact⟨Int.natCast_nonneg _,Int.ofNat_le.mpr (Nat.pow_le_pow_right (by decide) h)⟩
theorem CJ {f o z:Int} (f0:0≤f) (f1:f≤8192) (o0:0≤o) (o1:o≤536870912) (z0:0≤z) (z1:z < 4):∃w:Int,atI [V.int 0,.int f,.int o,.int (f + o)] z=some (.int w)∧okH w:=by
 obtain rfl | rfl | rfl | rfl:z=0∨z=1∨z=2∨z=3:=by lia
 ·exact⟨_,rfl,by decide,by decide⟩
 all_goals exact⟨_,rfl,by omega,by lia⟩
theorem Ij {z:Int} (h0:0≤z) (h1:z < 5):∃w:Int,atI [V.int 3,.int 1,.int 2,.int 3,.int 0] z=some (.int w)∧0≤w∧w < 4:=by
 obtain rfl | rfl | rfl | rfl | rfl:z=0∨z=1∨z=2∨z=3∨z=4:=by lia
 all_goals exact⟨_,rfl,by decide,by decide⟩
theorem Ea {x z:Int} (x0:0≤x) (x1:x≤1000000000) (h0:0≤z) (h1:z < 3):∃w:Int,atI [V.int x,.int 1000000000,.int 8] z=some (.int w)∧0≤w∧w≤1000000000:=by
 obtain rfl | rfl | rfl:z=0∨z=1∨z=2:=by lia
 ·exact⟨_,rfl,x0,x1⟩
 all_goals exact⟨_,rfl,by decide,by decide⟩
theorem kO {H0 H:Hp} {p p1 l:Addr} {ts:List V} {qs:List Prt} {b:Int} (h0:H0 l=none) (el:H l=some (.lst ts)) (hP:Prts H ts qs) (hp:H p=none) (hp1:upd H p (.tup [.ref l,.int b]) p1=none):Same H (upd (upd H p (.tup [.ref l,.int b])) p1 (.lst [.ref p]))∧H p1=none∧mJ H0 (upd (upd H p (.tup [.ref l,.int b])) p1 (.lst [.ref p])) [.ref p] [⟨qs,b⟩]:=by
 have g1:=same_new hp (.tup [.ref l,.int b])
 have g2:=same_new hp1 (.lst [.ref p])
 have gg:=g1.trans g2
 exact⟨gg,g1.free hp1,.cons ⟨p,l,ts,rfl,g2 _ _ aj,gg _ _ el,hP.mono (aF gg),h0⟩ .nil⟩
theorem yu {d n:Nat} {ps:List Pst} {s:Sp4} (hk:s.k≠4∧s.k≠5):fH d n ps s=cI d n ps s:=by
 unfold fH
 rw [if_neg hk.1,if_neg hk.2]
theorem JB {d n:Nat} {ps:List Pst} {s:Sp4} (hk:s.k=4):fH d n ps s=gZ s.a s.c d ps:=by
 unfold fH
 rw [if_pos hk]
theorem JC {d n:Nat} {ps:List Pst} {s:Sp4} (hk:s.k=5):fH d n ps s=[⟨gO s.a d ps 1,s.b⟩,⟨gO s.a d ps (-1),-s.c⟩]:=by
 unfold fH
 rw [if_neg (by lia),if_pos hk]
structure PrsF (H:Hp) (L:Addr) (qs:List Prt) (H':Hp):Prop where
 ex:∃us:List V,Same H H'∧H' L=some (.lst us)∧Prts H us qs
theorem PrsF.start {H:Hp} {L:Addr} (hL:H L=none):PrsF H L [] (upd H L (.lst [])):=⟨[],same_new hL _,aj,.nil⟩
theorem PrsF.same {H H':Hp} {L:Addr} {qs:List Prt} (h:PrsF H L qs H'):Same H H':=by
 obtain⟨_,g,_⟩:=h.ex
 exact g
theorem PrsF.step {H H':Hp} {L t:Addr} {qs:List Prt} {q:Prt} (h:PrsF H L qs H') (hL:H L=none) (hl:qs.length≤900) (ht:H t=some (.tup [.int q.h,.int q.d,.int q.p,.int q.n])) :
  ∃xs,H' L=some (.lst xs)∧xs.length < sizeLine∧PrsF H L (qs ++ [q]) (upd H' L (.lst (xs ++ [.ref t]))):=by
 obtain⟨us,g,e,hT⟩:=h.ex
 have hul:=Paired.length hT
 exact⟨us,e,aW (by lia),us ++ [.ref t],aY hL g _,aj,bz hT ⟨t,rfl,ht⟩⟩
theorem mK {α:Type} {xs:List α} {i:Nat} {x:α} (p:α→Bool) (h:xs[i]? = some x):(xs.take (i + 1)).filter p=(xs.take i).filter p ++ if p x=true then [x] else []:=by
 rw [bh h,List.filter_append,List.filter_cons,List.filter_nil]
theorem p8 {α:Type} (xs:List α) (i:Nat) (p:α→Bool):((xs.take i).filter p).length≤xs.length:=by
 have h1:=List.length_filter_le p (xs.take i)
 rw [List.length_take] at h1
 lia
theorem mL (n:Nat) (d p:Int):(dJ n d p).length=n:=by
 unfold dJ
 rw [List.length_map,List.length_range]
theorem rs0 {d a b c:Int} {n P:Nat} (hP:0 < P) (a0:0≤a) (a1:a < d) (c0:0≤c) (c1:c≤99):jr d n P ⟨0,a,b,c⟩ :=
 ⟨by show 0≤6;decide,hP,fun _=>⟨a0,a1,c0,c1⟩,fun z=>absurd rfl z,fun z=>by simp at z,fun z=>by simp at z,fun z=>by simp at z,fun z=>by simp at z,fun z=>by simp at z,fun z=>by simp at z⟩
theorem rs6 {d a b:Int} {n P:Nat} (hP:0 < P) (a0:0≤a) (a1:a < (n:Int)) (b0:0≤b) (b1:b < (n:Int)) (ne:a≠b):jr d n P ⟨6,a,b,0⟩ :=
 ⟨by show 6≤6;decide,hP,fun z=>by simp at z,fun _=>⟨a0,a1⟩,fun z=>by simp at z,fun z=>by simp at z,fun z=>by simp at z,fun z=>by simp at z,fun z=>by simp at z,fun _=>⟨b0,b1,ne⟩⟩
theorem rs5 {d a b c:Int} {n P:Nat} (hP:0 < P) (a0:0≤a) (a1:a < (n:Int)) (b0:0≤b) (b1:b≤100000000000) (c0:-1≤c) (c1:c≤100000000000):jr d n P ⟨5,a,b,c⟩ :=
 ⟨by show 5≤6;decide,hP,fun z=>by simp at z,fun _=>⟨a0,a1⟩,fun z=>by simp at z,fun z=>by simp at z,fun z=>by simp at z,fun z=>by simp at z,fun _=>⟨b0,b1,c0,c1⟩,fun z=>by simp at z⟩
theorem JD {d a b c:Int} {n P k:Nat} (hP:0 < P) (k1:1≤k) (k4:k≤4) (a0:0≤a) (a1:a < (n:Int)) (b0:0≤b) (b1:b < 2147483648) (c0:-1≤c) (c1:c≤99) (c2:k≠1→0≤c):jr d n P ⟨k,a,b,c⟩ :=
 ⟨by show k≤6;lia,hP,fun z=>by have:k=0:=z;lia,fun _=>⟨a0,a1⟩,fun _=>⟨b0,b1⟩,fun _=>⟨c0,c1⟩,fun z=>⟨c2 (by have:k=2:=z;lia),c1⟩,fun z=>⟨c2 (by have:k=4:=z;lia),c1⟩,fun z=>by have:k=5:=z;lia,fun z=>by have:k=6:=z;lia⟩
theorem rH {h t n:Int} (h0:0≤h) (h1:h < n) (t0:0≤t) (t1:t < n - 1):0≤(h + 1 + t) % n∧(h + 1 + t) % n < n∧h≠(h + 1 + t) % n:=by
 refine⟨Int.emod_nonneg _ (by lia),Int.emod_lt_of_pos _ (by lia),?_⟩
 by_cases z:h + 1 + t < n
 ·rw [Int.emod_eq_of_lt (by lia) z]
  lia
 ·have e:h + 1 + t=(h + 1 + t - n) + n:=by lia
  rw [e,Int.add_emod_right,Int.emod_eq_of_lt (by lia) (by lia)]
  lia
theorem t7 {H:Hp} {ts:List V} {ps:List Pst} {p:Int} (h:Posts H ts ps) (hp:p∈cH ps):∃ (t:Addr) (q:Pst),atI ts (p - 1)=some (.ref t)∧H t=some (.tup [.int q.1,.int q.2.1,.int q.2.2])∧hrV ps p=q.2.1∧ngt ps p.toNat=decide (q.2.2=1):=by
 obtain⟨p1,p2⟩:=eQ hp
 obtain⟨k,hk⟩:∃k:Nat,p=k + 1:=⟨(p - 1).toNat,by omega⟩
 have hkl:k < ps.length:=by omega
 obtain⟨t,e1,e2⟩:=h.get (List.getElem?_eq_getElem hkl)
 refine⟨t,ps[k],?_,e2,?_,?_⟩
 ·rw [show p - 1=(k:Int) by lia]
  exact cY e1
 ·unfold hrV
  rw [hk,show ((k:Int) + 1).toNat=k + 1 by lia]
  show (ps[k]?.getD post0).2.1=_
  rw [List.getElem?_eq_getElem hkl,Option.getD_some]
 ·rw [hk,show ((k:Int) + 1).toNat=k + 1 by lia]
  show decide ((ps[k]?.getD post0).2.2=1)=_
  rw [List.getElem?_eq_getElem hkl,Option.getD_some]
theorem kW (n:Nat):((List.range n).map fun i:Nat=>(i:Int))=upto 0 n:=by
 unfold upto
 refine List.map_congr_left fun i _=>?_
 lia
theorem Ik {d:Int} {k:Nat} (d1:1≤d) (d2:d≤31) (k1:1≤k) (k4:k≤4):∃m:Int,atI [V.int 1,.int (d + 2),.int (d + 2),.int 1,.int 3] (k:Int)=some (.int m)∧0 < m∧m≤33:=by
 obtain rfl | rfl | rfl | rfl:k=1∨k=2∨k=3∨k=4:=by lia
 ·exact⟨_,rfl,by lia,by lia⟩
 ·exact⟨_,rfl,by lia,by lia⟩
 ·exact⟨_,rfl,by decide,by decide⟩
 ·exact⟨_,rfl,by decide,by decide⟩
noncomputable def yw (h:Int) (ps:List Pst) (x:Int):Lin:=⟨spr h [x] (cH ps) (-1),0⟩
theorem Av (h:Int) (ps:List Pst) (days d:Nat):mF h ps days d=(dsN days d).map (yw h ps):=rfl
noncomputable def nlI (ps:List Pst) (m:Int) (S:List Prt) (i:Nat):List Lin:=(List.range i).map fun j:Nat=>⟨S.filter (iB ps j m),-m⟩
theorem yx (ps:List Pst) (m:Int) (S:List Prt) (i:Nat):nlI ps m S (i + 1)=nlI ps m S i ++ [⟨S.filter (iB ps i m),-m⟩]:=by
 unfold nlI
 rw [List.range_succ,List.map_append]
 rfl
theorem Aw (ps:List Pst) (m:Int) (S:List Prt) (i:Nat):(nlI ps m S i).length=i:=by
 unfold nlI
 rw [List.length_map,List.length_range]
noncomputable def inW (i m:Int) (q:Prt):Bool:=decide (i≤q.d) && decide (q.d≤i + m)
noncomputable def fO (ps:List Pst) (q:Prt):Bool:=ngt ps q.p.toNat
theorem uT (ps:List Pst) (i m:Int) (S:List Prt):(S.filter (fO ps)).filter (inW i m)=S.filter (iB ps i m):=by
 rw [List.filter_filter]
 refine List.filter_congr fun q _=>?_
 unfold inW fO iB
 rw [Bool.and_comm]
noncomputable def gP (ps:List Pst) (t:Int) (q:Prt):Prt:=⟨q.h,q.d,q.p,hrV ps q.p * t⟩
theorem Eb (h:Int) (d:Nat) (ps:List Pst) (t:Int):gO h d ps t=(spr h (upto 0 d) (cH ps) 1).map (gP ps t):=rfl
theorem yz (ps:List Pst) (q:Prt):gP ps (-1) q=⟨(gP ps 1 q).h,(gP ps 1 q).d,(gP ps 1 q).p,0 - (gP ps 1 q).n⟩:=by
 unfold gP
 congr 1
 show hrV ps q.p * (-1)=0 - hrV ps q.p * 1
 lia
theorem yC {H0 H:Hp} {p1 p2 p3 l m:Addr} {ts us:List V} {qs rs:List Prt} {b c:Int} (h0:H0 l=none) (h1:H0 m=none) (el:H l=some (.lst ts)) (hP:Prts H ts qs) (e1:H p1=some (.tup [.ref l,.int b])) (em:H m=some (.lst us)) (hR:Prts H us rs) (hp2:H p2=none) (hp3:upd H p2 (.tup [.ref m,.int c]) p3=none):Same H (upd (upd H p2 (.tup [.ref m,.int c])) p3 (.lst [.ref p1,.ref p2]))∧H p3=none∧mJ H0 (upd (upd H p2 (.tup [.ref m,.int c])) p3 (.lst [.ref p1,.ref p2])) [.ref p1,.ref p2] [⟨qs,b⟩,⟨rs,c⟩]:=by
 have g1:=same_new hp2 (.tup [.ref m,.int c])
 have g2:=same_new hp3 (.lst [.ref p1,.ref p2])
 have gg:=g1.trans g2
 exact⟨gg,g1.free hp3,.cons ⟨p1,l,ts,rfl,gg _ _ e1,gg _ _ el,hP.mono (aF gg),h0⟩ (.cons ⟨p2,m,us,rfl,g2 _ _ aj,gg _ _ em,hR.mono (aF gg),h1⟩ .nil)⟩
noncomputable def yD (ps:List Pst) (q:Prt):Prt:=gP ps (-1) q
theorem Ec (h:Int) (d:Nat) (ps:List Pst):gO h d ps (-1)=(spr h (upto 0 d) (cH ps) 1).map (yD ps):=rfl
structure SpcI (H:Hp) (L:Addr) (Pr:Sp4→Prop) (i:Nat) (H':Hp):Prop where
 ex:∃ (us:List V) (ss:List Sp4),ss.length=i∧Same H H'∧H' L=some (.lst us)∧Spcs H' us ss∧∀s∈ss,Pr s
theorem SpcI.start {H:Hp} {L:Addr} {Pr:Sp4→Prop} (hL:H L=none):SpcI H L Pr 0 (upd H L (.lst [])):=⟨[],[],rfl,same_new hL _,aj,.nil,fun s z=>by cases z⟩
theorem SpcI.same {H H':Hp} {L:Addr} {Pr:Sp4→Prop} {i:Nat} (h:SpcI H L Pr i H'):Same H H':=by
 obtain⟨_,_,_,g,_⟩:=h.ex
 exact g
theorem SpcI.step {H H' H2:Hp} {L t:Addr} {Pr:Sp4→Prop} {i:Nat} {s:Sp4} (h:SpcI H L Pr i H') (hL:H L=none) (hi:i≤900) (g2:Same H' H2) (et:H2 t=some (.tup [.int (s.k:Nat),.int s.a,.int s.b,.int s.c])) (hs:Pr s) :
  ∃xs,H2 L=some (.lst xs)∧xs.length < sizeLine∧SpcI H L Pr (i + 1) (upd H2 L (.lst (xs ++ [.ref t]))):=by
 obtain⟨us,ss,hl,g,e,hS,ok⟩:=h.ex
 have hul:=Paired.length hS
 have eL:=g2 _ _ e
 refine⟨us,eL,aW (by lia),us ++ [.ref t],ss ++ [s],by rw [List.length_append,hl];rfl,aY hL (g.trans g2) _,aj,?_,fun x hx=>?_⟩
 ·exact Spcs.tmono (bK eL) (bz (Spcs.tmono (aF g2) hS) ⟨t,rfl,et⟩)
 ·rcases List.mem_append.mp hx with z | z
  ·exact ok x z
  ·rw [List.mem_singleton.mp z];exact hs
structure RulI (C:Nat→Addr) (P:Nat) (H:Hp) (L:Addr) (ss:List Sp4) (i:Nat) (H':Hp):Prop where
 ex:∃us:List V,Same H H'∧H' L=some (.lst us)∧Ruls C P H' us (ss.take i)
theorem RulI.start {C:Nat→Addr} {P:Nat} {H:Hp} {L:Addr} {ss:List Sp4} (hL:H L=none):RulI C P H L ss 0 (upd H L (.lst [])):=⟨[],same_new hL _,aj,by rw [List.take_zero];exact .nil⟩
theorem RulI.same {C:Nat→Addr} {P:Nat} {H H':Hp} {L:Addr} {ss:List Sp4} {i:Nat} (h:RulI C P H L ss i H'):Same H H':=by
 obtain⟨_,g,_⟩:=h.ex
 exact g
theorem RulI.step {C:Nat→Addr} {P:Nat} {H H' H2:Hp} {L x:Addr} {ss:List Sp4} {i:Nat} {s:Sp4} (h:RulI C P H L ss i H') (hL:H L=none) (hi:i≤900) (hs:ss[i]? = some s) (g2:Same H' H2) (hx:lK C P H2 (.ref x) s) :
  ∃xs,H2 L=some (.lst xs)∧xs.length < sizeLine∧RulI C P H L ss (i + 1) (upd H2 L (.lst (xs ++ [.ref x]))):=by
 obtain⟨us,g,e,hS⟩:=h.ex
 have hul:=Paired.length hS
 rw [List.length_take] at hul
 have eL:=g2 _ _ e
 refine⟨us,eL,aW (by lia),us ++ [.ref x],aY hL (g.trans g2) _,aj,?_⟩
 rw [bh hs]
 exact Paired.mapP (bz (Ruls.mono g2 hS) hx) fun _ _ ⟨y,dy,ey,qy⟩=>⟨y,dy,ey,by rw [aG (fun z=>by rw [z,eL] at qy;cases qy)];exact qy⟩
end My
namespace PySem
section
variable {prog:Program} {w:World} {K:Type} [DecidableEq K] {A:Around} {E:Value→Shared→Prop} {s:Shared}
theorem ie {b:Addr} {Q:Bool→Shared→Prop} (ht:s.TypeIs (.ref b) "tuple") (h:Q false s):wpAny (model prog w) A (Builtin.Dict.quietEq (.ref b)) Q E s:=by
 unfold Builtin.Dict.quietEq
 refine wpAny_bind (wpAny_specialOf ht F.slot_tuple_eq.lookup ?_)
 exact wpAny_pure h
theorem fP {id:String} {d:Addr} {o:Obj} {es ep} {Q:Array DictEntry→Shared→Prop} (ho:s.heap.get? d=some o) (hd:o.data=.dict es ep)
  (hk:∀e∈es.toList,∃b,e.key=.ref b∧s.TypeIs (.ref b) "tuple") (hh:∀e∈es.toList,(es.filter (·.hash == e.hash)).size≤1) (h:Q es s) :
  wpAny (model prog w) A (Builtin.Dict.entriesForEmpty id d) Q E s:=by
 unfold Builtin.Dict.entriesForEmpty
 refine wpAny_bind (wpAny_dictEntries ho hd ?_)
 refine wpAny_bind ?_
 rw [← Array.forIn_toList]
 refine wpAny_forIn_list _ (fun rest _ s'=>s'=s∧∃pre,pre ++ rest=es.toList) _ ?_ ?_ _ _ ⟨rfl,[],rfl⟩
 ·rintro e rest b s' ⟨rfl,pre,hp⟩
  have he:e∈es.toList:=by rw [← hp];simp
  obtain⟨b,hb,ht⟩:=hk e he
  rw [hb]
  refine wpAny_bind (ie ht ?_)
  have:=hh e he
  rw [if_pos (by decide),if_neg (by omega)]
  exact wpAny_pure ⟨rfl,pre ++ [e],by rw [← hp];simp⟩
 ·rintro b s' ⟨rfl,_⟩
  exact wpAny_pure h
theorem rJ {es:Array DictEntry} {hs:List Int} (he:es.toList.map (·.hash)=hs) (hn:hs.Nodup):∀e∈es.toList,(es.filter (·.hash == e.hash)).size≤1:=fun e hem=>by
 rw [← Array.length_toList,Array.toList_filter]
 subst he
 generalize es.toList=l at hem hn
 clear hem
 induction l with
 | nil=>exact Nat.zero_le _
 | cons x xs ih =>
  rw [List.map_cons,List.nodup_cons] at hn
  rw [List.filter_cons]
  by_cases z:(x.hash == e.hash)=true
  ·rw [if_pos z,List.length_cons]
   have e0:xs.filter (·.hash == e.hash)=[]:=by
    rw [List.filter_eq_nil_iff]
    intro y hy w
    have h1:x.hash=e.hash:=by simpa using z
    have h2:y.hash=e.hash:=by simpa using w
    exact hn.1 (List.mem_map.mpr ⟨y,hy,by rw [h2,h1]⟩)
   rw [e0]
   exact Nat.le_refl _
  ·rw [if_neg z]
   exact ih hn.2
variable {kx:KeyKind prog w K}
theorem jt {nm:String} {d o:Addr} {xs:List (List K×Addr×Value)} {Q:Unit→Shared→Prop} (hdo:d≠o) (hoS:(o == sysModules)=false)
  (hd:s.heap.DictOfH (tupleKind kx) d []) (ho:s.heap.DictOfH (tupleKind kx) o xs) (hh:(xs.map fun x=>(tupleKind kx).hash x.1).Nodup) (hsz:xs.length≤sizeLine)
  (hQ:∀h',h'.DictOfH (tupleKind kx) d xs→Heap.SameBut d s.heap h'→Q () { s with heap:=h' }) :
  wpAny (model prog w) A (Builtin.Dict.mergeDict nm d o) Q E s:=by
 obtain⟨od,esd,epd,hod,hcd,hdd,hed,hid,hnd⟩:=id hd
 obtain⟨oo,eso,epo,hoo,hco,hdo',heo,hio,hno⟩:=id ho
 have hlen:=size_of_entries heo
 have hd0:esd = #[]:=by
  have:=size_of_entries hed
  exact Array.eq_empty_of_size_eq_zero this
 unfold Builtin.Dict.mergeDict
 rw [if_neg (by simpa using hdo)]
 unfold Builtin.Dict.showsAll
 rw [if_neg (by rw [hoS];exact Bool.false_ne_true)]
 refine wpAny_bind (wpAny_pure ?_)
 refine wpAny_bind (wpAny_dictEntries hoo hdo' ?_)
 dsimp only
 cases xs with
 | nil =>
  have ho0:eso = #[]:=Array.eq_empty_of_size_eq_zero hlen
  subst ho0
  rw [if_neg (by simp)]
  refine wpAny_bind (wpAny_dictEpoch hoo hdo' ?_)
  refine wpAny_bind (wpAny_dictEntries hoo hdo' ?_)
  refine wpAny_bind ?_
  rw [Std.Legacy.Range.forIn_eq_forIn_range']
  simp only [Std.Legacy.Range.size,Nat.sub_zero,Nat.add_sub_cancel,Nat.div_one]
  refine wpAny_forIn_list _ (fun rest _ s'=>rest=[]∧s'=s) _ (fun _ _ _ _ z=>by cases z.1) (fun b s' z=>?_) _ _ ⟨rfl,rfl⟩
  obtain⟨_,rfl⟩:=z
  exact wpAny_pure (hQ _ hd (Heap.SameBut.refl _ _))
 | cons x xs =>
  have h0:eso[0]? = some (entryOfKey (tupleKind kx) x):=by rw [entry_at heo 0];rfl
  have hlt:0 < eso.size:=by rw [hlen];exact Nat.succ_pos _
  have hall:(eso.all fun e=>(keyPart e.key).isSome)=false:=by
   rw [← Array.all_toList,heo,List.map_cons,List.all_cons]
   rfl
  rw [hall,Bool.and_false,Bool.not_false,if_pos rfl]
  refine wpAny_bind (wpAny_dictEntries hod hdd ?_)
  rw [hd0,if_pos (by rfl)]
  have hk:∀e∈eso.toList,∃b,e.key=.ref b∧s.TypeIs (.ref b) "tuple" := fun e he=>by
   rw [heo] at he
   obtain⟨y,hy,rfl⟩:=List.mem_map.mp he
   exact⟨y.2.1,rfl,IsTupleKey.typeIs (hio y hy)⟩
  have hhs:eso.toList.map (·.hash)=(x :: xs).map fun x=>(tupleKind kx).hash x.1:=by
   rw [heo,List.map_map]
   rfl
  refine wpAny_bind (fP hoo hdo' hk (rJ hhs hh) ?_)
  rw [if_pos (by
   have:eso.isEmpty=false:=by rw [Array.isEmpty_eq_false_iff];intro z;rw [z] at hlt;exact absurd hlt (by decide)
   rw [this];rfl)]
  have hsb:=Heap.SameBut.update (h:=s.heap) (a:=d) (f:=Obj.mapDictKeys fun _=>eso)
  refine wpAny_bind (wpAny_updateDictKeysTo hod hdd (wpAny_pure (hQ _ ⟨_,eso,epd + 1,Heap.get?_update_self _ hod (Obj.isFreed_of_dict (Obj.data_mapDictKeys hdd _)),hcd.mapDictKeys _,Obj.data_mapDictKeys hdd _,heo,fun y hy=>(tupleKind kx).keeps (hio y hy) hod hdd (Heap.SameBut.update ..),hno⟩ (Heap.SameBut.update ..))) ?_)
  rw [hlen]
  omega
theorem lL {o:Addr} {xs:List (List K×Addr×Value)} {Q:Value→Shared→Prop} (hoS:(o == sysModules)=false) (ho:s.heap.DictOfH (tupleKind kx) o xs) (hh:(xs.map fun x=>(tupleKind kx).hash x.1).Nodup) (hsz:xs.length≤sizeLine)
  (h:∀h',h'.DictOfH (tupleKind kx) s.heap.objs.size xs→Heap.SameBut s.heap.objs.size (s.heap.push { cls:=.type "dict",data:=.dict #[] }) h'→Q (.ref s.heap.objs.size) { s with heap:=h' }) :
  wpAny (model prog w) A (call (.type "dict") [.ref o]) Q E s:=by
 refine callType_codes (Q₁:=fun obj s₁=>obj=.ref s.heap.objs.size∧s₁ = { s with heap:=s.heap.push { cls:=.type "dict",data:=.dict #[] } }) F.kt_called_dict (F.kt_typeCall_dict_1 _) F.entry_dict_init (kt_code_dict_new _ ⟨rfl,rfl⟩) ?_
 rintro obj s₁ ⟨rfl,rfl⟩
 have hnew:(s.heap.push { cls:=.type "dict",data:=.dict #[] }).DictOfH (tupleKind kx) s.heap.objs.size []:=Heap.DictOfH.new s.heap
 have hdo:s.heap.objs.size≠o:=by
  obtain⟨_,_,_,hg,_⟩:=ho
  exact fun e=>absurd (Heap.lt_size hg) (by rw [e];exact Nat.lt_irrefl _)
 have ho':(s.heap.push { cls:=.type "dict",data:=.dict #[] }).DictOfH (tupleKind kx) o xs:=by
  obtain⟨oo,es,ep,h1,h2,h3,h4,h5,h6⟩:=ho
  refine⟨oo,es,ep,Heap.get?_push_of_some _ h1,h2,h3,h4,fun x hx=>?_,h6⟩
  obtain⟨ot,its,n,k1,k2,k3,k4⟩:=h5 x hx
  exact⟨ot,its,n,Heap.get?_push_of_some _ k1,k2,k3,k4⟩
 refine⟨hnew.typeIs,F.args_dict_init_2 _ _,?_⟩
 unfold Builtin.«dict.__init__»
 refine wpAny_bind ?_
 unfold Builtin.Dict.selfAndRest
 refine wpAny_bind (wpAny_notOrdered_dict hnew.typeIs ?_)
 show wpAny _ _ (pure (s.heap.objs.size,[Value.ref o])) _ _ _
 refine wpAny_pure ?_
 show wpAny _ _ (Builtin.Dict.updateFrom "dict.__init__" s.heap.objs.size (.ref o) [] .none) _ _ _
 unfold Builtin.Dict.updateFrom
 refine wpAny_bind (wpAny_typeOf ho'.typeIs ?_)
 rw [if_neg (by decide)]
 refine wpAny_bind ?_
 unfold Builtin.Dict.merge
 refine wpAny_bind ?_
 unfold Builtin.Dict.readDirectly
 refine wpAny_bind (wpAny_isInstance ho'.typeIs isSubtype_dict_dict ?_)
 simp only [Bool.not_true,Bool.false_eq_true,if_false]
 refine wpAny_bind (wpAny_specialOf ho'.typeIs F.slot_dict_iter.lookup (wpAny_pure ?_))
 simp only [beq_self_eq_true,if_true]
 refine wpAny_bind (wpAny_pure ?_)
 refine jt hdo hoS hnew ho' hh hsz fun h' hd' hs'=>?_
 show wpAny _ _ (Builtin.Dict.addKeywords s.heap.objs.size [] >>= _) _ _ _
 exact wpAny_bind (wpAny_pure (wpAny_pure ⟨rfl,h h' hd' hs'⟩))
end
end PySem
namespace L2
open PySem PySem.Spec PyProof.Rows
noncomputable def qb (ns:List Int):Int:=reduceHash (Builtin.Tuple.tupleHashOf (ns.map hashInt))
section
variable {X:Cx}
noncomputable def yE (X:Cx):List V→Hp→VK→Prop:=fun xs H Q=>∃a kvs,xs=[.ref a]∧H a=some (.dT kvs)∧(kvs.map fun kv=>tupleKeyHash (bD X.prog X.w) kv.1).Nodup∧∀p,H p=none→Q (.ref p) (upd H p (.dT kvs))
theorem KT.hashes {P:Program} {w:World} {H:Hp}:∀ {kvs:List (List Key×V)} {xs:List (List Key×Addr×Value)},KT H kvs xs→(xs.map fun x=>(tupleKind (bD P w)).hash x.1)=kvs.map fun kv=>tupleKeyHash (bD P w) kv.1
 | _,_,.nil=>rfl
 | _,_,.cons h r=>by rw [List.map_cons,List.map_cons,KT.hashes r,h.1];rfl
theorem kY:dC X (.type "dict") (yE X):=by
 intro pins s σ H xs us Q I r h
 obtain⟨a,kvs,rfl,e,hn,q⟩:=h
 obtain⟨u,rfl,rx⟩:=Vals.one r
 cases rx
 obtain⟨z,hd,xs,rel,dd⟩:=tK I.hok e
 have hl:kvs.length=xs.length:=Paired.length rel
 refine lL hd dd (by rw [KT.hashes rel];exact hn) (by omega) fun h' dd' hs=>?_
 refine⟨.ref s.heap.objs.size,_,I.laid (a:=s.heap.objs.size) (o:=.dT kvs) (t':=s.toks) (fun b q hq=>?_) (Nat.le_refl _) ?_,rfl,q _ (I.hok.fresh (Nat.le_refl _))⟩
 ·exact (hs.2 b (Nat.ne_of_lt (Heap.lt_size hq))).trans (Heap.get?_push_of_some _ hq)
 ·obtain⟨o',es,ep,k1,k2,k3,k4,_,k6⟩:=dd'
  exact⟨z,beq_eq_false_iff_ne.mpr (Ne.symm (Nat.ne_of_lt I.big)),xs,KT.keeps rel (fun b ys eb=>by rw [aG (aH eb (I.hok.fresh (Nat.le_refl _)))];exact eb),o',es,ep,k1,k2,k3,k4,k6⟩
end
noncomputable def kN (ns:List Int):List Key:=ns.map Sum.inl
theorem jM (P:Program) (w:World) (ns:List Int):tupleKeyHash (bD P w) (kN ns)=qb ns:=by
 unfold tupleKeyHash qb kN
 rw [List.map_map]
 rfl
end L2
namespace PySem
open Sem (wp)
namespace F
theorem lk_list_keys:typeLookup (.type "list") "keys" = pure none:=by rw [typeLookup_type,builtinLookup_eq_fast];kernel_rfl
theorem lk_list_hook:typeLookup (.type "list") "__getattr__" = pure none:=by rw [typeLookup_type,builtinLookup_eq_fast];kernel_rfl
end F
section
variable {prog:Program} {w:World} {A:Around} {E:Value→Shared→Prop} {h:Heap} {g:Array GenState} {d:Drawn} {t:Nat} {os:OsState} {a:Addr} {o:Obj}
theorem jF {tk:Tok} {Q:Fin→Shared→Prop} {E:Value→Shared→Prop} (hx:h.get? a=some o) (hc:o.cls=.type "list") {its:Array Value} {n:Nat} (hdt:o.data=.seq its n) (hdc:o.dict=none) (hh:A.handled=none) (hq:∀ (e:Addr) (h':Heap) (t':Nat),(∀b ob,h.get? b=some ob→h'.get? b=some ob)→(∃oe,h'.get? e=some oe∧oe.cls=.type "AttributeError")→E (.ref e) ⟨h',g,d,t',os⟩) :
  wpAny (model prog w) A (Builtin.«object.__getattribute__» ⟨[.ref a,.str "keys" tk],[]⟩) Q E ⟨h,g,d,t,os⟩:=by
 have hT:(⟨h,g,d,t,os⟩:Shared).TypeIs (.ref a) "list" := ⟨_,hx,hc⟩
 have f4:=F.lk_list_keys
 repeat (any_goals (first | assumption | wp_step))
 rw [hdt]
 dsimp only
 unfold instanceDict
 repeat (any_goals (first | assumption | wp_step))
 rw [hc,hdc]
 dsimp only
 rw [if_pos (by rfl)]
 refine wpAny_pure ?_
 unfold Builtin.ObjectAttr.inDict
 dsimp only
 repeat (any_goals (first | assumption | wp_step))
 unfold raiseAttrError
 have hm:¬ ((Str.ofString (toString "'" ++ toString ((Manifest.find? "list").elim "list" fun x=>x.tpName) ++ toString "' object has no attribute '") ++ Str.ofString "keys" ++ Str.ofString "'").length > sizeLine):=by decide +kernel
 generalize (Str.ofString (toString "'" ++ toString ((Manifest.find? "list").elim "list" fun x=>x.tpName) ++ toString "' object has no attribute '") ++ Str.ofString "keys" ++ Str.ofString "'")=msg at hm
 refine wpAny_bind ?_
 unfold mkStr
 rw [if_neg hm]
 have fsub:isSubtype (.type "AttributeError") (.type "AttributeError")=pure true:=by rw [isSubtype_type];kernel_rfl
 have fman:((Manifest.find? "AttributeError").elim false fun t=>t.mro.contains "StopIteration" || t.mro.contains "SystemExit")=false:=by kernel_rfl
 have fown:ownMembersOf (.type "AttributeError") [Value.str msg t] = #[unsetMember,unsetMember]:=by rfl
 repeat (any_goals (first | assumption | wp_step))
 rw [fman,fown]
 have kp:∀ (f:Obj→Obj) b ob,h.get? b=some ob→(((h.push { cls:=Value.type "tuple",data:=Data.seq #[Value.str msg t] }).push { cls:=Value.type "AttributeError",data:=Data.fields (#[Value.ref h.objs.size,Value.none,Value.none,Value.none,Value.bool false,if false=true then [Value.str msg t].headD Value.none else Value.none] ++ #[unsetMember,unsetMember]) }).update (h.push { cls:=Value.type "tuple",data:=Data.seq #[Value.str msg t] }).objs.size f).get? b=some ob:=fun f b ob hb=>by
  have hlt:=Heap.lt_size hb
  refine (Heap.get?_update_ne _ b _ f ?_).trans (Heap.get?_push_of_some _ (Heap.get?_push_of_some _ hb))
  have e1:(h.push { cls:=Value.type "tuple",data:=Data.seq #[Value.str msg t] }).objs.size=h.objs.size + 1:=by simp [Heap.push]
  exact Nat.ne_of_lt (by rw [e1];exact Nat.lt_succ_of_lt hlt)
 unfold raiseNew
 refine wpAny_bind (wpAny_handled ?_)
 rw [hh]
 dsimp only
 refine wpAny_bind (wpAny_pure (wpAny_throw (hq _ _ _ (kp _) ?_)))
 exact⟨_,Heap.get?_update_self _ (Heap.get?_push_size _ rfl) (by rfl),rfl⟩
theorem kZ {tk:Tok} {R:Result→Shared→Prop} (hx:h.get? a=some o) (hc:o.cls=.type "list") {its:Array Value} {n:Nat} (hdt:o.data=.seq its n) (hdc:o.dict=none) (hh:A.handled=none)
  (hq:∀ (e:Addr) (h':Heap) (t':Nat),(∀b ob,h.get? b=some ob→h'.get? b=some ob)→(∃oe,h'.get? e=some oe∧oe.cls=.type "AttributeError")→R (.error (.ref e)) ⟨h',g,d,t',os⟩) :
  codeAny (model prog w) A (.call (.builtin "list.__getattribute__") ⟨[.ref a,.str "keys" tk],[]⟩) R ⟨h,g,d,t,os⟩ :=
 codeAny_call_builtin F.slot_list_getattribute.plain F.entry_list_ga (F.slot_list_getattribute.check _ _ _ _ _ _ _ _ (show (⟨h,g,d,t,os⟩:Shared).TypeIs (.ref a) "list" from ⟨_,hx,hc⟩) (F.args_list_getattribute_2 _ _) (jF hx hc hdt hdc hh hq))
theorem oG {tk:Tok} {Q:Value→Shared→Prop} {E:Value→Shared→Prop} (hx:h.get? a=some o) (hc:o.cls=.type "list") {its:Array Value} {n:Nat} (hdt:o.data=.seq its n) (hdc:o.dict=none) (hh:A.handled=none)
  (hq:∀ (e:Addr) (h':Heap) (t':Nat),(∀b ob,h.get? b=some ob→h'.get? b=some ob)→(∃oe,h'.get? e=some oe∧oe.cls=.type "AttributeError")→E (.ref e) ⟨h',g,d,t',os⟩):wpAny (model prog w) A (getAttrBy (.ref a) (.str "keys" tk) false) Q E ⟨h,g,d,t,os⟩:=by
 have hT:(⟨h,g,d,t,os⟩:Shared).TypeIs (.ref a) "list" := ⟨_,hx,hc⟩
 have f2:=F.slot_list_getattribute.lookup
 have f3:=F.slot_list_getattribute.bind (.ref a)
 repeat (any_goals (first | assumption | wp_step))
 refine kZ hx hc hdt hdc hh fun e h' t' k1 k2=>?_
 dsimp only
 obtain⟨oe,he,hec⟩:=id k2
 have hTe:(⟨h',g,d,t',os⟩:Shared).TypeIs (.ref e) "AttributeError" := ⟨_,he,hec⟩
 have fsub:isSubtype (.type "AttributeError") (.type "AttributeError")=pure true:=by rw [isSubtype_type];kernel_rfl
 have fhk:=F.lk_list_hook
 unfold getattributeRaised
 repeat (any_goals (first | assumption | wp_step))
 exact hq e h' t' k1 k2
theorem lg {Q:Option Value→Shared→Prop} (hx:h.get? a=some o) (hc:o.cls=.type "list") {its:Array Value} {n:Nat} (hdt:o.data=.seq its n) (hdc:o.dict=none) (hh:A.handled=none)
  (hq:∀ (h':Heap) (t':Nat),(∀b ob,h.get? b=some ob→h'.get? b=some ob)→Q none ⟨h',g,d,t',os⟩):wpAny (model prog w) A (getAttr? (.ref a) "keys") Q E ⟨h,g,d,t,os⟩:=by
 have fsub:isSubtype (.type "AttributeError") (.type "AttributeError")=pure true:=by rw [isSubtype_type];kernel_rfl
 unfold getAttr? getAttrBy?
 refine wpAny_bind ?_
 unfold mkText
 repeat (any_goals (first | assumption | (with_reducible apply oG hx hc hdt hdc hh) | wp_step))
 intro e h' t' k1 k2
 obtain⟨oe,he,hec⟩:=id k2
 have hTe:(⟨h',g,d,t',os⟩:Shared).TypeIs (.ref e) "AttributeError" := ⟨_,he,hec⟩
 dsimp only
 repeat (any_goals (first | assumption | wp_step))
 exact hq h' t' k1
end
end PySem
namespace PySem
open Sem (wp)
namespace F
theorem entry_dict_loop:entryFor table "dict.update.loop" = some Builtin.«dict.update.loop»:=entryFor_of_tree (by kernel_rfl)
end F
structure rK {prog:Program} {w:World} {K:Type} [DecidableEq K] (kx:KeyKind prog w K) (h:Heap) (x:Value) (p:List K×Addr×Value):Prop where
 ex:∃t o n,x=.ref t∧h.get? t=some o∧o.cls=.type "tuple" ∧ o.data=.seq #[.ref p.2.1,p.2.2] n
 key:(tupleKind kx).is h p.1 p.2.1
section
variable {prog:Program} {w:World} {K:Type} [DecidableEq K] {kx:KeyKind prog w K} {A:Around}
noncomputable def rM (a b:Addr) (h0 h:Heap):Prop:=∀c o,h0.get? c=some o→c≠a→c≠b→h.get? c=some o
theorem mO {h h':Heap} {d it l:Addr} {i:Nat} {xs:List (List K×Addr×Value)} (hD:h.DictOfH (tupleKind kx) d xs) (hI:h.IsListIter it l i) (hx:Heap.ExtBut it h h') (hne:it≠d):h'.DictOfH (tupleKind kx) d xs:=by
 obtain⟨o,es,ep,h1,h2,h3,h4,h5,h6⟩:=hD
 obtain⟨oi,i1,i2,i3⟩:=hI
 refine⟨o,es,ep,hx _ _ (Ne.symm hne) h1,h2,h3,h4,fun x hx'=>?_,h6⟩
 obtain⟨ot,its,n,k1,k2,k3,k4⟩:=h5 x hx'
 refine⟨ot,its,n,hx _ _ (fun z=>?_) k1,k2,k3,k4⟩
 rw [z,i1] at k1
 cases k1
 rw [i2] at k2
 injection k2 with k2
 exact absurd k2 (by decide)
theorem lq {h0:Heap} {d it l:Addr} {items:Array Value} {ps:List (List K×Addr×Value)} {R:Result→Shared→Prop} (hu2:∀args,(A.under (.builtin "dict.update.loop" args)).units < cLine) (hh:A.handled=none)
  (hit:∀b o,h0.get? b=some o→b≠it∧b≠d) (hl:h0.IsList l items) (hlen:ps.length=items.size) (hp:∀ (j:Nat) x p,items[j]? = some x→ps[j]? = some p→rK kx h0 x p)
  (hne:it≠d) :
  ∀ (m i:Nat) (xs:List (List K×Addr×Value)) (s:Shared),m + i=items.size→s.heap.IsListIter it l i→rM it d h0 s.heap→s.heap.DictOfH (tupleKind kx) d xs→xs.length + m≤sizeLine →
   (∀h' t',h'.DictOfH (tupleKind kx) d ((ps.drop i).foldl (fun acc p=>storedH acc p.1 p.2.1 p.2.2) xs)→rM it d h0 h'→R (.ok (.ret .none)) { s with heap:=h',toks:=t' }) →
   codeAny (model prog w) A (.builtin "dict.update.loop" ⟨[.ref d,.ref it,.int i 0,.none],[]⟩) R s
 | 0,i,xs,s,hm,hI,hK,hD,hz,hR=>by
  obtain⟨ol,g1,g2,n,g3⟩:=id hl
  obtain⟨n1,n2⟩:=hit l ol g1
  have hL:s.heap.IsList l items:=⟨ol,hK l ol g1 n1 n2,g2,n,g3⟩
  refine codeAny_builtin F.entry_dict_loop ?_
  unfold Builtin.«dict.update.loop»
  dsimp only
  refine wpAny_bind (wpAny_pyNext_list_end (by exact hh) hI hL (Array.getElem?_eq_none (by lia)) fun h' hx=>?_)
  dsimp only
  show wpAny _ _ (Builtin.Dict.addKeywords d [] >>= _) _ _ _
  have e0:ps.drop i=[]:=List.drop_eq_nil_of_le (by lia)
  rw [e0] at hR
  exact wpAny_bind (wpAny_pure (wpAny_pure (hR h' s.toks (mO hD hI hx hne) fun c o e c1 c2=>hx _ _ c1 (hK c o e c1 c2))))
 | m + 1,i,xs,s,hm,hI,hK,hD,hz,hR=>by
  obtain⟨ol,g1,g2,n,g3⟩:=id hl
  obtain⟨n1,n2⟩:=hit l ol g1
  have hL:s.heap.IsList l items:=⟨ol,hK l ol g1 n1 n2,g2,n,g3⟩
  have hi:i < items.size:=by lia
  have hi2:i < ps.length:=by lia
  have P:=hp i _ _ (Array.getElem?_eq_getElem hi) (List.getElem?_eq_getElem hi2)
  obtain⟨t,o,n',ex,k1,k2,k3⟩:=P.ex
  obtain⟨n3,n4⟩:=hit t o k1
  refine codeAny_builtin F.entry_dict_loop ?_
  unfold Builtin.«dict.update.loop»
  dsimp only
  refine wpAny_bind (wpAny_pyNext_list_item hI hL (Array.getElem?_eq_getElem hi) fun h' hI' hs=>?_)
  have hext:Heap.ExtBut it s.heap h':=fun b o nb e=>by rw [hs.2 b nb];exact e
  have hD':=mO hD hI hext hne
  have hK':rM it d h0 h':=fun c o e c1 c2=>hext _ _ c1 (hK c o e c1 c2)
  dsimp only
  refine wpAny_bind (wpAny_holding ?_)
  refine wpAny_bind (wpAny_tryCatch ?_)
  rw [ex]
  have hT:({ s with heap:=h' }:Shared).TypeIs (.ref t) "tuple" := ⟨o,hK' t o k1 n3 n4,k2⟩
  unfold Builtin.Dict.pairItems
  refine wpAny_bind (wpAny_typeOf hT ?_)
  rw [if_pos (by rfl)]
  refine wpAny_bind (wpAny_seqItems (hK' t o k1 n3 n4) k3 (wpAny_pure ?_))
  show wpAny _ _ (holding [Value.ref ps[i].2.1,ps[i].2.2] (dictSet d (Value.ref ps[i].2.1) ps[i].2.2)) _ _ _
  obtain⟨ok,ik,nk,q1,q2,q3,q4⟩:=P.key
  obtain⟨n5,n6⟩:=hit _ ok q1
  have hkey:(tupleKind kx).is h' ps[i].1 ps[i].2.1:=⟨ok,ik,nk,hK' _ ok q1 n5 n6,q2,q3,q4⟩
  refine wpAny_holding (wpAny_dictSet_heap (knd:=tupleKind kx) (hu2 _) hkey hD' (fun h'' hD'' hs''=>?_) (by lia))
  refine wpAny_pure ⟨Code.quiet_builtin _ k!,?_⟩
  have hstep:(ps.drop i).foldl (fun acc p=>storedH acc p.1 p.2.1 p.2.2) xs=(ps.drop (i + 1)).foldl (fun acc p=>storedH acc p.1 p.2.1 p.2.2) (storedH xs ps[i].1 ps[i].2.1 ps[i].2.2):=by
   rw [List.drop_eq_getElem_cons hi2,List.foldl_cons]
  rw [hstep] at hR
  have hsl:(storedH xs ps[i].1 ps[i].2.1 ps[i].2.2).length≤xs.length + 1:=by
   unfold storedH
   split
   ·rw [List.length_map];lia
   ·rw [List.length_append];exact Nat.le_refl _
  refine lq hu2 hh hit hl hlen hp hne m (i + 1) _ _ (by lia) ?_ ?_ hD'' (by lia) ?_
  ·obtain⟨oi,i1,i2,i3⟩:=hI'
   exact⟨oi,(hs''.2 it hne).trans i1,i2,i3⟩
  ·exact fun c o e c1 c2=>(hs''.2 c c2).trans (hK' c o e c1 c2)
  ·exact fun h3 t3=>hR h3 t3
theorem lM {l:Addr} {items:Array Value} {ps:List (List K×Addr×Value)} {E:Value→Shared→Prop} {s:Shared} {Q:Value→Shared→Prop} (hu1:∀args,((A.in1).under (.builtin "dict.update.loop" args)).units < cLine) (hh:A.handled=none)
  (hl:s.heap.IsList l items) (hdc:∀o,s.heap.get? l=some o→o.dict=none) (hlen:ps.length=items.size) (hp:∀ (j:Nat) x p,items[j]? = some x→ps[j]? = some p→rK kx s.heap x p) (hz:ps.length≤sizeLine)
  (h:∀h' t',h'.DictOfH (tupleKind kx) s.heap.objs.size (ps.foldl (fun acc p=>storedH acc p.1 p.2.1 p.2.2) [])→(∀c o,s.heap.get? c=some o→h'.get? c=some o)→Q (.ref s.heap.objs.size) { s with heap:=h',toks:=t' }) :
  wpAny (model prog w) A (call (.type "dict") [.ref l]) Q E s:=by
 refine callType_codes (Q₁:=fun obj s₁=>obj=.ref s.heap.objs.size∧s₁ = { s with heap:=s.heap.push { cls:=.type "dict",data:=.dict #[] } }) F.kt_called_dict (F.kt_typeCall_dict_1 _) F.entry_dict_init (kt_code_dict_new _ ⟨rfl,rfl⟩) ?_
 rintro obj s₁ ⟨rfl,rfl⟩
 have hnew:(s.heap.push { cls:=.type "dict",data:=.dict #[] }).DictOfH (tupleKind kx) s.heap.objs.size []:=Heap.DictOfH.new s.heap
 obtain⟨ol,g1,g2,n,g3⟩:=id hl
 have hd0:=hdc ol g1
 have g1':(s.heap.push { cls:=.type "dict",data:=.dict #[] }).get? l=some ol:=Heap.get?_push_of_some _ g1
 have hT:({ s with heap:=s.heap.push { cls:=.type "dict",data:=.dict #[] } }:Shared).TypeIs (.ref l) "list" := ⟨ol,g1',g2⟩
 refine⟨hnew.typeIs,F.args_dict_init_2 _ _,?_⟩
 unfold Builtin.«dict.__init__»
 refine wpAny_bind ?_
 unfold Builtin.Dict.selfAndRest
 refine wpAny_bind (wpAny_notOrdered_dict hnew.typeIs ?_)
 show wpAny _ _ (pure (s.heap.objs.size,[Value.ref l])) _ _ _
 refine wpAny_pure ?_
 show wpAny _ _ (Builtin.Dict.updateFrom "dict.__init__" s.heap.objs.size (.ref l) [] .none) _ _ _
 unfold Builtin.Dict.updateFrom
 refine wpAny_bind (wpAny_typeOf hT ?_)
 rw [if_pos (by rfl)]
 refine wpAny_bind (lg g1' g2 g3 hd0 (by exact hh) fun h2 t2 hk2=>?_)
 rw [if_pos (by rfl)]
 refine wpAny_bind (wpAny_rule ?_)
 have hl2:h2.IsList l items:=⟨ol,hk2 _ _ g1',g2,n,g3⟩
 refine wpAny_bind (wpAny_pyIter_list hl2 ?_)
 refine wpAny_pure ⟨Code.quiet_builtin _ k!,?_⟩
 have up:∀b o,s.heap.get? b=some o→h2.get? b=some o:=fun b o e=>hk2 _ _ (Heap.get?_push_of_some _ e)
 have hd2:h2.get? s.heap.objs.size=some { cls:=.type "dict",data:=.dict #[] }:=hk2 _ _ (Heap.get?_push_size _ rfl)
 have hdl:=Heap.lt_size hd2
 refine lq (kx:=kx) (h0:=s.heap) (l:=l) (items:=items) (ps:=ps) hu1 (by exact hh) (fun b o e=>?_) hl hlen hp (Nat.ne_of_gt hdl) items.size 0 [] _ (by lia) ⟨_,Heap.get?_push_size _ rfl,rfl,rfl⟩ (fun c o e _ _=>Heap.get?_push_of_some _ (up c o e)) ?_ (by rw [← hlen];simpa using hz) fun h3 t3 hD3 hK3=>?_
 ·exact⟨Nat.ne_of_lt (Heap.lt_size (up b o e)),Nat.ne_of_lt (Heap.lt_size e)⟩
 ·exact⟨_,#[],0,Heap.get?_push_of_some _ hd2,⟨rfl,rfl,rfl⟩,rfl,rfl,(fun _ hx=>by simp at hx),List.nodup_nil⟩
 ·refine⟨rfl,h h3 t3 hD3 fun c o e=>hK3 c o e ?_ ?_⟩
  ·exact Nat.ne_of_lt (Heap.lt_size (up c o e))
  ·exact Nat.ne_of_lt (Heap.lt_size e)
end
end PySem
namespace L2
open PySem PySem.Spec PyProof.Rows
noncomputable def PrV (H:Hp) (v:V) (kv:List Key×V):Prop:=∃t b,v=.ref t∧H t=some (.tup [.ref b,kv.2])∧H b=some (.tup (kv.1.map kV))
noncomputable abbrev PrsV (H:Hp):List V→List (List Key×V)→Prop:=Paired (PrV H)
theorem qd {P:Program} {w:World} {H:Hp} {h:Heap} (ok:HOk P w H h):∀ {vs:List V} {kvs:List (List Key×V)} {its:List Value},PrsV H vs kvs→Vals vs its→∃ps,KT H kvs ps∧Paired (rK (bD P w) h) its ps
 | _,_,_,.nil,.nil=>⟨[],.nil,.nil⟩
 | _,_,_,.cons (b:=kv) h1 r1,.cons (b:=u) h2 r2=>by
  obtain⟨ps,a1,a2⟩:=qd ok r1 r2
  obtain⟨t,b,rfl,et,eb⟩:=h1
  cases (show u=Value.ref t from h2)
  obtain⟨_,its2,rl,o,i1,i2,n,i3⟩:=(show ObjOk P w H h t (.tup [.ref b,kv.2]) from ok t _ et)
  obtain⟨x1,x2,rfl⟩:∃x1 x2,its2=[x1,x2]:=by
   have:=rl.length
   match its2,this with
   | [x1,x2],_=>exact⟨x1,x2,rfl⟩
  cases rl with
  | cons r3 r4 =>
   cases r4 with
   | cons r5 _ =>
    cases (show x1=Value.ref b from r3)
    exact⟨(kv.1,b,x2) :: ps,.cons ⟨rfl,eb,r5⟩ a1,.cons ⟨⟨t,o,n,rfl,i1,i2,i3⟩,iz ok eb⟩ a2⟩
theorem t8 {H:Hp}:∀ {kvs:List (List Key×V)} {ps:List (List Key×Addr×Value)} {acc:List (List Key×V)} {xs:List (List Key×Addr×Value)},KT H kvs ps→KT H acc xs→KT H (kvs.foldl (fun acc kv=>putK acc kv.1 kv.2) acc) (ps.foldl (fun acc p=>storedH acc p.1 p.2.1 p.2.2) xs)
 | _,_,_,_,.nil,h=>h
 | _,_,acc,xs,.cons (a:=kv) (b:=p) h1 r1,h=>by
  rw [List.foldl_cons,List.foldl_cons,← h1.1]
  exact t8 r1 (KT.put h kv.1 h1.2.1 h1.2.2)
section
variable {X:Cx}
noncomputable def yF:List V→Hp→VK→Prop:=fun xs H Q=>∃a us kvs,xs=[.ref a]∧H a=some (.lst us)∧PrsV H us kvs∧kvs.length≤1000∧∀p,H p=none→Q (.ref p) (upd H p (.dT (kvs.foldl (fun acc kv=>putK acc kv.1 kv.2) [])))
theorem rN {k:Nat} (hc:X.calm=true) (hr:Room k X.A):dC X (.type "dict") yF:=by
 intro pins s σ H xs us Q I r h
 obtain⟨a,vs,kvs,rfl,e,hP,hl,q⟩:=h
 obtain⟨u,rfl,rx⟩:=Vals.one r
 cases rx
 obtain⟨z,its,n,rel,g1⟩:=(show ObjOk X.prog X.w H s.heap a (.lst vs) from I.hok a _ e)
 obtain⟨ps,kt,pa⟩:=qd I.hok hP rel
 have l1:its.length=ps.length:=Paired.length pa
 have l2:kvs.length=ps.length:=Paired.length kt
 refine lM (kx:=bD X.prog X.w) (l:=a) (items:=its.toArray) (ps:=ps) (fun args=>?_) (I.ok.hd hc) ⟨_,g1,rfl,n,rfl⟩ (fun o ho=>?_) (by simp [l1]) (fun j x p hx hp'=>?_) (Nat.le_trans (by lia) (show 1000≤sizeLine by decide)) fun h' t' hD hK=>?_
 ·have:=hr.un
  show X.A.units + 2 < cLine
  lia
 ·rw [g1] at ho
  cases ho
  rfl
 ·have hx':its[j]? = some x:=by simpa using hx
  obtain⟨p2,e2,q2⟩:=Paired.get' pa hx'
  rw [hp'] at e2
  cases e2
  exact q2
 ·obtain⟨o',es,ep,k1,k2,k3,k4,_,k6⟩:=hD
  have kt2:=t8 kt (acc:=[]) (xs:=[]) .nil
  refine⟨.ref s.heap.objs.size,_,I.laid (a:=s.heap.objs.size) (o:=.dT (kvs.foldl (fun acc kv=>putK acc kv.1 kv.2) [])) (t':=t') (fun b q hq=>hK b q hq) (Nat.le_refl _) ?_,rfl,q _ (I.hok.fresh (Nat.le_refl _))⟩
  refine⟨?_,beq_eq_false_iff_ne.mpr (Ne.symm (Nat.ne_of_lt I.big)),_,KT.keeps kt2 (fun b ys eb=>by rw [aG (aH eb (I.hok.fresh (Nat.le_refl _)))];exact eb),o',es,ep,k1,k2,k3,k4,k6⟩
  have fl:∀ (l acc:List (List Key×V)),(l.foldl (fun acc kv=>putK acc kv.1 kv.2) acc).length≤acc.length + l.length:=fun l=>by
   induction l with
   | nil=>intro acc;exact Nat.le_refl _
   | cons x xs ih =>
    intro acc
    have:=ih (putK acc x.1 x.2)
    have:=dF acc x.1 x.2
    rw [List.foldl_cons,List.length_cons]
    lia
  have:=fl kvs []
  exact Nat.le_trans this (Nat.le_trans (by simpa using hl) (show 1000≤sizeLine by decide))
end
end L2
namespace PySem
open Sem (wp)
section
variable {prog:Program} {w:World} {K:Type} [DecidableEq K] {knd:HeapKind prog w K} {A:Around} {E:Value→Shared→Prop} {s:Shared}
theorem lu {nm:String} {a b:Addr} {xs ys:List (K×Addr×Value)} {Q:Bool→Shared→Prop} (ha:(a == sysModules)=false) (hb:(b == sysModules)=false) (hu:knd.room A)
  (da:s.heap.DictOfH knd a xs) (db:s.heap.DictOfH knd b ys) (hl:xs.length=ys.length) (hits:∀x∈xs,∃j:Nat,∃p:Addr×Value,ys[j]? = some (x.1,p)∧SeqAt.EqAt A s x.2.2 p.2 true) (h:Q true s) :
  wpAny (model prog w) A (Builtin.Dict.samePairs nm a b) Q E s:=by
 obtain⟨oa,es,ep,hoa,_,hda,hea,hia,_⟩:=da
 obtain⟨ob,es',ep',hob,_,hdb,heb,hib,hnb⟩:=db
 have hla:=size_of_entries hea
 have hlb:=size_of_entries heb
 unfold Builtin.Dict.samePairs Builtin.Dict.showsAll
 rw [if_neg (show ¬ (a == sysModules)=true by rw [ha];exact Bool.false_ne_true),if_neg (show ¬ (b == sysModules)=true by rw [hb];exact Bool.false_ne_true)]
 refine wpAny_bind (wpAny_pure (wpAny_bind (wpAny_pure ?_)))
 refine wpAny_bind (wpAny_dictEntries hoa hda ?_)
 dsimp only
 refine wpAny_bind (wpAny_dictEntries hob hdb ?_)
 rw [if_neg (by simp;lia)]
 refine wpAny_bind (wpAny_dictEpoch hoa hda ?_)
 refine wpAny_bind ?_
 rw [Std.Legacy.Range.forIn_eq_forIn_range']
 simp only [Std.Legacy.Range.size,Nat.sub_zero,Nat.add_sub_cancel,Nat.div_one]
 refine wpAny_forIn_list _ (fun rest q s'=>s'=s∧q=(none,())∧∃i,rest=List.range' i (es.size - i)∧i≤es.size) _ ?_ ?_ _ _ ⟨rfl,rfl,0,by simp,Nat.zero_le _⟩
 ·rintro x rest q s' ⟨rfl,rfl,i,hr,hi⟩
  have hlt:i < es.size:=by
   rcases Nat.lt_or_ge i es.size with h | h
   ·exact h
   ·rw [Nat.sub_eq_zero_of_le h] at hr;simp at hr
  obtain⟨rfl,hrest⟩:x=i∧rest=List.range' (i + 1) (es.size - (i + 1)):=by
   have e:es.size - i=(es.size - (i + 1)) + 1:=by lia
   rw [e,List.range'_succ] at hr
   injection hr with h1 h2
   exact⟨h1,h2⟩
  refine wpAny_bind (wpAny_dictEntries hoa hda ?_)
  have hx:x < xs.length:=by lia
  have hex:es[x]? = some (entryOfKey knd xs[x]):=by rw [entry_at hea x,List.getElem?_eq_getElem hx];rfl
  rw [hex]
  obtain⟨j,p,hj,heq⟩:=hits xs[x] (List.getElem_mem hx)
  show wpAny _ _ (holding [Value.ref xs[x].2.1,xs[x].2.2] _ >>= _) _ _ _
  refine wpAny_bind (wpAny_holding (wpAny_bind ?_))
  refine wpAny_dictFind_heap (knd:=knd) (k:=xs[x].1) (xs:=ys) hu (hia _ (List.getElem_mem hx)) hob hdb heb hib hnb (fun no=>absurd hj (no j p)) fun j2 p2 hj2=>?_
  have ej:j2=j:=idxH_unique hnb hj2 hj
  subst ej
  refine wpAny_bind (wpAny_dictEntries hob hdb ?_)
  have hej:es'[j2]? = some (entryOfKey knd (xs[x].1,p)):=by rw [entry_at heb j2,hj];rfl
  rw [hej]
  refine wpAny_holding (heq prog w _ _ ?_)
  show wpAny _ _ (if (!true)=true then _ else _) _ _ _
  rw [if_neg (by decide)]
  refine wpAny_bind (wpAny_dictEpoch hoa hda ?_)
  rw [if_neg (by simp)]
  exact wpAny_pure ⟨rfl,rfl,x + 1,hrest,hlt⟩
 ·rintro q s' ⟨rfl,rfl,i,hr,hi⟩
  exact wpAny_pure h
theorem Ax {a b:Addr} {xs ys:List (K×Addr×Value)} {Q:Value→Shared→Prop} (ha:(a == sysModules)=false) (hb:(b == sysModules)=false) (hr:knd.room A.in1)
  (da:s.heap.DictOfH knd a xs) (db:s.heap.DictOfH knd b ys) (hu:A.units < cLine) (hl:xs.length=ys.length) (hits:∀x∈xs,∃j:Nat,∃p:Addr×Value,ys[j]? = some (x.1,p)∧SeqAt.EqAt A.in1 s x.2.2 p.2 true) (h:Q (.bool true) s) :
  wpAny (model prog w) A (compareOp .Eq (.ref a) (.ref b)) Q E s:=by
 refine wpAny_richCompare_same_room (op:=.Eq) da.typeIs db.typeIs PySem.F.slot_dict_eq (wpAny_call_entry PySem.F.slot_dict_eq da.typeIs PySem.F.entry_dict_eq ?_ (PySem.F.args_dict_eq_2 _ _)) hu
 show wpAny _ _ (Builtin.Dict.dictSlotArgs "__eq__" ⟨[.ref a,.ref b],[]⟩ >>= _) _ _ s
 refine wpAny_bind ?_
 unfold Builtin.Dict.dictSlotArgs
 refine wpAny_bind (wpAny_notOrdered_dict da.typeIs ?_)
 show wpAny _ _ (pure (Value.ref a,Value.ref b)) _ _ s
 refine wpAny_pure ?_
 refine wpAny_bind (wpAny_isInstance (T := "dict") db.typeIs PySem.F.sub_dict_dict ?_)
 simp only [Bool.not_true,Bool.false_eq_true,if_false]
 refine wpAny_bind (wpAny_pure (wpAny_bind (wpAny_pure ?_)))
 refine wpAny_bind (lu ha hb hr da db hl hits ?_)
 refine wpAny_pure ⟨_,rfl,?_,?_⟩
 ·exact fun x=>nomatch x
 ·exact h
end
end PySem
namespace L2
open PySem PySem.Spec PyProof.Rows
section
variable {X:Cx}
noncomputable def JF:R2:=fun x y H Q=>∃a b kvs,x=.ref a∧y=.ref b∧H a=some (.dT kvs)∧H b=some (.dT kvs)∧(∀kv∈kvs,∃i,kv.2=.int i)∧Q (.bl true) H
noncomputable def JG:R2:=fun x y H Q=>∃a b kvs,x=.ref a∧y=.ref b∧H a=some (.dT kvs)∧H b=some (.dT kvs)∧(∀kv∈kvs,∃i,kv.2=.int i)∧Q (.bl false) H
theorem KT.alike {A:Around} {s:Shared} {H:Hp}:∀ {kvs:List (List Key×V)} {xs ys:List (List Key×Addr×Value)},KT H kvs xs→KT H kvs ys→(∀kv∈kvs,∃i,kv.2=.int i)→∀x∈xs,∃j:Nat,∃p:Addr×Value,ys[j]? = some (x.1,p)∧SeqAt.EqAt A s x.2.2 p.2 true
 | _,_,_,.nil,.nil,_=>fun _ hx=>by cases hx
 | _,_,_,.cons (a:=kv) (b:=x0) h1 r1,.cons (b:=y0) h2 r2,hi=>fun x hx=>by
  rcases List.mem_cons.mp hx with rfl | hx
  ·refine⟨0,y0.2,by rw [← h1.1,h2.1];rfl,?_⟩
   obtain⟨i,e⟩:=hi kv List.mem_cons_self
   have q1:=h1.2.2
   have q2:=h2.2.2
   rw [e] at q1 q2
   obtain⟨t1,e1⟩:=q1
   obtain⟨t2,e2⟩:=q2
   rw [e1,e2]
   have z:=SeqAt.EqAt.int_int (A:=A) (s:=s) i t1 i t2
   simpa using z
  ·obtain⟨j,p,q1,q2⟩:=KT.alike r1 r2 (fun kv' h'=>hi kv' (List.mem_cons_of_mem _ h')) x hx
   exact⟨j + 1,p,q1,q2⟩
end
end L2
namespace My
open PySem L2
noncomputable def apart (f:Nat→Nat):Nat→Nat→Bool
 | 0,_=>true
 | k + 1,m=>!(m.testBit (f k)) && apart f k (m ||| (1 <<< f k))
theorem mQ {f:Nat→Nat}:∀ {k m:Nat},apart f k m=true→(∀i,i < k→m.testBit (f i)=false)∧∀i j,i < k→j < k→f i=f j→i=j
 | 0,_,_=>⟨fun _ h=>absurd h (Nat.not_lt_zero _),fun _ _ h=>absurd h (Nat.not_lt_zero _)⟩
 | k + 1,m,h=>by
  unfold apart at h
  rw [Bool.and_eq_true,Bool.not_eq_true'] at h
  obtain⟨h1,h2⟩:=mQ h.2
  have up:∀i,i < k→m.testBit (f i)=false∧f i≠f k:=fun i hi=>by
   have z:=h1 i hi
   rw [Nat.testBit_or,Bool.or_eq_false_iff] at z
   refine⟨z.1,fun e=>?_⟩
   rw [e,Nat.shiftLeft_eq,Nat.one_mul,Nat.testBit_two_pow_self] at z
   exact absurd z.2 (by decide)
  refine⟨fun i hi=>?_,fun i j hi hj e=>?_⟩
  ·rcases Nat.lt_succ_iff_lt_or_eq.mp hi with z | z
   ·exact (up i z).1
   ·rw [z];exact h.1
  ·rcases Nat.lt_succ_iff_lt_or_eq.mp hi with zi | zi
   ·rcases Nat.lt_succ_iff_lt_or_eq.mp hj with zj | zj
    ·exact h2 i j zi zj e
    ·exact absurd (zj ▸ e) (up i zi).2
   ·rcases Nat.lt_succ_iff_lt_or_eq.mp hj with zj | zj
    ·exact absurd (zi ▸ e.symm) (up j zj).2
    ·rw [zi,zj]
noncomputable def f2 (i:Nat):Nat:=(qb [((i / 31:Nat):Int),((i % 31:Nat):Int)] % 18446744073709551616).toNat % 1518
theorem yG:apart f2 248 0=true:=by decide +kernel
theorem Ay {a b a' b':Nat} (ha:a < 8) (hb:b < 31) (ha':a' < 8) (hb':b' < 31) (e:qb [(a:Int),(b:Int)]=qb [(a':Int),(b':Int)]):a=a'∧b=b':=by
 have h:=(mQ yG).2 (a * 31 + b) (a' * 31 + b') (by lia) (by lia) (by
  unfold f2
  rw [show (a * 31 + b) / 31=a by lia,show (a * 31 + b) % 31=b by lia,show (a' * 31 + b') / 31=a' by lia,show (a' * 31 + b') % 31=b' by lia,e])
 lia
end My
namespace L2
open PySem PySem.Spec PyProof.Rows
section
variable {prog:Program} {w:World} {A:Around}
end
section
variable {X:Cx}
noncomputable def KyV (H:Hp) (v:V) (kv:List Key×V):Prop:=∃b,v=.ref b∧H b=some (.tup (kv.1.map kV))
noncomputable def Ed:List V→Hp→VK→Prop:=fun xs H Q=>∃a kvs,xs=[.ref a]∧H a=some (.dT kvs)∧∀l us,H l=none→Paired (KyV H) us kvs→Q (.ref l) (upd H l (.lst us))
theorem mR (hc:X.calm=true):dC X (.builtin "max") (fun xs H Q=>∃ (p:Addr) (ns:List Int),xs=[.ref p]∧SqL X.K H p (ns.map V.int)∧0 < ns.length∧∀M,M∈ns→(∀a∈ns,a≤M)→Q (.int M) H):=by
 intro pins s σ H xs us Q I r h
 obtain⟨p,ns,rfl,hp,hne,q⟩:=h
 obtain⟨u,rfl,ru⟩:=vals1 r
 cases ru
 obtain⟨its,ri,pl,hz⟩:=I.list hp
 have hi:=intsAre_of ri
 obtain⟨ys,e⟩:=hi.allInts.items
 have hns:ns=ys.toList.map (·.1):=by
  rw [← hi.numsOf,← nums_intItems,← e]
 have hsz:0 < ys.size:=by
  have h3:=hne;rw [hns,List.length_map,Array.length_toList] at h3;exact h3
 have hl:=pl.isList
 rw [e] at hl
 refine max_intList (I.ok.hd hc) hl hsz fun v h' tk hv hk=>?_
 obtain⟨t,rfl⟩:=intItems_at hv
 obtain⟨h1,h2⟩:=argBest_gt (numAt ys) (ys.size - 1)
 refine⟨.int _,H,I.kept hk,⟨_,rfl⟩,q _ ?_ fun a ha=>?_⟩
 ·rw [hns,numAt_eq];exact getD_mem (by rw [List.length_map,Array.length_toList];omega)
 ·rw [hns] at ha
  obtain⟨j,hj,rfl⟩:=mem_getD ha
  rw [List.length_map,Array.length_toList] at hj
  rw [← numAt_eq];exact h2 j (by lia)
end
end L2
namespace My
open PySem L2
noncomputable def k2 (h d:Int):List Key:=[Sum.inl h,Sum.inl d]
noncomputable def nO (kvs:List (List Key×V)) (h d p:Int):Int:=iv (bW kvs (kk h d p))
structure NumOk (n D P:Nat) (kvs:List (List Key×V)):Prop where
 ky:kE kvs
 ai:dX kvs
 inb:∀kv∈kvs,∃h d p:Nat,kv.1=kk h d p∧h < n∧d < D∧p < P
theorem NumOk.nil {n D P:Nat}:NumOk n D P []:=⟨List.nodup_nil,gM,fun _ h=>by cases h⟩
theorem lw {k:List Key} {v:V} {kvs:List (List Key×V)} {kv:List Key×V} (h:kv∈putK kvs k v):kv.1=k∨∃kv'∈kvs,kv'.1=kv.1:=by
 unfold putK at h
 split at h
 ·obtain⟨x,hx,rfl⟩:=List.mem_map.mp h
  by_cases z:x.1=k
  ·rw [if_pos z];exact .inl z
  ·rw [if_neg z];exact .inr ⟨x,hx,rfl⟩
 ·rcases List.mem_append.mp h with h | h
  ·exact .inr ⟨kv,h,rfl⟩
  ·rw [List.mem_singleton.mp h];exact .inl rfl
theorem NumOk.put {n D P:Nat} {kvs:List (List Key×V)} (o:NumOk n D P kvs) {h d p:Nat} (hh:h < n) (hd:d < D) (hp:p < P) (i:Int):NumOk n D P (putK kvs (kk h d p) (.int i)) :=
 ⟨kI o.ky _ _,km o.ai _ _,fun kv m=>by
  rcases lw m with e | ⟨kv',h1,h2⟩
  ·exact⟨h,d,p,e,hh,hd,hp⟩
  ·obtain⟨a,b,c,e,r⟩:=o.inb kv' h1
   exact⟨a,b,c,h2 ▸ e,r⟩⟩
structure PinOk (n D P:Nat) (pns:List (List Key×V)):Prop where
 ky:kE pns
 ai:dX pns
 inb:∀kv∈pns,∃h d:Nat,kv.1=k2 h d∧h < n∧d < D
theorem PinOk.nil {n D P:Nat}:PinOk n D P []:=⟨List.nodup_nil,gM,fun _ h=>by cases h⟩
theorem PinOk.put {n D P:Nat} {kvs:List (List Key×V)} (o:PinOk n D P kvs) {h d:Nat} (hh:h < n) (hd:d < D) (i:Int):PinOk n D P (putK kvs (k2 h d) (.int i)) :=
 ⟨kI o.ky _ _,km o.ai _ _,fun kv m=>by
  rcases lw m with e | ⟨kv',h1,h2⟩
  ·exact⟨h,d,e,hh,hd⟩
  ·obtain⟨a,b,e,r⟩:=o.inb kv' h1
   exact⟨a,b,h2 ▸ e,r⟩⟩
theorem jd {α β:Type _} {f:α→β}:∀ {l:List α} {γ:Type} {g:α→γ},(l.map g).Nodup→(∀a∈l,∀b∈l,f a=f b→g a=g b)→(l.map f).Nodup
 | [],_,_,_,_=>List.nodup_nil
 | a :: l,_,g,h,j=>by
  rw [List.map_cons,List.nodup_cons] at h ⊢
  refine⟨fun z=>?_,jd h.2 fun x hx y hy=>j x (List.mem_cons_of_mem _ hx) y (List.mem_cons_of_mem _ hy)⟩
  obtain⟨b,hb,e⟩:=List.mem_map.mp z
  exact h.1 (List.mem_map.mpr ⟨b,hb,j b (List.mem_cons_of_mem _ hb) a (List.mem_cons_self ..) e⟩)
theorem PinOk.hash {n D P:Nat} {kvs:List (List Key×V)} (o:PinOk n D P kvs) (hn:n≤8) (hD:D≤31) (pr:Program) (w:World):(kvs.map fun kv=>tupleKeyHash (bD pr w) kv.1).Nodup:=by
 refine jd (g:=fun kv=>kv.1) o.ky fun a ha b hb e=>?_
 obtain⟨h,d,e1,a1,a2⟩:=o.inb a ha
 obtain⟨h',d',e2,b1,b2⟩:=o.inb b hb
 have f1:=jM pr w [(h:Int),(d:Int)]
 have f2:=jM pr w [(h':Int),(d':Int)]
 rw [e1,e2] at e
 obtain⟨rfl,rfl⟩:=Ay (by lia) (by lia) (by lia) (by lia) (f1.symm.trans (e.trans f2))
 rw [e1,e2]
theorem ints_of {kvs:List (List Key×V)} (ky:kE kvs) (ai:dX kvs):∀kv∈kvs,∃i,kv.2=.int i:=fun kv m=>by
 obtain⟨j,hj,e⟩:=List.getElem_of_mem m
 exact ai kv.1 kv.2 (DX ky (i:=j) (by rw [List.getElem?_eq_getElem hj,e]))
theorem yH {α:Type _} (f:α→Int) {a b:List α} (h:a.Perm b):(a.map f).sum=(b.map f).sum:=by
 induction h with
 | nil=>rfl
 | cons x _ ih=>rw [List.map_cons,List.map_cons,List.sum_cons,List.sum_cons,ih]
 | swap x y l=>simp only [List.map_cons,List.sum_cons];lia
 | trans _ _ i1 i2=>exact i1.trans i2
theorem lz {α:Type _} (f:α→Int):∀ {l:List α},(∀x∈l,f x=0)→(l.map f).sum=0
 | [],_=>rfl
 | x :: l,h=>by rw [List.map_cons,List.sum_cons,h x (List.mem_cons_self ..),lz f fun y hy=>h y (List.mem_cons_of_mem _ hy)];rfl
theorem uc {α:Type _} [DecidableEq α] (f:α→Int):∀ {s L:List α},s.Nodup→L.Nodup→(∀x∈s,x∈L)→(∀x∈L,x∉s→f x=0)→(s.map f).sum=(L.map f).sum
 | [],L,_,_,_,h=>(lz f fun x hx=>h x hx (by simp)).symm
 | x :: s,L,hs,hL,hi,h=>by
  rw [List.nodup_cons] at hs
  have hx:=hi x (List.mem_cons_self ..)
  rw [yH f (List.perm_cons_erase hx),List.map_cons,List.map_cons,List.sum_cons,List.sum_cons]
  refine congrArg (f x + ·) (uc f hs.2 (hL.erase x) (fun y hy=>?_) fun y hy hn=>?_)
  ·have:y≠x:=fun z=>hs.1 (z ▸ hy)
   exact (List.mem_erase_of_ne this).mpr (hi y (List.mem_cons_of_mem _ hy))
  ·have hyL:=List.mem_of_mem_erase hy
   refine h y hyL fun z=>?_
   rcases List.mem_cons.mp z with rfl | z
   ·exact (hL.not_mem_erase hy).elim
   ·exact hn z
theorem mU {α:Type _} {f g:α→Int} {l:List α} (h:∀x∈l,f x=g x):(l.map f).sum=(l.map g).sum:=by
 rw [List.map_congr_left h]
noncomputable def cls (n D:Nat):List (Nat×Nat):=(List.range n).flatMap fun h=>(List.range D).map fun d=>(h,d)
theorem mem_cls {n D:Nat} {c:Nat×Nat}:c∈cls n D↔c.1 < n∧c.2 < D:=by
 unfold cls
 rw [List.mem_flatMap]
 constructor
 ·rintro⟨h,h1,h2⟩
  obtain⟨d,h3,rfl⟩:=List.mem_map.mp h2
  exact⟨List.mem_range.mp h1,List.mem_range.mp h3⟩
 ·intro h
  exact⟨c.1,List.mem_range.mpr h.1,List.mem_map.mpr ⟨c.2,List.mem_range.mpr h.2,rfl⟩⟩
theorem mV:∀ {n D:Nat},(cls n D).Nodup
 | 0,D=>List.nodup_nil
 | n + 1,D=>by
  have e:cls (n + 1) D=cls n D ++ (List.range D).map fun d=>(n,d):=by
   unfold cls
   rw [List.range_succ,List.flatMap_append]
   simp
  rw [e,List.nodup_append]
  refine⟨mV,?_,fun a ha b hb z=>?_⟩
  ·refine jd (g:=fun x=>x) (by simpa using List.nodup_range) fun a _ b _ z=>?_
   exact (Prod.mk.inj z).2
  ·subst z
   obtain⟨d,_,rfl⟩:=List.mem_map.mp hb
   have:=(mem_cls.mp ha).1
   lia
noncomputable def ka (k:List Key) (i:Nat):Int:=match k[i]? with | some (.inl z)=>z | _=>0
noncomputable def mxL:List Int→Int
 | []=>0
 | x :: xs=>xs.foldl max x
theorem je:∀ (xs:List Int) (x:Int),x≤xs.foldl max x∧∀y∈xs,y≤xs.foldl max x
 | [],x=>⟨Int.le_refl _,fun _ h=>by cases h⟩
 | a :: xs,x=>by
  obtain⟨h1,h2⟩:=je xs (max x a)
  refine⟨Int.le_trans (Int.le_max_left ..) h1,fun y hy=>?_⟩
  rcases List.mem_cons.mp hy with rfl | hy
  ·exact Int.le_trans (Int.le_max_right ..) h1
  ·exact h2 y hy
theorem ig:∀ (xs:List Int) (x:Int),xs.foldl max x=x∨xs.foldl max x∈xs
 | [],x=>.inl rfl
 | a :: xs,x=>by
  have e:(a :: xs).foldl max x=xs.foldl max (max x a):=rfl
  rw [e]
  rcases ig xs (max x a) with h | h
  ·rw [h]
   by_cases z:a≤x
   ·exact .inl (Int.max_eq_left z)
   ·rw [Int.max_eq_right (by lia)];exact .inr (List.mem_cons_self ..)
  ·exact .inr (List.mem_cons_of_mem _ h)
theorem rO {ns:List Int} {M:Int} (h:M∈ns) (g:∀a∈ns,a≤M):M=mxL ns:=by
 cases ns with
 | nil=>cases h
 | cons x xs =>
  obtain⟨h1,h2⟩:=je xs x
  have a:M≤xs.foldl max x:=by
   rcases List.mem_cons.mp h with rfl | h
   ·exact h1
   ·exact h2 M h
  have b:xs.foldl max x≤M:=by
   rcases ig xs x with e | e
   ·rw [e];exact g x (List.mem_cons_self ..)
   ·exact g _ (List.mem_cons_of_mem _ e)
  exact Int.le_antisymm a b
noncomputable def oH (pns:List (List Key×V)) (own:List Int) (h d:Int):List Int:=match bW pns (k2 h d) with | some v=>[iv (some v)] | none=>own
noncomputable def mxC (pns kvs:List (List Key×V)) (own:Nat→List Int) (h d:Nat):Int:=mxL ((oH pns (own h) h d).map fun p=>nO kvs h d p)
noncomputable def d8 (pns kvs:List (List Key×V)) (own:Nat→List Int) (n D:Nat):Int:=((cls n D).map fun c=>mxC pns kvs own c.1 c.2).sum
theorem uU {pns kvs kvs':List (List Key×V)} {own:Nat→List Int} {n D:Nat} (h:∀h d p:Int,nO kvs h d p=nO kvs' h d p):d8 pns kvs own n D=d8 pns kvs' own n D:=by
 refine mU fun c _=>?_
 unfold mxC
 rw [List.map_congr_left fun p _=>h c.1 c.2 p]
noncomputable def prK (kv:List Key×V):List Key×V:=(k2 (ka kv.1 0) (ka kv.1 1),.bl true)
noncomputable def prD (kvs:List (List Key×V)):List (List Key×V):=(kvs.map prK).foldl (fun acc kv=>putK acc kv.1 kv.2) []
theorem mW:∀ {xs acc:List (List Key×V)},kE acc→kE (xs.foldl (fun acc kv=>putK acc kv.1 kv.2) acc)
 | [],_,h=>h
 | x :: xs,_,h=>mW (xs:=xs) (kI h _ _)
theorem qe:∀ {xs acc:List (List Key×V)} {kv:List Key×V},kv∈xs.foldl (fun acc kv=>putK acc kv.1 kv.2) acc→(∃x∈xs,x.1=kv.1)∨∃x∈acc,x.1=kv.1
 | [],_,kv,h=>.inr ⟨kv,h,rfl⟩
 | x :: xs,acc,kv,h=>by
  rcases qe (xs:=xs) h with ⟨y,h1,h2⟩ | ⟨y,h1,h2⟩
  ·exact .inl ⟨y,List.mem_cons_of_mem _ h1,h2⟩
  ·rcases lw h1 with e | ⟨z,h3,h4⟩
   ·exact .inl ⟨x,List.mem_cons_self ..,e.symm.trans h2⟩
   ·exact .inr ⟨z,h3,h4.trans h2⟩
theorem qg:∀ {xs acc:List (List Key×V)} {k:List Key},((∃x∈xs,x.1=k)∨(bW acc k).isSome)→(bW (xs.foldl (fun acc kv=>putK acc kv.1 kv.2) acc) k).isSome
 | [],_,k,h=>by
  rcases h with ⟨x,h,_⟩ | h
  ·cases h
  ·exact h
 | x :: xs,acc,k,h=>by
  refine qg (xs:=xs) ?_
  by_cases z:k=x.1
  ·right
   show (bW (putK acc x.1 x.2) k).isSome=true
   rw [iT,if_pos z]
   rfl
  ·rcases h with ⟨y,h1,h2⟩ | h
   ·rcases List.mem_cons.mp h1 with rfl | h1
    ·exact (z h2.symm).elim
    ·exact .inl ⟨y,h1,h2⟩
   ·right
    show (bW (putK acc x.1 x.2) k).isSome=true
    rw [iT,if_neg z]
    exact h
theorem ue {kvs:List (List Key×V)} {k:List Key} {v:V} (h:bW kvs k=some v):(k,v)∈kvs:=by
 induction kvs with
 | nil=>cases h
 | cons p r ih =>
  by_cases z:p.1=k
  ·rw [cM z] at h
   cases h
   rw [← z]
   exact List.mem_cons_self ..
  ·rw [cN z] at h
   exact List.mem_cons_of_mem _ (ih h)
theorem Az (kvs:List (List Key×V)):(prD kvs).length≤kvs.length:=by
 have:∀ (xs acc:List (List Key×V)),(xs.foldl (fun acc kv=>putK acc kv.1 kv.2) acc).length≤acc.length + xs.length:=by
  intro xs
  induction xs with
  | nil=>intro acc;exact Nat.le_refl _
  | cons x xs ih =>
   intro acc
   have h1:=ih (putK acc x.1 x.2)
   have h2:=dF acc x.1 x.2
   rw [List.foldl_cons,List.length_cons]
   lia
 have h:=this (kvs.map prK) []
 rw [List.length_map] at h
 unfold prD
 simp only [List.length_nil] at h
 lia
theorem oJ {n D P:Nat} {kvs:List (List Key×V)} (o:NumOk n D P kvs):∀kv∈prD kvs,∃h d:Nat,kv.1=k2 h d∧h < n∧d < D:=fun kv m=>by
 rcases qe m with ⟨x,h1,h2⟩ | ⟨x,h1,_⟩
 ·obtain⟨y,hy,rfl⟩:=List.mem_map.mp h1
  obtain⟨h,d,p,e,b1,b2,_⟩:=o.inb y hy
  refine⟨h,d,?_,b1,b2⟩
  rw [← h2]
  unfold prK
  rw [e]
  rfl
 ·cases h1
noncomputable def jD (pns kvs:List (List Key×V)) (own:Nat→List Int) (ks:List (List Key×V)):Int:=(ks.map fun kv=>mxC pns kvs own (ka kv.1 0).toNat (ka kv.1 1).toNat).sum
theorem qi {pns kvs:List (List Key×V)} {own:Nat→List Int} {h d:Nat} (hw:0 < (own h).length) (z:∀p:Int,nO kvs h d p=0):mxC pns kvs own h d=0:=by
 unfold mxC
 have hv:0 < (oH pns (own h) h d).length:=by
  unfold oH
  split
  ·exact Nat.zero_lt_one
  ·exact hw
 refine (rO ?_ fun a ha=>?_).symm
 ·obtain⟨x,hx⟩:=List.exists_mem_of_length_pos hv
  exact List.mem_map.mpr ⟨x,hx,z x⟩
 ·obtain⟨p,_,rfl⟩:=List.mem_map.mp ha
  rw [z]
  exact Int.le_refl _
theorem yI {pns kvs:List (List Key×V)} {own:Nat→List Int} {n D P:Nat} (o:NumOk n D P kvs) (hw:∀h,h < n→0 < (own h).length):jD pns kvs own (prD kvs)=d8 pns kvs own n D:=by
 have hk:kE (prD kvs):=mW List.nodup_nil
 have e1:jD pns kvs own (prD kvs)=(((prD kvs).map fun kv=>((ka kv.1 0).toNat,(ka kv.1 1).toNat)).map fun c=>mxC pns kvs own c.1 c.2).sum:=by
  unfold jD
  rw [List.map_map]
  rfl
 rw [e1]
 refine uc (α:=Nat×Nat) (fun c=>mxC pns kvs own c.1 c.2) ?_ mV (fun c hc=>?_) fun c hc hn=>?_
 ·refine jd (g:=fun kv=>kv.1) hk fun a ha b hb e=>?_
  obtain⟨h,d,e1,_,_⟩:=oJ o a ha
  obtain⟨h',d',e2,_,_⟩:=oJ o b hb
  rw [e1,e2] at e
  obtain⟨z1,z2⟩:=Prod.mk.inj e
  have z1:((h:Int)).toNat=((h':Int)).toNat:=z1
  have z2:((d:Int)).toNat=((d':Int)).toNat:=z2
  rw [e1,e2,show h=h' by lia,show d=d' by lia]
 ·obtain⟨kv,m,rfl⟩:=List.mem_map.mp hc
  obtain⟨h,d,e,b1,b2⟩:=oJ o kv m
  rw [e]
  exact mem_cls.mpr ⟨by show ((h:Int)).toNat < n;lia,by show ((d:Int)).toNat < D;lia⟩
 ·obtain⟨b1,b2⟩:=mem_cls.mp hc
  refine qi (hw _ b1) fun p=>?_
  unfold nO
  cases e:bW kvs (kk c.1 c.2 p) with
  | none=>rfl
  | some v =>
   exfalso
   have m:=ue e
   have h1:=qg (xs:=kvs.map prK) (acc:=[]) (k:=k2 c.1 c.2) (.inl ⟨prK (kk c.1 c.2 p,v),List.mem_map.mpr ⟨_,m,rfl⟩,rfl⟩)
   obtain⟨x,hx⟩:=Option.isSome_iff_exists.mp h1
   refine hn (List.mem_map.mpr ⟨_,ue hx,?_⟩)
   refine Prod.ext ?_ ?_
   ·show ((c.1:Int)).toNat=c.1;lia
   ·show ((c.2:Int)).toNat=c.2;lia
noncomputable def pAt (k:List Key) (qs:List Prt):Int:=(qs.map fun q=>if kk q.h q.d q.p=k then q.n else 0).sum
theorem Ba (t:Int) (kvs:List (List Key×V)) (q:Prt) (k:List Key):iv (bW (dj t kvs q) k)=iv (bW kvs k) + (if kk q.h q.d q.p=k then q.n else 0) * t:=by
 unfold dj
 rw [iT]
 by_cases z:k=kk q.h q.d q.p
 ·rw [if_pos z,if_pos z.symm,z]
  rfl
 ·rw [if_neg z,if_neg (fun y=>z y.symm)]
  lia
theorem qj (t:Int) (k:List Key):∀ (qs:List Prt) (kvs:List (List Key×V)),iv (bW (qs.foldl (dj t) kvs) k)=iv (bW kvs k) + pAt k qs * t
 | [],kvs=>by show iv (bW kvs k)=iv (bW kvs k) + 0 * t;lia
 | q :: qs,kvs=>by
  have h:=qj t k qs (dj t kvs q)
  rw [Ba] at h
  rw [List.foldl_cons,h]
  unfold pAt
  rw [List.map_cons,List.sum_cons,Int.add_mul]
  lia
theorem lA (k:List Key):∀ (ls:List (Lin×Int)) (kvs:List (List Key×V)),iv (bW (ls.foldl oA kvs) k)=iv (bW kvs k) + (ls.map fun l=>pAt k l.1.ps * l.2).sum
 | [],kvs=>by show iv (bW kvs k)=iv (bW kvs k) + 0;lia
 | l :: ls,kvs=>by
  rw [List.foldl_cons,lA k ls]
  show iv (bW (l.1.ps.foldl (dj l.2) kvs) k) + _=_
  rw [qj,List.map_cons,List.sum_cons]
  lia
theorem NumOk.parts {n D P:Nat} {t:Int}:∀ {qs:List Prt} {kvs:List (List Key×V)},NumOk n D P kvs→(∀q∈qs,∃h d p:Nat,kk q.h q.d q.p=kk h d p∧h < n∧d < D∧p < P)→NumOk n D P (qs.foldl (dj t) kvs)
 | [],_,o,_=>o
 | q :: qs,kvs,o,h=>by
  obtain⟨a,b,c,e,b1,b2,b3⟩:=h q (List.mem_cons_self ..)
  refine NumOk.parts (qs:=qs) ?_ fun x hx=>h x (List.mem_cons_of_mem _ hx)
  unfold dj
  rw [e]
  exact o.put b1 b2 b3 _
theorem NumOk.lines {n D P:Nat}:∀ {ls:List (Lin×Int)} {kvs:List (List Key×V)},NumOk n D P kvs→(∀l∈ls,∀q∈l.1.ps,∃h d p:Nat,kk q.h q.d q.p=kk h d p∧h < n∧d < D∧p < P)→NumOk n D P (ls.foldl oA kvs)
 | [],_,o,_=>o
 | l :: ls,kvs,o,h=>NumOk.lines (ls:=ls) (NumOk.parts o (h l (List.mem_cons_self ..))) fun x hx=>h x (List.mem_cons_of_mem _ hx)
theorem Bb (k:List Key) (a b:List Prt):pAt k (a ++ b)=pAt k a + pAt k b:=by
 unfold pAt
 rw [List.map_append,List.sum_append]
end My
namespace My
open PySem L2
structure GatF (H:Hp) (L:Addr) (f:Nat→List Int→Prop) (i:Nat) (H':Hp):Prop where
 ex:∃ (us:List V) (rows:List (List Int)),rows.length=i∧Same H H'∧H' L=some (.lst us)∧Rows H' us rows∧(∀j row,rows[j]? = some row→f j row)∧∀t,V.ref t∈us→t≠L
theorem GatF.start {H:Hp} {L:Addr} {f:Nat→List Int→Prop} (hL:H L=none):GatF H L f 0 (upd H L (.lst [])) :=
 ⟨[],[],rfl,same_new hL _,aj,.nil,(fun j r z=>by simp at z),fun t z=>by cases z⟩
theorem GatF.same {H H':Hp} {L:Addr} {f:Nat→List Int→Prop} {i:Nat} (h:GatF H L f i H'):Same H H':=by
 obtain⟨_,_,_,g,_⟩:=h.ex
 exact g
theorem GatF.step {H H' H2:Hp} {L l:Addr} {f:Nat→List Int→Prop} {i:Nat} {row:List Int} (h:GatF H L f i H') (hL:H L=none) (hi:i≤900) (g2:Same H' H2) (hl:H' l=none) (hl2:H2 l=some (.lst (row.map V.int))) (hp:f i row) :
  ∃xs,H2 L=some (.lst xs)∧xs.length < sizeLine∧GatF H L f (i + 1) (upd H2 L (.lst (xs ++ [.ref l]))):=by
 obtain⟨us,rows,hr,g,e,hR,hP,fr⟩:=h.ex
 have hul:=hR.len
 have ne:L≠l:=aH e hl
 refine⟨us,g2 _ _ e,aW (by lia),us ++ [.ref l],rows ++ [row],by rw [List.length_append,hr];rfl,aY hL (g.trans g2) _,aj,?_,fun j r hr'=>?_,fun t ht=>?_⟩
 ·refine Rows.off (Rows.snoc (hR.mono g2) ⟨l,rfl,hl2⟩) fun z=>?_
  rcases List.mem_append.mp z with z | z
  ·exact fr L z rfl
  ·exact ne (V.ref.inj (List.mem_singleton.mp z))
 ·by_cases z:j < rows.length
  ·rw [List.getElem?_append_left z] at hr'
   exact hP j r hr'
  ·rw [List.getElem?_append_right (by lia)] at hr'
   have hj:j - rows.length < [row].length:=(List.getElem?_eq_some_iff.mp hr').1
   rw [List.length_singleton] at hj
   rw [show j - rows.length=0 by lia] at hr'
   cases hr'
   rw [show j=i by lia]
   exact hp
 ·rcases List.mem_append.mp ht with z | z
  ·exact fr t z
  ·rw [V.ref.inj (List.mem_singleton.mp z)]
   exact ne.symm
theorem GatF.done {H H':Hp} {L:Addr} {f:Nat→List Int→Prop} {i:Nat} (h:GatF H L f i H'):∃ (us:List V) (rows:List (List Int)),rows.length=i∧Same H H'∧H' L=some (.lst us)∧Rows H' us rows∧∀j row,rows[j]? = some row→f j row:=by
 obtain⟨us,rows,a,b,c,d,e,_⟩:=h.ex
 exact⟨us,rows,a,b,c,d,e⟩
theorem uV {H H':Hp} {d:Addr} {o o':HO} (e:H d=some o) (g:Same (upd H d o') H'):Same H (upd H' d o):=fun b u hb=>by
 by_cases z:b=d
 ·subst z
  rw [aj,← hb,e]
 ·rw [aG z]
  exact g b u (by rw [aG z];exact hb)
theorem ug {H:Hp} {d b:Addr} {o u:HO} {kvs:List (List Key×V)} (e:H d=some (.dT kvs)) (hb:H b=some u) (n:∀k,u≠.dT k):upd H d o b=some u:=by
 rw [aG]
 ·exact hb
 ·intro z
  rw [z,e] at hb
  exact n _ (Option.some.inj hb).symm
theorem oK {c:TT} {ta tb:TS} {D:Ends} {σ:St} {H:Hp} (h:∀A:TS,A=ta→zq c A tb D σ H):zq c ta tb D σ H:=h ta rfl
theorem rP {pns kvs:List (List Key×V)} {own:Nat→List Int} {ks:List (List Key×V)} {i:Nat} {kv:List Key×V} (h:ks[i]? = some kv):jD pns kvs own (ks.take (i + 1))=jD pns kvs own (ks.take i) + mxC pns kvs own (ka kv.1 0).toNat (ka kv.1 1).toNat:=by
 rw [bh h]
 unfold jD
 rw [List.map_append,List.sum_append]
 simp
structure PrI (F:Hp) (L:Addr) (kvs:List (List Key×V)) (i:Nat) (H':Hp):Prop where
 ex:∃us,Same F H'∧H' L=some (.lst us)∧L2.PrsV H' us ((kvs.take i).map prK)
theorem PrI.start {F:Hp} {L:Addr} {kvs:List (List Key×V)} (hL:F L=none):PrI F L kvs 0 (upd F L (.lst [])) :=
 ⟨[],same_new hL _,aj,by rw [List.take_zero];exact .nil⟩
theorem PrI.same {F H':Hp} {L:Addr} {kvs:List (List Key×V)} {i:Nat} (h:PrI F L kvs i H'):Same F H':=by
 obtain⟨_,g,_⟩:=h.ex
 exact g
theorem mY {H H':Hp} (g:gr H H') {us:List V} {kvs:List (List Key×V)} (h:L2.PrsV H us kvs):L2.PrsV H' us kvs:=Paired.mapP h fun _ _ ⟨t,b,e,q1,q2⟩=>⟨t,b,e,g _ _ q1,g _ _ q2⟩
theorem PrI.step {F H':Hp} {L b t:Addr} {kvs:List (List Key×V)} {i:Nat} {h d p:Int} {v:V} (I:PrI F L kvs i H') (hL:F L=none) (hk:kvs[i]? = some (kk h d p,v)) (hi:i≤900) (hb:H' b=none) (ht:upd H' b (.tup [.int h,.int d]) t=none) :
  ∃xs,upd (upd H' b (.tup [.int h,.int d])) t (.tup [.ref b,.bl true]) L=some (.lst xs)∧xs.length < sizeLine∧PrI F L kvs (i + 1) (upd (upd (upd H' b (.tup [.int h,.int d])) t (.tup [.ref b,.bl true])) L (.lst (xs ++ [.ref t]))):=by
 obtain⟨us,g,e,hP⟩:=I.ex
 have g1:=same_new hb (.tup [.int h,.int d])
 have g2:=same_new ht (.tup [.ref b,.bl true])
 have hl:=Paired.length hP
 rw [List.length_map,List.length_take] at hl
 have G:=g1.trans g2
 refine⟨us,G _ _ e,aW (by lia),us ++ [.ref t],aY hL (g.trans G) _,aj,?_⟩
 rw [bh hk,List.map_append]
 refine mY (bK (G _ _ e)) ?_
 exact bz (mY (aF G) hP) ⟨t,b,rfl,aj,g2 _ _ aj⟩
end My
namespace My
open PySem L2
theorem Rows.frz {H:Hp} {us:List V} {rows:List (List Int)} {nd:Addr} {kvs:List (List Key×V)} (hR:Rows H us rows) (en:H nd=some (.dT kvs)) (o:HO):Rows (upd H nd o) us rows :=
 hR.off fun z=>by
  obtain⟨row,e⟩:=hR.tracked z
  rw [en] at e
  cases e
theorem oM {kvs:List (List Key×V)} (ai:dX kvs) (h d p:Int):(bW kvs (kk h d p)).getD (.int 0)=.int (nO kvs h d p):=by
 unfold nO
 exact rF ai _
end My
namespace My
open PySem L2
noncomputable def InR (n D P:Nat) (q:Prt):Prop:=∃h d p:Nat,kk q.h q.d q.p=kk h d p∧h < n∧d < D∧p < P
end My
namespace My
open PySem L2
end My
namespace My
open PySem L2
end My
namespace My
open PySem L2
theorem yJ {pns:List (List Key×V)} {own:Nat→List Int} {n D:Nat} (hw:∀h,h < n→0 < (own h).length):d8 pns [] own n D=0 :=
 lz _ fun c hc=>qi (hw _ (mem_cls.mp hc).1) fun _=>rfl
end My
namespace My
open PySem L2
end My
namespace My
open PySem L2
theorem Ef {α:Type} (k:List Key) (f:α→List Prt):∀xs:List α,pAt k (xs.flatMap f)=(xs.map fun x=>pAt k (f x)).sum
 | []=>rfl
 | x :: xs=>by rw [List.flatMap_cons,Bb,Ef k f xs,List.map_cons,List.sum_cons]
theorem Bc (k:List Key) (h:Int) (d:Nat) (ps:List Pst) (t:Int):pAt k (gO h d ps t)=pAt k (byH h ps d t):=by
 have e1:gO h d ps t=(upto 0 d).flatMap fun x=>(cH ps).map fun p=>⟨h,x,p,hrV ps p * t⟩:=by
  unfold gO spr
  rw [List.map_flatMap]
  refine congrArg (fun f=>List.flatMap f (upto 0 d)) (funext fun x=>?_)
  rw [List.map_map]
  rfl
 have e2:byH h ps d t=(cH ps).flatMap fun p=>(upto 0 d).map fun x=>⟨h,x,p,hrV ps p * t⟩:=by
  unfold byH byI spr cH
  refine congrArg (fun f=>List.flatMap f (upto 1 ps.length)) (funext fun p=>?_)
  generalize upto 0 d=xs
  induction xs with
  | nil=>rfl
  | cons x xs ih=>rw [List.flatMap_cons,ih];rfl
 rw [e1,e2,Ef,Ef]
 unfold pAt
 simp only [List.map_map]
 exact Cm (fun x p=>if kk h x p=k then hrV ps p * t else 0) (cH ps) (upto 0 d)
noncomputable def eV (ℓ:Lin):(List Key→Int)×Int:=(fun k=>pAt k ℓ.ps,ℓ.b)
theorem yK (d n:Nat) (ps:List Pst) {s:Sp4} (hc:s.k=4→0≤s.c):(fH d n ps s).map eV=(cI d n ps s).map eV:=by
 unfold fH
 by_cases k4:s.k=4
 ·rw [if_pos k4,jb _ _ _ _ (hc k4),pZ k4]
 ·rw [if_neg k4]
  by_cases k5:s.k=5
  ·rw [if_pos k5,tY k5]
   simp only [List.map_cons,List.map_nil]
   unfold eV
   simp only [Bc]
  ·rw [if_neg k5]
noncomputable def cJ (sums:List (List Lin)) (u:Tri):Option Lin:=if 0≤u.1∧0≤u.2.1 then (sums[u.1.toNat]?).bind fun ls=>ls[u.2.1.toNat]? else none
noncomputable def okU (sums:List (List Lin)) (u:Tri):Bool:=(cJ sums u).isSome && decide (1≤u.2.2)
noncomputable def gQ:Lin:=⟨[],0⟩
noncomputable def usL (sums:List (List Lin)) (us:List Tri):List (Lin×Int):=us.map fun u=>((cJ sums u).getD gQ,u.2.2)
noncomputable def rQ (sums:List (List Lin)) (us:List Tri) (pns:List (List Key×V)) (own:Nat→List Int) (n D:Nat):Bool:=us.all (okU sums) && decide (d8 pns (bJ (usL sums us)) own n D < dW (usL sums us))
noncomputable def ju (sums:List (List Lin)) (us:List Tri) (pns:List (List Key×V)) (own:Nat→List Int) (n D:Nat):Bool:=us.all (okU sums) && (decide (us≠[]) && decide (d8 pns (bJ (usL sums us)) own n D < dW (usL sums us)))
theorem ql {a b:List (List Lin)} (h:a.map (·.map eV)=b.map (·.map eV)) (u:Tri):(cJ a u).map eV=(cJ b u).map eV:=by
 unfold cJ
 by_cases z:0≤u.1∧0≤u.2.1
 ·rw [if_pos z,if_pos z]
  have h1:=congrArg (fun l=>l[u.1.toNat]?) h
  simp only [List.getElem?_map] at h1
  cases ea:a[u.1.toNat]? with
  | none =>
   rw [ea] at h1
   cases eb:b[u.1.toNat]? with
   | none=>rfl
   | some y=>rw [eb] at h1;cases h1
  | some x =>
   rw [ea] at h1
   cases eb:b[u.1.toNat]? with
   | none=>rw [eb] at h1;cases h1
   | some y =>
    rw [eb] at h1
    have h2:=congrArg (fun l=>l[u.2.1.toNat]?) (Option.some.inj h1)
    simp only [List.getElem?_map] at h2
    exact h2
 ·rw [if_neg z,if_neg z]
theorem uW {a b:List (List Lin)} (h:a.map (·.map eV)=b.map (·.map eV)) (u:Tri):okU a u=okU b u:=by
 have e:=congrArg Option.isSome (ql h u)
 rw [Option.isSome_map,Option.isSome_map] at e
 unfold okU
 rw [e]
theorem mZ {a b:List (List Lin)} (h:a.map (·.map eV)=b.map (·.map eV)) (u:Tri):eV ((cJ a u).getD gQ)=eV ((cJ b u).getD gQ):=by
 have e:=ql h u
 cases ea:cJ a u with
 | none =>
  rw [ea] at e
  cases eb:cJ b u with
  | none=>rfl
  | some y=>rw [eb] at e;cases e
 | some x =>
  rw [ea] at e
  cases eb:cJ b u with
  | none=>rw [eb] at e;cases e
  | some y=>rw [eb] at e;exact Option.some.inj e
theorem rR {a b:List (List Lin)} (h:a.map (·.map eV)=b.map (·.map eV)) (us:List Tri):dW (usL a us)=dW (usL b us):=by
 unfold dW usL
 rw [List.map_map,List.map_map]
 refine congrArg List.sum (List.map_congr_left fun u _=>?_)
 show ((cJ a u).getD gQ).b * u.2.2=((cJ b u).getD gQ).b * u.2.2
 have e:((cJ a u).getD gQ).b=((cJ b u).getD gQ).b:=congrArg Prod.snd (mZ h u)
 rw [e]
theorem yL {a b:List (List Lin)} (h:a.map (·.map eV)=b.map (·.map eV)) (us:List Tri) (x y z:Int):nO (bJ (usL a us)) x y z=nO (bJ (usL b us)) x y z:=by
 unfold nO bJ
 rw [lA,lA]
 unfold usL
 rw [List.map_map,List.map_map]
 refine congrArg (fun w=>iv (bW [] (kk x y z)) + List.sum w) (List.map_congr_left fun u _=>?_)
 show pAt (kk x y z) ((cJ a u).getD gQ).ps * u.2.2=pAt (kk x y z) ((cJ b u).getD gQ).ps * u.2.2
 have e:pAt (kk x y z) ((cJ a u).getD gQ).ps=pAt (kk x y z) ((cJ b u).getD gQ).ps:=congrFun (congrArg Prod.fst (mZ h u)) (kk x y z)
 rw [e]
theorem Bd {a b:List (List Lin)} (h:a.map (·.map eV)=b.map (·.map eV)) (us:List Tri) (pns:List (List Key×V)) (own:Nat→List Int) (n D:Nat) (hw:∀h,h < n→0 < (own h).length):ju a us pns own n D=rQ b us pns own n D:=by
 unfold ju rQ
 rw [show okU a=okU b from funext (uW h),rR h,uU (yL h us)]
 cases us with
 | nil =>
  have e:d8 pns (bJ (usL b [])) own n D=0:=yJ hw
  rw [e]
  rfl
 | cons u us =>
  rw [show decide (u :: us≠[])=true from decide_eq_true (by simp),Bool.true_and]
noncomputable def qm (n D P:Nat) (ls:List Lin):Prop:=ls.length≤40∧∀ℓ∈ls,ℓ.ps.length≤100∧∀q∈ℓ.ps,InR n D P q
theorem oN {n D P:Nat} {q:Prt} (h0:0≤q.h) (h1:q.h < (n:Int)) (d0:0≤q.d) (d1:q.d < (D:Int)) (p0:0≤q.p) (p1:q.p < (P:Int)):InR n D P q :=
 ⟨q.h.toNat,q.d.toNat,q.p.toNat,by rw [show ((q.h.toNat:Nat):Int)=q.h by lia,show ((q.d.toNat:Nat):Int)=q.d by lia,show ((q.p.toNat:Nat):Int)=q.p by lia],by lia,by lia,by lia⟩
theorem lB {n D P:Nat} {ℓ:Lin} (l:ℓ.ps.length≤100) (h:∀q∈ℓ.ps,InR n D P q):qm n D P [ℓ]:=⟨by simp,fun _ z=>by rw [List.mem_singleton.mp z];exact⟨l,h⟩⟩
theorem jf {h c:Int} {n D P:Nat} {ds ps:List Int} (h0:0≤h) (h1:h < (n:Int)) (hd:∀x∈ds,0≤x∧x < (D:Int)) (hp:∀x∈ps,0≤x∧x < (P:Int)) {q:Prt} (hq:q∈spr h ds ps c):InR n D P q:=by
 obtain⟨z1,z2,z3,_⟩:=iQ hq
 have:=hd _ z2
 have:=hp _ z3
 exact oN (by lia) (by lia) (by lia) (by lia) (by lia) (by lia)
theorem qu {a b:Nat} (h:a≤6) (g:b≤6):a * b≤100:=Nat.le_trans (Nat.mul_le_mul h g) (by decide)
theorem m5 {d:Int} {n:Nat} {ps:List Pst} {s:Sp4} (ok:jr d n ps.length s) (d1:1≤d) (d2:d≤6) (p:ps.length≤6) (n8:n≤8):qm n d.toNat (ps.length + 1) (cI d.toNat n ps s):=by
 have k6:=ok.k6
 have al:=dI ps
 have hf:=(uR ok d1 d2 p n8).1
 have hd:∀m,∀x∈dsN m d.toNat,0≤x∧x < (d.toNat:Int):=fun m x hx=>yr hx
 have dl:∀m,(dsN m d.toNat).length≤6:=fun m=>by have:=jL m d.toNat;lia
 have hp:∀x∈cH ps,0≤x∧x < ((ps.length + 1:Nat):Int):=fun x hx=>by have:=eQ hx;lia
 obtain hk | hk | hk | hk | hk | hk | hk:s.k=0∨s.k=1∨s.k=2∨s.k=3∨s.k=4∨s.k=5∨s.k=6:=by lia
 ·rw [tU hk]
  obtain⟨a0,a1,_,_⟩:=ok.w hk
  have P0:=ok.P0
  refine lB ?_ fun q hq=>?_
  ·show (dJ n s.a (1 + s.b % (ps.length:Int))).length≤100
   rw [mL]
   lia
  ·have hq':q∈dJ n s.a (1 + s.b % (ps.length:Int)):=hq
   unfold dJ at hq'
   obtain⟨i,hi,rfl⟩:=List.mem_map.mp hq'
   have:=List.mem_range.mp hi
   have m1:=Int.emod_nonneg s.b (b:=(ps.length:Int)) (by lia)
   have m2:=Int.emod_lt_of_pos s.b (b:=(ps.length:Int)) (by lia)
   exact oN (by show (0:Int)≤(i:Int);lia) (by show (i:Int) < n;lia) a0 (by show s.a < _;lia) (by show 0≤1 + s.b % (ps.length:Int);lia) (by show 1 + s.b % (ps.length:Int) < _;lia)
 ·rw [tV hk]
  obtain⟨a0,a1⟩:=ok.h (by lia)
  exact lB (by show (spr _ _ _ _).length≤100;rw [cR];exact qu (dl _) (by lia)) fun q hq=>jf a0 a1 (hd _) hp hq
 ·rw [tW hk]
  obtain⟨a0,a1⟩:=ok.h (by lia)
  exact lB (by show (spr _ _ _ _).length≤100;rw [cR];exact qu (dl _) (by lia)) fun q hq=>jf a0 a1 (hd _) hp hq
 ·rw [tX hk] at hf ⊢
  obtain⟨a0,a1⟩:=ok.h (by lia)
  refine⟨hf,fun ℓ hℓ=>?_⟩
  unfold mF at hℓ
  obtain⟨x,hx,rfl⟩:=List.mem_map.mp hℓ
  exact⟨by show (spr _ _ _ _).length≤100;rw [cR];exact qu (by simp) (by lia),fun q hq=>jf a0 a1 (fun y hy=>by rw [List.mem_singleton.mp hy];exact hd _ _ hx) hp hq⟩
 ·rw [pZ hk] at hf ⊢
  obtain⟨a0,a1⟩:=ok.h (by lia)
  obtain⟨c0,c1⟩:=ok.c4 hk
  refine⟨hf,fun ℓ hℓ=>?_⟩
  unfold dH at hℓ
  obtain⟨i,hi,rfl⟩:=List.mem_map.mp hℓ
  have hi':=List.mem_range.mp hi
  have nl:=yt ps
  exact⟨by show (spr _ _ _ _).length≤100;rw [cR,upL];exact qu (by lia) (by lia),fun q hq=>jf a0 a1 (fun y hy=>by have:=eQ hy;lia) (fun y hy=>by have:=np_mem.mp hy;lia) hq⟩
 ·rw [tY hk]
  obtain⟨a0,a1⟩:=ok.h (by lia)
  have key:∀c b:Int,(⟨byH s.a ps d.toNat c,b⟩:Lin).ps.length≤100∧∀q∈(⟨byH s.a ps d.toNat c,b⟩:Lin).ps,InR n d.toNat (ps.length + 1) q:=fun c b=>by
   refine⟨?_,fun q hq=>?_⟩
   ·show (byH s.a ps d.toNat c).length≤100
    unfold byH byI
    refine Nat.le_trans (rG (B:=6) (fun x=>?_) _) ?_
    ·rw [cR,upL]
     show d.toNat * 1≤6
     lia
    ·rw [upL]
     lia
   ·have hq':q∈byH s.a ps d.toNat c:=hq
    unfold byH byI at hq'
    obtain⟨y,hy,hq2⟩:=List.mem_flatMap.mp hq'
    have hy':=eQ hy
    exact jf a0 a1 (fun y hy=>by have:=eQ hy;lia) (fun z hz=>by rw [List.mem_singleton.mp hz];lia) hq2
  refine⟨by simp,fun ℓ hℓ=>?_⟩
  rcases List.mem_cons.mp hℓ with rfl | hℓ
  ·exact key _ _
  ·rw [List.mem_singleton.mp hℓ]
   exact key _ _
 ·rw [tZ hk] at hf ⊢
  obtain⟨a0,a1⟩:=ok.h (by lia)
  obtain⟨b0,b1,_⟩:=ok.o hk
  refine⟨hf,fun ℓ hℓ=>?_⟩
  unfold fW at hℓ
  obtain⟨x,hx,rfl⟩:=List.mem_map.mp hℓ
  obtain⟨⟨x0,x1⟩,x2,x3⟩:=plcI_mem.mp hx
  refine⟨by show 2≤100;decide,fun q hq=>?_⟩
  have hq':q∈[(⟨s.a,x.1,x.2,-1⟩:Prt),⟨s.b,x.1,x.2,-1⟩]:=hq
  rcases List.mem_cons.mp hq' with z | z
  ·rw [z]
   exact oN a0 a1 x0 x1 (by show 0≤x.2;lia) (by show x.2 < _;lia)
  ·rw [List.mem_singleton.mp z]
   exact oN b0 b1 x0 x1 (by show 0≤x.2;lia) (by show x.2 < _;lia)
theorem Be {d:Int} {n:Nat} {ps:List Pst} {s:Sp4} (ok:jr d n ps.length s) (d1:1≤d) (d2:d≤6) (p:ps.length≤6) (n8:n≤8):(fH d.toNat n ps s).length≤40∧∀ℓ∈fH d.toNat n ps s,ℓ.ps.length≤100:=by
 have h:=m5 ok d1 d2 p n8
 unfold fH
 by_cases k4:s.k=4
 ·rw [if_pos k4,jb _ _ _ _ (ok.c4 k4).1,← pZ (n:=n) k4]
  exact⟨h.1,fun ℓ hℓ=>(h.2 ℓ hℓ).1⟩
 ·rw [if_neg k4]
  by_cases k5:s.k=5
  ·rw [if_pos k5]
   have key:∀c:Int,(gO s.a d.toNat ps c).length≤100:=fun c=>by
    unfold gO
    rw [List.length_map,cR,upL,dI]
    exact qu (by lia) p
   refine⟨by simp,fun ℓ hℓ=>?_⟩
   rcases List.mem_cons.mp hℓ with rfl | hℓ
   ·exact key _
   ·rw [List.mem_singleton.mp hℓ]
    exact key _
  ·rw [if_neg k5]
   exact⟨h.1,fun ℓ hℓ=>(h.2 ℓ hℓ).1⟩
theorem yM {sums:List (List Lin)} {u:Tri} {ℓ:Lin} (h:cJ sums u=some ℓ):∃ls∈sums,ℓ∈ls:=by
 unfold cJ at h
 split at h
 ·cases e:sums[u.1.toNat]? with
  | none=>rw [e] at h;cases h
  | some ls =>
   rw [e] at h
   exact⟨ls,List.mem_of_getElem? e,List.mem_of_getElem? (show ls[u.2.1.toNat]? = some ℓ from h)⟩
 ·cases h
theorem Eg {n D P:Nat} {sums:List (List Lin)} (h:∀ls∈sums,qm n D P ls) (us:List Tri):NumOk n D P (bJ (usL sums us)):=by
 refine NumOk.lines NumOk.nil fun l hl q hq=>?_
 obtain⟨u,_,rfl⟩:=List.mem_map.mp hl
 cases e:cJ sums u with
 | none =>
  have hq':q∈((cJ sums u).getD gQ).ps:=hq
  rw [e] at hq'
  cases hq'
 | some ℓ =>
  have hq':q∈((cJ sums u).getD gQ).ps:=hq
  rw [e] at hq'
  obtain⟨ls,h1,h2⟩:=yM e
  exact ((h ls h1).2 ℓ h2).2 q hq'
theorem jw {sums:List (List Lin)} (h:∀ls∈sums,∀ℓ∈ls,ℓ.ps.length≤100):∀us:List Tri,bL (usL sums us)≤us.length * 100
 | []=>Nat.zero_le _
 | u :: us=>by
  have ih:=jw h us
  have e:bL (usL sums (u :: us))=((cJ sums u).getD gQ).ps.length + bL (usL sums us):=by
   unfold bL usL
   rw [List.map_cons,List.map_cons,List.sum_cons]
  have h1:((cJ sums u).getD gQ).ps.length≤100:=by
   cases e:cJ sums u with
   | none=>exact Nat.zero_le _
   | some ℓ =>
    obtain⟨ls,h1,h2⟩:=yM e
    exact h ls h1 ℓ h2
  rw [e,List.length_cons,Nat.succ_mul]
  lia
end My
namespace My
open PySem L2
noncomputable def uX (us:List Tri):Prop:=us.length≤6∧∀u∈us,-(2 ^ 40) < u.2.2∧u.2.2 < 2 ^ 40
theorem uh {sums:List (List Lin)} {us:List Tri} (h:uX us):∀l∈usL sums us,-(2 ^ 40) < l.2∧l.2 < 2 ^ 40:=fun l hl=>by
 obtain⟨u,hu,rfl⟩:=List.mem_map.mp hl
 exact h.2 u hu
noncomputable def JH (H:Hp) (v:V) (l:Lin×Int):Prop:=∃t u,v=.ref t∧H t=some (.tup [.ref u,.int l.2])∧LinLV H (.ref u) l.1
noncomputable abbrev Bf (H:Hp):List V→List (Lin×Int)→Prop:=Paired (JH H)
theorem LinLV.mono {H H':Hp} (g:Same H H') {v:V} {ℓ:Lin} (h:LinLV H v ℓ):LinLV H' v ℓ:=by
 obtain⟨t,l,ts,e,q,r,z⟩:=h
 exact⟨t,l,ts,e,g _ _ q,g _ _ r,z.mono (aF g)⟩
noncomputable def Il (H:Hp) (v:V) (ls:List Lin):Prop:=∃t us,v=.ref t∧H t=some (.lst us)∧LinsL H us ls
noncomputable abbrev Told (H:Hp):List V→List (List Lin)→Prop:=Paired (Il H)
theorem Told.mono {H H':Hp} (g:Same H H') {us:List V} {lls:List (List Lin)} (h:Told H us lls):Told H' us lls:=Paired.mapP h fun _ _ ⟨t,us,e,q,r⟩=>⟨t,us,e,g _ _ q,LinsL.mono g r⟩
theorem Paired.at {α β:Type} {F:α→β→Prop}:∀ {xs:List α} {ys:List β} {i:Nat} {y:β},Paired F xs ys→ys[i]? = some y→∃x,xs[i]? = some x∧F x y
 | _,_,_,_,.nil,h=>by simp at h
 | _,_,0,_,.cons a _,h=>⟨_,rfl,by cases h;exact a⟩
 | _,_,i + 1,_,.cons _ r,h=>by
  obtain⟨x,e,f⟩:=Paired.at r (i:=i) (by simpa using h)
  exact⟨x,by simpa using e,f⟩
theorem qz {sums:List (List Lin)} {r l t:Int} {ls:List Lin} (r0:0≤r) (hr:sums[r.toNat]? = some ls) (l0:0≤l):cJ sums (r,l,t)=ls[l.toNat]?:=by
 unfold cJ
 rw [if_pos ⟨r0,l0⟩]
 show (sums[r.toNat]?).bind _=_
 rw [hr]
 rfl
theorem CK {sums:List (List Lin)} {r l t:Int} (h:¬ (0≤r∧0≤l)):cJ sums (r,l,t)=none:=by
 unfold cJ
 rw [if_neg h]
theorem Eh {sums:List (List Lin)} {r l t:Int} (h:(sums.length:Int)≤r):cJ sums (r,l,t)=none:=by
 unfold cJ
 split
 ·show (sums[r.toNat]?).bind _=_
  rw [List.getElem?_eq_none (by lia)]
  rfl
 ·rfl
theorem Bg {sums:List (List Lin)} {u:Tri} (h:okU sums u=true):0≤u.1∧u.1 < sums.length∧0≤u.2.1∧1≤u.2.2∧∃ls ℓ,sums[u.1.toNat]? = some ls∧ls[u.2.1.toNat]? = some ℓ∧cJ sums u=some ℓ:=by
 unfold okU at h
 rw [Bool.and_eq_true,decide_eq_true_eq] at h
 obtain⟨h,h1⟩:=h
 obtain⟨ℓ,e⟩:=Option.isSome_iff_exists.mp h
 have e':=e
 unfold cJ at e
 split at e
 ·rename_i z
  cases er:sums[u.1.toNat]? with
  | none=>rw [er] at e;cases e
  | some ls =>
   rw [er] at e
   have hl:=(List.getElem?_eq_some_iff.mp er).1
   exact⟨z.1,by lia,z.2,h1,ls,ℓ,rfl,e,e'⟩
 ·cases e
structure PaG (H:Hp) (L:Addr) (ls:List (Lin×Int)) (i:Nat) (H':Hp):Prop where
 ex:∃us:List V,Same H H'∧H' L=some (.lst us)∧Prs H' us (ls.take i)
theorem PaG.start {H:Hp} {L:Addr} {ls:List (Lin×Int)} (hL:H L=none):PaG H L ls 0 (upd H L (.lst [])):=⟨[],same_new hL _,aj,by rw [List.take_zero];exact .nil⟩
theorem PaG.same {H H':Hp} {L:Addr} {ls:List (Lin×Int)} {i:Nat} (h:PaG H L ls i H'):Same H H':=by
 obtain⟨_,g,_⟩:=h.ex
 exact g
theorem PaG.step {H H':Hp} {L t u:Addr} {ls:List (Lin×Int)} {i:Nat} {l:Lin×Int} (h:PaG H L ls i H') (hL:H L=none) (hi:i≤900) (hl:ls[i]? = some l) (hv:LinV H' (.ref u) l.1) (ht:H' t=none) :
  ∃xs,upd H' t (.tup [.ref u,.int l.2]) L=some (.lst xs)∧xs.length < sizeLine∧PaG H L ls (i + 1) (upd (upd H' t (.tup [.ref u,.int l.2])) L (.lst (xs ++ [.ref t]))):=by
 obtain⟨us,g,e,hP⟩:=h.ex
 have hul:=Paired.length hP
 rw [List.length_take] at hul
 have gt:=same_new ht (.tup [.ref u,.int l.2])
 refine⟨us,gt _ _ e,aW (by lia),us ++ [.ref t],aY hL (g.trans gt) _,aj,?_⟩
 rw [bh hl]
 exact Prs.mono (bK (gt _ _ e)) (bz (hP.mono (aF gt)) ⟨t,u,rfl,aj,hv.mono (aF gt)⟩)
structure PlG (H:Hp) (L:Addr) (ls:List (Lin×Int)) (H':Hp):Prop where
 ex:∃us:List V,Same H H'∧H' L=some (.lst us)∧Paired (fun v l=>∃t u,v=V.ref t∧H' t=some (.tup [.ref u,.int l.2])∧LinLV H (.ref u) l.1) us ls
theorem PlG.start {H:Hp} {L:Addr} (hL:H L=none):PlG H L [] (upd H L (.lst [])):=⟨[],same_new hL _,aj,.nil⟩
theorem PlG.same {H H':Hp} {L:Addr} {ls:List (Lin×Int)} (h:PlG H L ls H'):Same H H':=by
 obtain⟨_,g,_⟩:=h.ex
 exact g
theorem PlG.done {H H':Hp} {L:Addr} {ls:List (Lin×Int)} (h:PlG H L ls H'):∃us:List V,Same H H'∧H' L=some (.lst us)∧Bf H' us ls:=by
 obtain⟨us,g,e,hP⟩:=h.ex
 exact⟨us,g,e,Paired.mapP hP fun _ _ ⟨t,u,e,q,r⟩=>⟨t,u,e,q,r.mono g⟩⟩
theorem PlG.step {H H':Hp} {L t u:Addr} {ls:List (Lin×Int)} {ℓ:Lin} {k:Int} (h:PlG H L ls H') (hL:H L=none) (hi:ls.length≤900) (hv:LinLV H (.ref u) ℓ) (ht:H' t=none) :
  ∃xs,upd H' t (.tup [.ref u,.int k]) L=some (.lst xs)∧xs.length < sizeLine∧PlG H L (ls ++ [(ℓ,k)]) (upd (upd H' t (.tup [.ref u,.int k])) L (.lst (xs ++ [.ref t]))):=by
 obtain⟨us,g,e,hP⟩:=h.ex
 have hul:=Paired.length hP
 have gt:=same_new ht (.tup [.ref u,.int k])
 have tu:=bK (o:=.lst (us ++ [.ref t])) (gt _ _ e)
 refine⟨us,gt _ _ e,aW (by lia),us ++ [.ref t],aY hL (g.trans gt) _,aj,?_⟩
 exact bz (Paired.mapP hP fun _ _ ⟨t,u,e,q,r⟩=>⟨t,u,e,tu _ _ (gt _ _ q),r⟩) ⟨t,u,rfl,tu _ _ aj,hv⟩
noncomputable def lC (f:Nat→Nat→Int) (D i j:Nat):Int:=((cls i D).map fun c=>f c.1 c.2).sum + ((List.range j).map fun d=>f i d).sum
theorem yN (n D:Nat):cls (n + 1) D=cls n D ++ (List.range D).map fun d=>(n,d):=by
 unfold cls
 rw [List.range_succ,List.flatMap_append]
 simp
theorem uY (f:Nat→Nat→Int) (D i j:Nat):lC f D i (j + 1)=lC f D i j + f i j:=by
 unfold lC
 rw [List.range_succ,List.map_append,List.sum_append]
 simp
 lia
theorem yO (f:Nat→Nat→Int) (D i:Nat):lC f D (i + 1) 0=lC f D i D:=by
 unfold lC
 rw [yN,List.map_append,List.sum_append,List.map_map]
 show _ + ((List.range D).map fun d=>f i d).sum + 0=_
 lia
theorem yP (pns kvs:List (List Key×V)) (own:Nat→List Int) (n D:Nat):lC (mxC pns kvs own) D n 0=d8 pns kvs own n D:=by
 unfold lC d8
 show _ + 0=_
 lia
theorem yQ {pns kvs:List (List Key×V)} {own own':Nat→List Int} {n D:Nat} (h:∀i,i < n→own i=own' i):d8 pns kvs own n D=d8 pns kvs own' n D:=by
 refine mU fun c hc=>?_
 unfold mxC
 rw [h _ (mem_cls.mp hc).1]
noncomputable def JK (H:Hp) (v:V) (p:Int×Int):Prop:=∃a,v=.ref a∧H a=some (.tup [.int p.1,.int p.2])
noncomputable abbrev Dues (H:Hp):List V→List (Int×Int)→Prop:=Paired (JK H)
theorem Dues.tmono {H H':Hp} (g:gr H H') {us:List V} {ts:List (Int×Int)} (h:Dues H us ts):Dues H' us ts:=Paired.mapP h fun _ _ ⟨a,e,q⟩=>⟨a,e,g _ _ q⟩
theorem yR {α:Type} {xs:List α} {f:α→Bool} {i:Nat} {x:α} (h:xs[i]? = some x) (hx:f x=false):xs.all f=false:=by
 rw [List.all_eq_false]
 exact⟨x,List.mem_of_getElem? h,by rw [hx];decide⟩
structure TolI (H:Hp) (L:Addr) (lls:List (List Lin)) (i:Nat) (H':Hp):Prop where
 ex:∃us:List V,Same H H'∧H' L=some (.lst us)∧Paired (fun v ls=>∃t ul,v=V.ref t∧t≠L∧H' t=some (.lst ul)∧Paired (Cz L H H') ul ls) us (lls.take i)
theorem TolI.start {H:Hp} {L:Addr} {lls:List (List Lin)} (hL:H L=none):TolI H L lls 0 (upd H L (.lst [])):=⟨[],same_new hL _,aj,by rw [List.take_zero];exact .nil⟩
theorem TolI.same {H H':Hp} {L:Addr} {lls:List (List Lin)} {i:Nat} (h:TolI H L lls i H'):Same H H':=by
 obtain⟨_,g,_⟩:=h.ex
 exact g
theorem TolI.step {H H' H2:Hp} {L r:Addr} {lls:List (List Lin)} {i:Nat} {ls:List Lin} {ul:List V} (h:TolI H L lls i H') (hL:H L=none) (hi:i≤900) (hl:lls[i]? = some ls) (g2:Same H' H2) (hr:H' r=none) (er:H2 r=some (.lst ul)) (hu:mJ H' H2 ul ls) :
  ∃xs,H2 L=some (.lst xs)∧xs.length < sizeLine∧TolI H L lls (i + 1) (upd H2 L (.lst (xs ++ [.ref r]))):=by
 obtain⟨us,g,e,hT⟩:=h.ex
 have hul:=Paired.length hT
 rw [List.length_take] at hul
 have eL:=g2 _ _ e
 have tu:=bK (o:=.lst (us ++ [.ref r])) eL
 refine⟨us,eL,aW (by lia),us ++ [.ref r],aY hL (g.trans g2) _,aj,?_⟩
 rw [bh hl]
 refine bz (Paired.mapP hT fun _ _ ⟨t,ul,e,n,q,z⟩=>⟨t,ul,e,n,by rw [aG n];exact g2 _ _ q,Paired.mapP z fun _ _ ⟨t',l',ts',e',q',r',z',n',f'⟩=>⟨t',l',ts',e',tu _ _ (g2 _ _ q'),by rw [aG n'];exact g2 _ _ r',(z'.mono (aF g2)).mono tu,n',f'⟩⟩) ?_
 refine⟨r,ul,rfl,(aH e hr).symm,by rw [aG (aH e hr).symm];exact er,Paired.mapP hu fun _ _ ⟨t',l',ts',e',q',r',z',f'⟩=>?_⟩
 have n':l'≠L:=(aH e f').symm
 exact⟨t',l',ts',e',tu _ _ q',by rw [aG n'];exact r',z'.mono tu,n',g.free f'⟩
theorem TolI.done {H H':Hp} {L:Addr} {lls:List (List Lin)} (h:TolI H L lls lls.length H'):∃us:List V,Same H H'∧H' L=some (.lst us)∧Told H' us lls:=by
 obtain⟨us,g,e,hT⟩:=h.ex
 rw [List.take_length] at hT
 exact⟨us,g,e,Paired.mapP hT fun _ _ ⟨t,ul,e,_,q,z⟩=>⟨t,ul,e,q,Paired.mapP z fun _ _ ⟨t',l',ts',e',q',r',z',_,_⟩=>⟨t',l',ts',e',q',r',z'⟩⟩⟩
end My
namespace My
open PySem L2
noncomputable def Im (f:Nat→Nat→Int) (D i:Nat):Int:=lC f D i 0
theorem yS {hs:List Int} {ps:List Pst} {h:Nat} (hh:h < hs.length):((hs.map fun x=>ch x ps)[h]?.getD [])=ch (hs[h]?.getD 0) ps:=by
 rw [List.getElem?_map,List.getElem?_eq_getElem hh]
 rfl
theorem Bh {sums:List (List Lin)} {us:List Tri} {pns:List (List Key×V)} {own own':Nat→List Int} {n D:Nat} (h:∀i,i < n→own i=own' i):ju sums us pns own n D=ju sums us pns own' n D:=by
 unfold ju
 rw [yQ h]
end My
namespace L2
open PySem PySem.Spec PyProof.Rows
noncomputable def JL (K:PySem.W.Frag):R2:=fun x y H Q=>∃b,y=.ref b∧SqL K H b []∧((x=.non∧Q (.bl false) H)∨∃a xs,x=.ref a∧SqL K H a xs∧Q (.bl (decide (xs=[]))) H)
theorem jx {X:Cx} {k:Nat} (hr:Room k X.A):OpR X (compareOp .Eq) (JL X.K):=by
 intro pins s σ H x y v u Q I rx ry h
 obtain⟨b,rfl,hb,h⟩:=h
 cases ry
 have hu:=hr.units
 obtain⟨its',ri',pl',_⟩:=I.list hb
 rcases h with ⟨rfl,q⟩ | ⟨a,xs,rfl,ha,q⟩
 ·cases rx
  exact SeqAt.RcAt.none_list pl'.isList (by lia) _ _ _ _ ⟨.bl _,H,I,rfl,q⟩
 ·cases rx
  by_cases z:xs=[]
  ·subst z
   rw [decide_eq_true rfl] at q
   have h1:=(jX I (n:=0) (A:=X.A) (ds:=[]) (es:=[]) ⟨[],ha,.nil⟩ ⟨[],hb,.nil⟩ (fun _ i d e h=>by simp at h) (by lia)).1
   rw [gj] at h1
   exact h1 _ _ _ _ ⟨.bl _,H,I,rfl,q⟩
  ·rw [decide_eq_false z] at q
   obtain⟨its,ri,pl,_⟩:=I.list ha
   have l1:=ri.length
   have l2:=ri'.length
   have l3:0 < xs.length:=List.length_pos_iff.mpr z
   have l4:its'.length=0:=l2.symm
   exact SeqAt.RcAt.lists_lengths pl.isList pl'.isList (by simp only [List.size_toArray,bne_iff_ne,ne_eq];lia) (by lia) _ _ _ _ ⟨.bl _,H,I,rfl,q⟩
end L2
namespace L2
open PySem PySem.Spec PyProof.Rows
theorem uZ {P P':Program} {w w':World} {ks:List Key} {vs:List Value} (h:PySem.ItemsAre (bD P w) ks vs):PySem.ItemsAre (bD P' w') ks vs:=by
 induction h with
 | nil=>exact .nil
 | cons a _ ih=>exact .cons a ih
theorem qC {P P':Program} {w w':World} {h:Heap} {a:Addr} {xs:List (List Key×Addr×Value)} (d:h.DictOfH (tupleKind (bD P w)) a xs) (hk:∀x∈xs,∃ns,x.1=kN ns):h.DictOfH (tupleKind (bD P' w')) a xs:=by
 obtain⟨o,es,ep,g1,g2,g3,g4,g5,g6⟩:=d
 refine⟨o,es,ep,g1,g2,g3,?_,fun x hx=>?_,g6⟩
 case refine_2 =>
  obtain⟨o',items,n,q1,q2,q3,q4⟩:IsTupleKey (bD P w) h x.1 x.2.1:=g5 x hx
  exact (show IsTupleKey (bD P' w') h x.1 x.2.1 from ⟨o',items,n,q1,q2,q3,uZ q4⟩)
 rw [g4]
 refine List.map_congr_left fun x hx=>?_
 obtain⟨ns,e⟩:=hk x hx
 have h1:tupleKeyHash (bD P w) x.1=tupleKeyHash (bD P' w') x.1:=by rw [e,jM,jM]
 show DictEntry.mk (tupleKeyHash (bD P w) x.1) _ _=DictEntry.mk (tupleKeyHash (bD P' w') x.1) _ _
 rw [h1]
theorem KT.keyN {H:Hp}:∀ {kvs:List (List Key×V)} {xs:List (List Key×Addr×Value)},KT H kvs xs→(∀kv∈kvs,∃ns,kv.1=kN ns)→∀x∈xs,∃ns,x.1=kN ns
 | _,_,.nil,_=>fun _ hx=>by cases hx
 | _,_,.cons (a:=kv) (b:=x0) h1 r1,hi=>fun x hx=>by
  rcases List.mem_cons.mp hx with rfl | hx
  ·obtain⟨ns,e⟩:=hi kv (List.mem_cons_self ..)
   exact⟨ns,by rw [← h1.1,e]⟩
  ·exact KT.keyN r1 (fun kv' h'=>hi kv' (List.mem_cons_of_mem _ h')) x hx
noncomputable def Plain (kvs:List (List Key×V)):Prop:=∀kv∈kvs,(∃ns,kv.1=kN ns)∧∃i,kv.2=.int i
noncomputable def Io (H:Hp) (v:V) (kvs:List (List Key×V)):Prop:=∃d,v=.ref d∧H d=some (.dT kvs)∧Plain kvs
noncomputable abbrev Dcts (H:Hp):List V→List (List (List Key×V))→Prop:=Paired (Io H)
section
variable {X:Cx} {pins:List (Addr×Obj)} {σ:St} {H:Hp} {s:Shared}
theorem Ei (I:Inv X pins σ H s) {A:Around} {a b:Addr} {kvs:List (List Key×V)} (ea:H a=some (.dT kvs)) (eb:H b=some (.dT kvs)) (hi:Plain kvs) (hu:A.units + 1 < cLine):SeqAt.EqAt A s (.ref a) (.ref b) true:=by
 by_cases hab:a=b
 ·subst hab
  exact SeqAt.EqAt.same _
 ·refine SeqAt.EqAt.of_refs hab fun prog w E Q hq=>?_
  obtain⟨_,hd1,xs,rel1,dd1⟩:=tK I.hok ea
  obtain⟨_,hd2,ys,rel2,dd2⟩:=tK I.hok eb
  have l1:kvs.length=xs.length:=Paired.length rel1
  have l2:kvs.length=ys.length:=Paired.length rel2
  have k1:=qC (P':=prog) (w':=w) dd1 (KT.keyN rel1 fun kv h=>(hi kv h).1)
  have k2:=qC (P':=prog) (w':=w) dd2 (KT.keyN rel2 fun kv h=>(hi kv h).1)
  exact Ax hd1 hd2 (show A.units + 1 < cLine from hu) k1 k2 (by omega) (by omega) (KT.alike rel1 rel2 fun kv h=>(hi kv h).2) hq
theorem qD (I:Inv X pins σ H s) {A:Around} {a b:Addr} {xs ys:List V} {kss:List (List (List Key×V))} (ha:SqL X.K H a xs) (hb:SqL X.K H b ys) (da:Dcts H xs kss) (db:Dcts H ys kss) (hu:A.units + 2 < cLine) :
  SeqAt.RcAt A s (.ref a) (.ref b) true∧SeqAt.RcNeAt A s (.ref a) (.ref b) false:=by
 obtain⟨its,ri,pl,_⟩:=I.list ha
 obtain⟨its',ri',pl',_⟩:=I.list hb
 have l1:=ri.length
 have l2:=ri'.length
 have l3:xs.length=kss.length:=Paired.length da
 have l4:ys.length=kss.length:=Paired.length db
 have hsz:its.toArray.size=its'.toArray.size:=by rw [List.size_toArray,List.size_toArray];omega
 have go:∀j (h1':j < its.toArray.size) (h2':j < its'.toArray.size),SeqAt.EqAt A.in1 s its.toArray[j] its'.toArray[j] ((fun _=>true) j):=fun j h1' h2'=>by
  rw [List.size_toArray] at h1' h2'
  have hj1:xs[j]? = some xs[j]:=List.getElem?_eq_getElem (by omega)
  have hj2:ys[j]? = some ys[j]:=List.getElem?_eq_getElem (by omega)
  obtain⟨kv,hd,c,e1,e2,e3⟩:=Paired.get' da hj1
  obtain⟨kv',he,c',f1,f2,f3⟩:=Paired.get' db hj2
  rw [hd] at he
  cases he
  obtain⟨u',hu',ru'⟩:=ri.get hj1
  obtain⟨v',hv',rv'⟩:=ri'.get hj2
  have eu:its.toArray[j]=u':=by
   have:its[j]? = some its[j]:=List.getElem?_eq_getElem h1'
   rw [this] at hu'; simpa using Option.some.inj hu'
  have ev:its'.toArray[j]=v':=by
   have:its'[j]? = some its'[j]:=List.getElem?_eq_getElem h2'
   rw [this] at hv'; simpa using Option.some.inj hv'
  rw [e1] at ru'
  rw [f1] at rv'
  cases ru'
  cases rv'
  rw [eu,ev]
  exact Ei I e2 f2 e3 (show A.units + 1 + 1 < cLine by omega)
 have r1:=SeqAt.RcAt.lists (e:=fun _=>true) pl.isList pl'.isList hsz (by omega:A.units < cLine) go
 have r2:=SeqAt.RcNeAt.lists (e:=fun _=>true) pl.isList pl'.isList hsz (by omega:A.units < cLine) go
 have e0:((List.range its.toArray.size).all fun _=>true)=true:=by rw [List.all_eq_true];intros;rfl
 rw [e0] at r1 r2
 exact⟨r1,r2⟩
end
noncomputable def JM (K:PySem.W.Frag):R2:=fun x y H Q=>Q (.bl true) H∧((x=.non∧y=.non)∨∃a b xs ys kss,x=.ref a∧y=.ref b∧SqL K H a xs∧SqL K H b ys∧Dcts H xs kss∧Dcts H ys kss)
noncomputable def JN (K:PySem.W.Frag):R2:=fun x y H Q=>∃a b xs ys kss,x=.ref a∧y=.ref b∧SqL K H a xs∧SqL K H b ys∧Dcts H xs kss∧Dcts H ys kss∧Q (.bl false) H
theorem Ej {X:Cx} {k:Nat} (hr:Room k X.A):OpR X (compareOp .Eq) (JM X.K):=by
 intro pins s σ H x y v u Q I rx ry h
 obtain⟨q,h⟩:=h
 have hu:=hr.units
 rcases h with ⟨rfl,rfl⟩ | ⟨a,b,xs,ys,kss,rfl,rfl,ha,hb,da,db⟩
 ·cases rx
  cases ry
  exact SeqAt.RcAt.none_none _ _ _ _ ⟨.bl _,H,I,rfl,q⟩
 ·cases rx
  cases ry
  exact (qD I (A:=X.A) ha hb da db (by omega)).1 _ _ _ _ ⟨.bl _,H,I,rfl,q⟩
theorem Ek {X:Cx} {k:Nat} (hr:Room k X.A):OpR X (compareOp .NotEq) (JN X.K):=by
 intro pins s σ H x y v u Q I rx ry h
 obtain⟨a,b,xs,ys,kss,rfl,rfl,ha,hb,da,db,q⟩:=h
 have hu:=hr.units
 cases rx
 cases ry
 exact (qD I (A:=X.A) ha hb da db (by omega)).2 _ _ _ _ ⟨.bl _,H,I,rfl,q⟩
noncomputable def JP (K:PySem.W.Frag):R2:=fun x y H Q=>∃a b xs,x=.ref a∧y=.ref b∧SqL K H a xs∧SqL K H b []∧Q (.bl (!decide (xs=[]))) H
theorem yU {X:Cx} {k:Nat} (hr:Room k X.A):OpR X (compareOp .NotEq) (JP X.K):=by
 intro pins s σ H x y v u Q I rx ry h
 obtain⟨a,b,xs,rfl,rfl,ha,hb,q⟩:=h
 cases rx
 cases ry
 have hu:=hr.units
 obtain⟨its',ri',pl',_⟩:=I.list hb
 by_cases z:xs=[]
 ·subst z
  rw [decide_eq_true rfl] at q
  have h1:=(jX I (n:=0) (A:=X.A) (ds:=[]) (es:=[]) ⟨[],ha,.nil⟩ ⟨[],hb,.nil⟩ (fun _ i d e h=>by simp at h) (by lia)).2
  rw [gj] at h1
  exact h1 _ _ _ _ ⟨.bl _,H,I,rfl,q⟩
 ·rw [decide_eq_false z] at q
  obtain⟨its,ri,pl,_⟩:=I.list ha
  have l1:=ri.length
  have l2:=ri'.length
  have l3:0 < xs.length:=List.length_pos_iff.mpr z
  have l4:its'.length=0:=l2.symm
  exact SeqAt.RcNeAt.lists_lengths pl.isList pl'.isList (by simp only [List.size_toArray,bne_iff_ne,ne_eq];lia) (by lia) _ _ _ _ ⟨.bl _,H,I,rfl,q⟩
noncomputable def JQ (K:PySem.W.Frag):R2:=fun x y H Q=>∃a b xs,x=.ref a∧y=.ref b∧SqL K H a xs∧SqL K H b xs∧(∀v∈xs,∃c,v=.ref c)∧Q (.bl false) H
theorem El {X:Cx} {k:Nat} (hr:Room k X.A):OpR X (compareOp .NotEq) (JQ X.K):=by
 intro pins s σ H x y v u Q I rx ry h
 obtain⟨a,b,xs,rfl,rfl,ha,hb,hx,q⟩:=h
 cases rx
 cases ry
 have hu:=hr.units
 obtain⟨its,ri,pl,_⟩:=I.list ha
 obtain⟨its',ri',pl',_⟩:=I.list hb
 have l1:=ri.length
 have l2:=ri'.length
 have hsz:its.toArray.size=its'.toArray.size:=by rw [List.size_toArray,List.size_toArray];omega
 have go:∀j (h1':j < its.toArray.size) (h2':j < its'.toArray.size),SeqAt.EqAt X.A.in1 s its.toArray[j] its'.toArray[j] ((fun _=>true) j):=fun j h1' h2'=>by
  rw [List.size_toArray] at h1' h2'
  have hj1:xs[j]? = some xs[j]:=List.getElem?_eq_getElem (by omega)
  obtain⟨c,ec⟩:=hx xs[j] (List.getElem_mem _)
  obtain⟨u',hu',ru'⟩:=ri.get hj1
  obtain⟨v',hv',rv'⟩:=ri'.get hj1
  have eu:its.toArray[j]=u':=by
   have:its[j]? = some its[j]:=List.getElem?_eq_getElem h1'
   rw [this] at hu'; simpa using Option.some.inj hu'
  have ev:its'.toArray[j]=v':=by
   have:its'[j]? = some its'[j]:=List.getElem?_eq_getElem h2'
   rw [this] at hv'; simpa using Option.some.inj hv'
  rw [ec] at ru' rv'
  cases ru'
  cases rv'
  rw [eu,ev]
  exact SeqAt.EqAt.same _
 have r2:=SeqAt.RcNeAt.lists (e:=fun _=>true) pl.isList pl'.isList hsz (by omega:X.A.units < cLine) go
 have e0:((List.range its.toArray.size).all fun _=>true)=true:=by rw [List.all_eq_true];intros;rfl
 rw [e0] at r2
 exact r2 _ _ _ _ ⟨.bl _,H,I,rfl,q⟩
end L2
namespace L2
open PySem PySem.Spec PyProof.Rows
noncomputable def Itv (K:PySem.W.Frag) (a:Addr) (n:Nat):It :=
 ⟨fun i H=>∃xs x,SqL K H a xs∧xs.length=n∧i < n∧xs[n - 1 - i]? = some x,fun i H x H'=>H'=H∧∀xs,SqL K H a xs→xs[n - 1 - i]? = some x,fun i _=>n≤i⟩
theorem yV {P:Program} {w:World} {K:PySem.W.Frag} {tg:Expr} (a it:Addr) (n:Nat):Turn P w K tg (Itv K a n) [it] it (fun i h=>i≤n∧h.IsRevIter it a ((n:Int) - 1 - (i:Int))) where
 mem:=by simp
 obj:=fun i h st b hb=>by
  have e:b=it:=by simpa using hb
  subst e
  obtain⟨_,o,e,c,d⟩:=st
  exact⟨o,e,fun v z=>by rw [d] at z;cases z⟩
 keep:=fun i h h' st k=>⟨st.1,st.2.at fun o e=>k it (by simp) o e⟩
 item:=by
  intro X hP hw hK hc i pins s σ H E I hf st hg
  subst hP hw hK
  obtain⟨xs,x,hq,hn,hi,hx⟩:=hg
  obtain⟨its,rv,p,hz⟩:=I.list hq
  obtain⟨u,hu,ru⟩:=rv.get hx
  obtain⟨f0,f1,f2,f3,f4,f5⟩:=hf it (by simp)
  have e1:(n:Int) - 1 - (i:Int)=((n - 1 - i:Nat):Int):=by omega
  have st1:=st.2
  rw [e1] at st1
  refine wpAny_pyNext_rev_item st1 p.isList (x:=u) (by simpa using hu) fun h' st' sb=>?_
  have I1:Inv X pins σ H { s with heap:=h' }:=I.turned (t':=s.toks) (fun b o hb e=>(sb.2 b hb).trans e) f0 f1 f3 f4 f5
  have e2:((n - 1 - i:Nat):Int) - 1=(n:Int) - 1 - ((i + 1:Nat):Int):=by lia
  rw [e2] at st'
  obtain⟨o,e,c,d⟩:=id st'
  exact⟨u,rfl,o4 (s:={ s with heap:=h' }) e c d (by decide) ⟨x,H,I1,ru,⟨rfl,fun ys hy=>by rw [I.list_inj hy hq];exact hx⟩,⟨hi,st'⟩,fun b hb=>(hf b hb).1⟩⟩
 done:=by
  intro X hP hw hK hc i pins s σ H E I hf st hg
  subst hP hw hK
  obtain⟨f0,f1,f2,f3,f4,f5⟩:=hf it (by simp)
  have hg:n≤i:=hg
  have e1:(n:Int) - 1 - (i:Int) = -1:=by have:=st.1;lia
  have st1:=st.2
  rw [e1] at st1
  exact wpAny_pyNext_rev_end (I.ok.hd hc) st1 fun h' eb=>⟨rfl,I.turned (t':=s.toks) (fun b o hb e=>eb b o hb e) f0 f1 f3 f4 f5⟩
 self:=fun _ _ _ _ _ st h=>wpAny_pyIter_revIter st.2 h
theorem qF {K:PySem.W.Frag} {a:Addr} {xs:List V} {σ:St} {H:Hp} {DN:St→Hp→Prop} {B:(St→Hp→Prop)→V→St→Hp→Prop} (Pv:Nat→St→Hp→Prop) (h0:Pv 0 σ H)
  (hl:∀i σ H,i≤xs.length→Pv i σ H→SqL K H a xs)
  (hs:∀i x σ H,xs.reverse[i]? = some x→Pv i σ H→B (Pv (i + 1)) x σ H) (hd:∀σ H,Pv xs.length σ H→DN σ H) :
  ∃W:Nat→Nat→St→Hp→Prop,(∃m,W 0 m σ H)∧∀i m σ H,W i m σ H →
   ((Itv K a xs.length).stop i H∧DN σ H)∨((Itv K a xs.length).go i H∧∃N:St→Hp→Prop,(∀σ' H',N σ' H'→∃m',m' < m∧W (i + 1) m' σ' H')∧∀x H',(Itv K a xs.length).yld i H x H'→B N x σ H'):=by
 refine⟨fun i m σ H=>m=xs.length - i∧i≤xs.length∧Pv i σ H,⟨xs.length,by simp,Nat.zero_le _,h0⟩,?_⟩
 rintro i m σ H ⟨rfl,hi,p⟩
 have q1:=hl i σ H hi p
 by_cases hlt:i < xs.length
 ·have hlt2:xs.length - 1 - i < xs.length:=by omega
  refine .inr ⟨⟨xs,xs[xs.length - 1 - i],q1,rfl,hlt,List.getElem?_eq_getElem hlt2⟩,Pv (i + 1),fun σ' H' p'=>⟨xs.length - (i + 1),by omega,rfl,hlt,p'⟩,fun x H' y=>?_⟩
  obtain⟨e,hx⟩:=y
  subst e
  exact hs i x σ _ (by rw [List.getElem?_reverse hlt];exact hx xs q1) p
 ·have e:i=xs.length:=by lia
  subst e
  exact .inl ⟨Nat.le_refl _,hd σ H p⟩
noncomputable def Ip (K:PySem.W.Frag) (te:TE):TI:=fun σ H R=>te σ H fun x H1=>∃a xs,x=.ref a∧SqL K H1 a xs∧R (Itv K a xs.length) H1
theorem yW {X:Cx} {tg e:Expr} {te:TE} {p pos:Pos} (hg:Gl X "reversed") (hm:X.mg "reversed" = none) (he:PE X e te) (hs:starEach [e] X.env=[(false,eval e X.env)]:=by rfl) :
  PI X tg (.Call (.Name "reversed" p) [e] [] pos) (Ip X.K te):=by
 intro pins s σ H R I h
 refine Call_ (ir I hg hm boot_reversed (PyProof.Rows.callWith_type1 ?_ hs rfl))
 rw [hs]
 refine Calls.spliced_cons (thn (he pins s σ H _ I h) fun v s1 ⟨x,H1,I1,rx,q1⟩=>Calls.spliced_nil ?_)
 obtain⟨a,xs,rfl,hq,q⟩:=q1
 cases rx
 obtain⟨its,rv,pl,hz⟩:=I1.list hq
 have hlen:=rv.length
 have hsz:its.toArray.size=xs.length:=by rw [List.size_toArray];lia
 refine call_reversed_list pl.isList ?_
 rw [hsz]
 refine wpAny_pyIter_revIter (l:=a) (i:=(xs.length:Int) - 1) ⟨_,Heap.get?_push_size _ rfl,rfl,rfl⟩ ?_
 refine⟨s1.heap.objs.size,[s1.heap.objs.size],_,_,H1,rfl,I1.kept (t':=s1.toks) fun b o e=>Heap.get?_push_of_some _ e,yV a _ xs.length,⟨Nat.zero_le _,⟨_,Heap.get?_push_size _ rfl,rfl,by simp [revObj]⟩⟩,fun b hb=>?_,q⟩
 have e:b=s1.heap.objs.size:=by simpa using hb
 subst e
 exact I1.fpOk (Nat.le_refl _) (I1.hok.fresh (Nat.le_refl _))
end L2
namespace My
open PySem L2
noncomputable abbrev Pns:=List (List Key×V)
inductive Stp where
 | part (h d:Int)
 | sum (us:List Tri)
 | oth (s:Str)
noncomputable def StpV (H:Hp) (v:V):Stp→Prop
 | .part h d=>∃t,v=.ref t∧H t=some (.tup [.str "part",.int h,.int d])
 | .sum us=>∃t ut uv,v=.ref t∧H t=some (.tup [.str "sum",.ref ut])∧H ut=some (.tup uv)∧Tris H uv us
 | .oth s=>∃t vs,v=.ref t∧H t=some (.tup (.str s :: vs))∧V.str s≠.str "part" ∧ V.str s≠.str "sum"
theorem StpV.tmono {H H':Hp} (g:gr H H') {v:V}:∀ {st:Stp},StpV H v st→StpV H' v st
 | .part _ _,⟨t,e,q⟩=>⟨t,e,g _ _ q⟩
 | .sum _,⟨t,ut,uv,e,q,r,z⟩=>⟨t,ut,uv,e,g _ _ q,g _ _ r,Tris.tmono g z⟩
 | .oth _,⟨t,vs,e,q,r⟩=>⟨t,vs,e,g _ _ q,r⟩
noncomputable abbrev Stps (H:Hp):List V→List Stp→Prop:=Paired (StpV H)
theorem Stps.tmono {H H':Hp} (g:gr H H') {us:List V} {sts:List Stp} (h:Stps H us sts):Stps H' us sts:=Paired.mapP h fun _ _=>StpV.tmono g
theorem StpV.rf {H:Hp} {v:V}:∀ {st:Stp},StpV H v st→∃c,v=.ref c
 | .part _ _,⟨t,e,_⟩=>⟨t,e⟩
 | .sum _,⟨t,_,_,e,_⟩=>⟨t,e⟩
 | .oth _,⟨t,_,e,_⟩=>⟨t,e⟩
theorem Stps.refs {H:Hp} {us:List V} {sts:List Stp} (h:Stps H us sts):∀v∈us,∃c,v=.ref c:=by
 induction h with
 | nil=>intro v hv;cases hv
 | cons a _ ih =>
  intro w hw
  rcases List.mem_cons.mp hw with rfl | hw
  ·exact a.rf
  ·exact ih w hw
noncomputable def isFree (n D:Nat) (pns:Pns) (h d:Int):Bool:=(decide (0≤h) && decide (h < (n:Int))) && ((decide (0≤d) && decide (d < (D:Int))) && !(bW pns (k2 h d)).isSome)
noncomputable def eF (pns:Pns) (ow:List Int) (h d:Int):List Pns:=ow.reverse.map fun v=>putK pns (k2 h d) (.int v)
structure Ctx where
 E:List Tri→Pns→Bool
 own:Nat→List Int
 n:Nat
 D:Nat
noncomputable def isStep (c:Ctx) (pns:Pns):Stp→Bool
 | .part h d=>isFree c.n c.D pns h d
 | .sum us=>c.E us pns
 | .oth _=>false
noncomputable def qG (c:Ctx) (pns:Pns):Stp→List Pns
 | .part h d=>eF pns (c.own h.toNat) h d
 | _=>[]
noncomputable def il (c:Ctx) (cs:List Pns) (st:Stp):Option (List Pns):=match cs.getLast? with
 | none=>none
 | some pns=>if isStep c pns st=true then some (cs.dropLast ++ qG c pns st) else none
noncomputable def cV (c:Ctx) (sts:List Stp):Option (List Pns):=sts.foldl (fun o st=>o.bind fun cs=>il c cs st) (some [[]])
theorem fQ (c:Ctx) (sts:List Stp) (st:Stp):cV c (sts ++ [st])=(cV c sts).bind fun cs=>il c cs st:=by
 unfold cV
 rw [List.foldl_append]
 rfl
theorem m7 (c:Ctx):∀sts:List Stp,sts.foldl (fun (o:Option (List Pns)) st=>o.bind fun cs=>il c cs st) none=none
 | []=>rfl
 | _ :: sts=>m7 c sts
theorem qH {c:Ctx} {sts:List Stp} {i:Nat} (h:cV c (sts.take i)=none):cV c sts=none:=by
 have e:sts=sts.take i ++ sts.drop i:=(List.take_append_drop ..).symm
 rw [e]
 unfold cV at h ⊢
 rw [List.foldl_append,h]
 exact m7 c _
theorem fU {c:Ctx} {cs:List Pns} {pns:Pns} {st:Stp}:il c (cs ++ [pns]) st=if isStep c pns st=true then some (cs ++ qG c pns st) else none:=by
 unfold il
 rw [List.getLast?_append]
 show (if isStep c pns st=true then some ((cs ++ [pns]).dropLast ++ qG c pns st) else none)=_
 rw [List.dropLast_concat]
noncomputable def CsOk (n D k:Nat) (cs:List Pns):Prop:=cs.length≤1 + 9 * k∧∀p∈cs,PinOk n D 0 p∧p.length≤k
theorem CsOk.init {n D:Nat}:CsOk n D 0 [[]]:=⟨by show 1≤1 + 9 * 0;decide,fun p hp=>by rw [List.mem_singleton.mp hp];exact⟨PinOk.nil,Nat.le_refl _⟩⟩
theorem oO {n D:Nat} {pns:Pns} {h d:Int} (z:isFree n D pns h d=true):0≤h∧h < (n:Int)∧0≤d∧d < (D:Int)∧bW pns (k2 h d)=none:=by
 unfold isFree at z
 simp only [Bool.and_eq_true,decide_eq_true_eq,Bool.not_eq_true'] at z
 obtain⟨⟨a,b⟩,⟨c,d⟩,e⟩:=z
 refine⟨a,b,c,d,?_⟩
 cases hv:bW pns (k2 h _) with
 | none=>rfl
 | some v=>rw [hv] at e;cases e
theorem CsOk.step {c:Ctx} {k:Nat} {cs:List Pns} {pns:Pns} {st:Stp} (o:CsOk c.n c.D k (cs ++ [pns])) (hw:∀h,h < c.n→(c.own h).length≤9) (z:isStep c pns st=true):CsOk c.n c.D (k + 1) (cs ++ qG c pns st):=by
 obtain⟨o1,o2⟩:=o
 rw [List.length_append,List.length_singleton] at o1
 have hp:=o2 pns (List.mem_append_right _ (List.mem_singleton.mpr rfl))
 have old:∀p∈cs,PinOk c.n c.D 0 p∧p.length≤k + 1:=fun p h=>⟨(o2 p (List.mem_append_left _ h)).1,Nat.le_succ_of_le (o2 p (List.mem_append_left _ h)).2⟩
 cases st with
 | part h d =>
  obtain⟨h0,h1,d0,d1,hv⟩:=oO (show isFree c.n c.D pns h d=true from z)
  have hl:=hw h.toNat (by lia)
  refine⟨?_,fun p hm=>?_⟩
  ·show (cs ++ eF pns (c.own h.toNat) h d).length≤_
   unfold eF
   rw [List.length_append,List.length_map,List.length_reverse]
   lia
  ·rcases List.mem_append.mp hm with y | y
   ·exact old p y
   ·have y:p∈eF pns (c.own h.toNat) h d:=y
    unfold eF at y
    obtain⟨v,_,rfl⟩:=List.mem_map.mp y
    have e:k2 h d=k2 ((h.toNat:Nat):Int) ((d.toNat:Nat):Int):=by rw [Int.toNat_of_nonneg h0,Int.toNat_of_nonneg d0]
    refine⟨by rw [e];exact hp.1.put (by lia) (by lia) v,?_⟩
    have:=dF pns (k2 h d) (.int v)
    have:=hp.2
    lia
 | sum us =>
  refine⟨?_,fun p hm=>?_⟩
  ·show (cs ++ []).length≤_
   rw [List.append_nil]
   lia
  ·have hm:p∈cs ++ []:=hm
   rw [List.append_nil] at hm
   exact old p hm
 | oth s =>
  have z:false=true:=z
  cases z
theorem PinOk.plain {n D P:Nat} {pns:Pns} (o:PinOk n D P pns):Plain pns:=fun kv m=>by
 refine⟨?_,ints_of o.ky o.ai kv m⟩
 obtain⟨h,d,e,_⟩:=o.inb kv m
 exact⟨[(h:Int),(d:Int)],e⟩
theorem Dcts.mono {H H':Hp} (g:Same H H') {us:List V} {cs:List Pns} (h:Dcts H us cs):Dcts H' us cs:=Paired.mapP h fun _ _ ⟨d,e,q,r⟩=>⟨d,e,g _ _ q,r⟩
theorem Dcts.off {H:Hp} {L:Addr} {xs:List V} {o:HO} (hL:H L=some (.lst xs)) {us:List V} {cs:List Pns} (h:Dcts H us cs):Dcts (upd H L o) us cs:=Paired.mapP h fun _ _ ⟨d,e,q,r⟩=>⟨d,e,by rw [aG (fun z=>by rw [z,hL] at q;cases q)];exact q,r⟩
theorem Paired.app {α β:Type} {F:α→β→Prop}:∀ {xs:List α} {ys:List β} {xs':List α} {ys':List β},Paired F xs ys→Paired F xs' ys'→Paired F (xs ++ xs') (ys ++ ys')
 | _,_,_,_,.nil,h=>h
 | _,_,_,_,.cons a r,h=>.cons a (Paired.app r h)
theorem Paired.split {α β:Type} {F:α→β→Prop}:∀ {ys:List β} {xs:List α} {y:β},Paired F xs (ys ++ [y])→∃xs' x,xs=xs' ++ [x]∧Paired F xs' ys∧F x y
 | [],_,y,h=>by
  cases h with
  | cons a r=>cases r;exact⟨[],_,rfl,.nil,a⟩
 | z :: ys,_,y,h=>by
  cases h with
  | cons a r =>
   obtain⟨xs',x,e,p,f⟩:=Paired.split r
   exact⟨_ :: xs',x,by rw [e];rfl,.cons a p,f⟩
theorem oR {α:Type} (cs:List α):cs=[]∨∃cs' p,cs=cs' ++ [p]:=by
 by_cases z:cs=[]
 ·exact .inl z
 ·exact .inr ⟨cs.dropLast,cs.getLast z,(List.dropLast_concat_getLast z).symm⟩
structure LfI (H:Hp) (L:Addr) (cs:List Pns) (H':Hp):Prop where
 ex:∃us:List V,Same H H'∧H' L=some (.lst us)∧Dcts H' us cs
theorem LfI.same {H H':Hp} {L:Addr} {cs:List Pns} (h:LfI H L cs H'):Same H H':=by
 obtain⟨_,g,_⟩:=h.ex
 exact g
theorem LfI.mono {H H' H2:Hp} {L:Addr} {cs:List Pns} (h:LfI H L cs H') (g:Same H' H2):LfI H L cs H2:=by
 obtain⟨us,g0,e,d⟩:=h.ex
 exact⟨us,g0.trans g,g _ _ e,Dcts.mono g d⟩
theorem LfI.put {H H':Hp} {L:Addr} {cs cs':List Pns} {us':List V} (h:LfI H L cs H') (hL:H L=none) (d:Dcts H' us' cs'):LfI H L cs' (upd H' L (.lst us')):=by
 obtain⟨us,g0,e,_⟩:=h.ex
 exact⟨us',aY hL g0 _,aj,Dcts.off e d⟩
theorem yX {α:Type} (xs:List α) (x:α):atI (xs ++ [x]) (-1)=some x:=by
 unfold atI ixN
 rw [if_neg (by decide),if_pos (by rw [List.length_append,List.length_singleton];lia)]
 show (xs ++ [x])[(-1 + ((xs ++ [x]).length:Int)).toNat]? = some x
 rw [List.length_append,List.length_singleton,show (-1 + ((xs.length + 1:Nat):Int)).toNat=xs.length by lia,List.getElem?_append_right (Nat.le_refl _)]
 simp
noncomputable def lN:Stp→Prop
 | .sum us=>uX us
 | _=>True
noncomputable def Em (m:Nat):Stp→Prop
 | .sum us=>∀u∈us,0≤u.1∧u.1 < (m:Int)∧0≤u.2.1
 | _=>True
noncomputable def iD (sums:List (List Lin)) (hs:List Int) (ps:List Pst) (d:Int):Ctx:=⟨fun us pns=>rQ sums us pns (fun h=>ch (hs[h]?.getD 0) ps) hs.length d.toNat,fun h=>ch (hs[h]?.getD 0) ps,hs.length,d.toNat⟩
theorem part_of {H:Hp} {v:V} {h d:Int} (s:StpV H v (.part h d)):∃t,v=.ref t∧H t=some (.tup [.str "part",.int h,.int d]):=s
theorem rW {H:Hp} {v:V} {us:List Tri} (s:StpV H v (.sum us)):∃t ut uv,v=.ref t∧H t=some (.tup [.str "sum",.ref ut])∧H ut=some (.tup uv)∧Tris H uv us:=s
theorem yZ {H:Hp} {v:V} {s:Str} (h:StpV H v (.oth s)):∃t vs,v=.ref t∧H t=some (.tup (.str s :: vs))∧V.str s≠.str "part" ∧ V.str s≠.str "sum" := h
noncomputable def za:Option (List Pns)→Bool
 | some []=>true
 | _=>false
noncomputable def jg (lls:List (List Lin)) (rows:List (List Int)) (D:Nat):Ctx:=⟨fun us pns=>ju lls us pns (fun h=>rows[h]?.getD []) rows.length D,fun h=>rows[h]?.getD [],rows.length,D⟩
end My
namespace My
open PySem L2
theorem CsOk.mono {n D k j:Nat} {cs:List Pns} (h:CsOk n D k cs) (kj:k≤j):CsOk n D j cs:=⟨by have:=h.1;lia,fun p hp=>⟨(h.2 p hp).1,Nat.le_trans (h.2 p hp).2 kj⟩⟩
theorem at0 {α:Type} (v:α) (vs:List α):atI (v :: vs) 0=some v:=by
 unfold atI ixN
 rw [if_pos (by decide),if_pos (by rw [List.length_cons];omega)]
 rfl
theorem PinOk.plain2 {n D P:Nat} {pns:Pns} (o:PinOk n D P pns) {h d:Int} (h0:0≤h) (h1:h < (n:Int)) (d0:0≤d) (d1:d < (D:Int)) (v:Int):PinOk n D P (putK pns (k2 h d) (.int v)):=by
 have e:k2 h d=k2 ((h.toNat:Nat):Int) ((d.toNat:Nat):Int):=by rw [Int.toNat_of_nonneg h0,Int.toNat_of_nonneg d0]
 rw [e]
 exact o.put (by lia) (by lia) v
theorem twoI {a b z:Int} (h0:0≤z) (h1:z < 2):∃w:Int,atI [V.int a,.int b] z=some (.int w):=by
 obtain rfl | rfl:z=0∨z=1:=by lia
 ·exact⟨_,rfl⟩
 ·exact⟨_,rfl⟩
theorem Ir {z:Int} (h0:0≤z) (h1:z < 4):∃s:Str,atI [V.str "end",.str "Sum",.str "sums",.str ""] z=some (.str s)∧V.str s≠.str "part" ∧ V.str s≠.str "sum" := by
 obtain rfl | rfl | rfl | rfl:z=0∨z=1∨z=2∨z=3:=by lia
 ·exact⟨_,rfl,k!,k!⟩
 ·exact⟨_,rfl,k!,k!⟩
 ·exact⟨_,rfl,k!,k!⟩
 ·exact⟨_,rfl,k!,k!⟩
theorem jN {H:Hp} {p p1 t:Addr} {a b c:Int} (h1:H p=none) (h2:upd H p (.tup [.int a,.int b,.int c]) p1=none) (h3:upd (upd H p (.tup [.int a,.int b,.int c])) p1 (.tup [.ref p]) t=none) :
  Same H (upd (upd (upd H p (.tup [.int a,.int b,.int c])) p1 (.tup [.ref p])) t (.tup [.str "sum",.ref p1]))∧StpV (upd (upd (upd H p (.tup [.int a,.int b,.int c])) p1 (.tup [.ref p])) t (.tup [.str "sum",.ref p1])) (.ref t) (.sum [(a,b,c)]):=by
 have g1:=same_new h1 (.tup [.int a,.int b,.int c])
 have g2:=same_new h2 (.tup [.ref p])
 have g3:=same_new h3 (.tup [.str "sum",.ref p1])
 exact⟨g1.trans (g2.trans g3),t,p1,[.ref p],rfl,aj,g3 _ _ aj,.cons ⟨p,rfl,(g2.trans g3) _ _ aj⟩ .nil⟩
theorem lD {a b c:Int} (h0:-1000≤c) (h1:c≤1000):uX [(a,b,c)]:=⟨by show 1≤6;decide,fun u hu=>by rw [List.mem_singleton.mp hu];exact⟨by show -(2 ^ 40) < c;lia,by show c < 2 ^ 40;lia⟩⟩
structure WkI (H:Hp) (pa:Addr) (c:Ctx) (i:Nat) (up:List V) (sts:List Stp) (cv:V) (H':Hp):Prop where
 g:Same H H'
 ep:H' pa=some (.lst up)
 st:Stps H' up sts
 us:∀st∈sts,lN st
 len:sts.length=i
 cv:(cV c sts=none∧cv=.non)∨∃cl us cs,cv=.ref cl∧cl≠pa∧H' cl=some (.lst us)∧Dcts H' us cs∧cV c sts=some cs∧CsOk c.n c.D i cs
theorem zb {K:PySem.W.Frag} {H:Hp} {n:Nat} {a:Addr} {us:List V} {ts:List Tri} (h:SqT K H a us) (hT:Tris H us ts):Den K H (n + 2) (.ref a) (.tup (ts.map tD3)):=by
 refine⟨_,h,?_⟩
 clear h
 induction hT with
 | nil=>exact .nil
 | cons x _ ih =>
  obtain⟨t,rfl,e⟩:=x
  exact .cons ⟨_,SqT.of e,.cons nR (.cons nR (.cons nR .nil))⟩ ih
theorem Bj (ts:List Tri):eqD (.tup (ts.map tD3)) (.tup [])=decide (ts=[]):=by
 cases ts with
 | nil=>simp [eqD]
 | cons t ts=>simp [eqD]
structure DuI (H:Hp) (L:Addr) (fr:List (Int×Int)) (H':Hp):Prop where
 ex:∃us:List V,Same H H'∧H' L=some (.lst us)∧Dues H' us fr
theorem DuI.start {H:Hp} {L:Addr} (hL:H L=none):DuI H L [] (upd H L (.lst [])):=⟨[],same_new hL _,aj,.nil⟩
theorem DuI.same {H H':Hp} {L:Addr} {fr:List (Int×Int)} (h:DuI H L fr H'):Same H H':=by
 obtain⟨_,g,_⟩:=h.ex
 exact g
theorem DuI.mono {H H' H2:Hp} {L:Addr} {fr:List (Int×Int)} (h:DuI H L fr H') (g2:Same H' H2):DuI H L fr H2:=by
 obtain⟨us,g,e,d⟩:=h.ex
 exact⟨us,g.trans g2,g2 _ _ e,d.tmono (aF g2)⟩
theorem DuI.step {H H':Hp} {L t:Addr} {fr:List (Int×Int)} {a b:Int} (h:DuI H L fr H') (hL:H L=none) (hl:fr.length≤900) (ht:H' t=none) :
  ∃xs,upd H' t (.tup [.int a,.int b]) L=some (.lst xs)∧xs.length < sizeLine∧DuI H L (fr ++ [(a,b)]) (upd (upd H' t (.tup [.int a,.int b])) L (.lst (xs ++ [.ref t]))):=by
 obtain⟨us,g,e,d⟩:=h.ex
 have hul:=Paired.length d
 have gt:=same_new ht (.tup [.int a,.int b])
 refine⟨us,gt _ _ e,aW (by lia),us ++ [.ref t],aY hL (g.trans gt) _,aj,?_⟩
 exact Dues.tmono (bK (gt _ _ e)) (bz (d.tmono (aF gt)) ⟨t,rfl,aj⟩)
noncomputable def Frs (H:Hp) (us:List V):Prop:=∀d,V.ref d∈us→H d=none
noncomputable def FrL (H:Hp) (L:Addr) (H':Hp):Prop:=∃us,H' L=some (.lst us)∧Frs H us
theorem Frs.snoc {H:Hp} {us:List V} {p:Addr} (h:Frs H us) (hp:H p=none):Frs H (us ++ [.ref p]):=fun d z=>by
 rcases List.mem_append.mp z with y | y
 ·exact h d y
 ·rw [V.ref.inj (List.mem_singleton.mp y)];exact hp
theorem Frs.app {H:Hp} {us vs:List V} (h:Frs H us) (g:Frs H vs):Frs H (us ++ vs):=fun d z=>by
 rcases List.mem_append.mp z with y | y
 ·exact h d y
 ·exact g d y
theorem Frs.back {H H':Hp} {us:List V} (h:Frs H' us) (g:Same H H'):Frs H us:=fun d z=>g.free (h d z)
end My
namespace My
open PySem L2
theorem WkI.mono {H H' H2:Hp} {pa:Addr} {c:Ctx} {i:Nat} {up:List V} {sts:List Stp} {cv:V} (w:WkI H pa c i up sts cv H') (g:Same H' H2):WkI H pa c i up sts cv H2:=by
 refine⟨w.g.trans g,g _ _ w.ep,Stps.tmono (aF g) w.st,w.us,w.len,?_⟩
 rcases w.cv with h | ⟨cl,us,cs,h1,h2,h3,h4,h5,h6⟩
 ·exact .inl h
 ·exact .inr ⟨cl,us,cs,h1,h2,g _ _ h3,Dcts.mono g h4,h5,h6⟩
theorem WkI.app {H H' H2:Hp} {pa:Addr} {c:Ctx} {i:Nat} {up:List V} {sts:List Stp} {cv v:V} {st:Stp} (w:WkI H pa c i up sts cv H') (hpa:H pa=none) (i12:i≤900) (g2:Same H' H2) (hs:StpV H2 v st) (hu:lN st) :
  H2 pa=some (.lst up)∧up.length < sizeLine∧Same H (upd H2 pa (.lst (up ++ [v])))∧upd H2 pa (.lst (up ++ [v])) pa=some (.lst (up ++ [v]))∧Stps (upd H2 pa (.lst (up ++ [v]))) (up ++ [v]) (sts ++ [st])∧(∀s∈sts ++ [st],lN s)∧(sts ++ [st]).length=i + 1:=by
 have e:=g2 _ _ w.ep
 have hl:=Paired.length w.st
 have hl2:=w.len
 refine⟨e,aW (by omega),aY hpa (w.g.trans g2) _,aj,Stps.tmono (bK e) (bz (Stps.tmono (aF g2) w.st) hs),fun s hm=>?_,by rw [List.length_append,hl2];rfl⟩
 rcases List.mem_append.mp hm with z | z
 ·exact w.us s z
 ·rw [List.mem_singleton.mp z];exact hu
theorem zc (xs:List V) (x:V):lE (xs ++ [x]) none (some (-1))=xs:=by
 unfold lE HT.sIx
 simp
 rw [show (-1 + ((xs.length:Int) + 1)).toNat=xs.length by omega]
 simp
theorem rY {c c':Ctx} (hE:∀us p,c.E us p=c'.E us p) (hn:c.n=c'.n) (hD:c.D=c'.D) (pns:Pns):∀st,isStep c pns st=isStep c' pns st
 | .part h d=>by
  show isFree c.n c.D pns h d=isFree c'.n c'.D pns h d
  rw [hn,hD]
 | .sum us=>hE us pns
 | .oth _=>rfl
theorem u5 {c c':Ctx} (hE:∀us p,c.E us p=c'.E us p) (hn:c.n=c'.n) (hD:c.D=c'.D) (ho:∀h,h < c.n→c.own h=c'.own h) (cs:List Pns) (st:Stp):il c cs st=il c' cs st:=by
 rcases oR cs with rfl | ⟨cs',pns,rfl⟩
 ·rfl
 ·rw [fU,fU,← rY hE hn hD]
  by_cases z:isStep c pns st=true
  ·rw [if_pos z,if_pos z]
   cases st with
   | part h d =>
    obtain⟨h0,h1,_⟩:=oO (show isFree c.n c.D pns h d=true from z)
    show some (cs' ++ eF pns (c.own h.toNat) h d)=some (cs' ++ eF pns (c'.own h.toNat) h d)
    rw [ho h.toNat (by omega)]
   | sum us=>rfl
   | oth s=>rfl
  ·rw [if_neg z,if_neg z]
theorem u9 {c c':Ctx} (hE:∀us p,c.E us p=c'.E us p) (hn:c.n=c'.n) (hD:c.D=c'.D) (ho:∀h,h < c.n→c.own h=c'.own h) (sts:List Stp):cV c sts=cV c' sts:=by
 unfold cV
 have e:(fun (o:Option (List Pns)) st=>o.bind fun cs=>il c cs st)=fun o st=>o.bind fun cs=>il c' cs st:=by
  funext o st
  congr 1
  funext cs
  exact u5 hE hn hD ho cs st
 rw [e]
theorem rZ {lls sums:List (List Lin)} {hs:List Int} {ps:List Pst} {D:Nat} (alk:lls.map (·.map eV)=sums.map (·.map eV)) (sts:List Stp):cV (jg lls (hs.map fun h=>ch h ps) D) sts=cV (iD sums hs ps (D:Int)) sts:=by
 have hl:(hs.map fun h=>ch h ps).length=hs.length:=List.length_map ..
 refine u9 (c:=jg lls (hs.map fun h=>ch h ps) D) (c':=iD sums hs ps (D:Int)) (fun us p=>?_) hl rfl (fun h hh=>?_) sts
 ·show ju lls us p (fun h=>(hs.map fun h=>ch h ps)[h]?.getD []) (hs.map fun h=>ch h ps).length D=rQ sums us p (fun h=>ch (hs[h]?.getD 0) ps) hs.length ((D:Int)).toNat
  rw [hl,Bh (own':=fun h=>ch (hs[h]?.getD 0) ps) (fun i hi=>yS hi),Bd alk us p (fun h=>ch (hs[h]?.getD 0) ps) hs.length D (fun h _=>Nat.succ_pos _),Int.toNat_natCast]
 ·have hh:h < (hs.map fun h=>ch h ps).length:=hh
  exact yS (by rw [hl] at hh;exact hh)
end My
namespace L2
open PySem PySem.Spec PyProof.Rows HT
section
variable {prog:Program} {w:World} {A:Around} {E:Value→Shared→Prop} {s:Shared}
theorem vd {t sl:Addr} {vs:Array Value} {a b:Value} {lo hi:Option Int} {Q:Value→Shared→Prop} (ht:IsTup s.heap t vs) (hs:s.heap.IsSliceOf sl a b .none) (pa:IsPart a lo) (pb:IsPart b hi) (h0:sIx vs.size 0 lo=0) (h1:sIx vs.size vs.size hi=vs.size) (h:Q (.ref t) s) :
  wpAny (model prog w) A (getItem (.ref t) (.ref sl)) Q E s:=by
 have ty:s.TypeIs (.ref sl) "slice" := by
  obtain⟨o,ho,hc,_⟩:=id hs
  exact⟨o,ho,hc⟩
 unfold getItem
 try with_reducible refine wpAny_holding ?_
 first | refine wpAny_bind (wpAny_pure ?_) | skip
 refine wpAny_bind (wpAny_sequenceKey ht.typeIs (by decide) (wpAny_bind (wpAny_callSpecial?_slot (name:=Str.ofString "__getitem__") ht.typeIs slot_tuple_getitem (wpAny_call_entry slot_tuple_getitem ht.typeIs entry_tuple_getitem ?_ (args_tuple_getitem _ _)))))
 show wpAny _ _ (Builtin.Tuple.tupleItemsOf (.ref t) >>= _) _ _ s
 refine wpAny_bind (tupleItemsOf_ ht (wpAny_bind (wpAny_typeOf ty ?_)))
 rw [if_pos (by decide)]
 refine wpAny_bind (fB hs pa pb ?_)
 rw [h0,h1]
 show wpAny _ _ (if (((0:Nat):Int) == 0 && (1:Int) == 1 && (vs.size - 0) == vs.size)=true then _ else _) _ _ s
 rw [if_pos (by simp)]
 unfold Builtin.Tuple.tupleIsExact
 refine wpAny_bind (wpAny_bind (wpAny_typeOf ht.typeIs (wpAny_pure ?_)))
 rw [if_pos (by decide)]
 exact wpAny_bind (wpAny_rule (wpAny_pure ⟨_,rfl,wpAny_pure h⟩))
end
section
variable {X:Cx}
noncomputable def JR (K:PySem.W.Frag):V→Option Int→Option Int→Hp→VK→Prop:=fun x lo hi H Q=>∃a xs,x=.ref a∧SqT K H a xs∧((sIx xs.length 0 lo=0∧sIx xs.length xs.length hi=xs.length∧Q (.ref a) H)∨(¬ (sIx xs.length 0 lo=0∧sIx xs.length xs.length hi=xs.length)∧∀p,H p=none→Q (.ref p) (upd H p (.tup (lE xs lo hi)))))
theorem Bk:SlR X (JR X.K):=by
 intro pins s σ H x v vl vu lo hi sl Q I rx hs pl pu h
 obtain⟨a,xs,rfl,hx,h | ⟨hw,q⟩⟩:=h
 ·obtain⟨h0,h1,q⟩:=h
  cases rx
  obtain⟨its,r,ht,hz⟩:=I.tuple hx
  have hlen:its.toArray.size=xs.length:=by rw [List.size_toArray];exact r.length.symm
  exact⟨"tuple",_,slot_tuple_getitem.lookup,ht.typeIs,vd ht hs pl pu (by rw [hlen];exact h0) (by rw [hlen];exact h1) ⟨.ref a,H,I,rfl,q⟩⟩
 ·exact Dn pins s σ H (.ref a) v vl vu lo hi sl Q I rx hs pl pu ⟨a,xs,rfl,hx,hw,q⟩
end
end L2
set_option maxHeartbeats 4000000
namespace My
open PySem L2
noncomputable def top (i:Nat):Stmt:=PySem.Challenge.pw_rotaward_k34_cases_left.main.body.getD i (.Pass ⟨0,0,0,0⟩)
noncomputable abbrev vf:Stmt:=top 2
noncomputable abbrev jy:Stmt:=top 3
noncomputable abbrev vg:Stmt:=top 4
noncomputable abbrev vh:Stmt:=top 6
noncomputable abbrev vm:Stmt:=top 7
noncomputable abbrev vo:Stmt:=top 8
noncomputable abbrev zz_:Stmt:=inClass (top 13) 0
noncomputable abbrev vp:Stmt:=inClass (top 13) 1
noncomputable abbrev vq:Stmt:=inClass (top 13) 2
noncomputable abbrev zA_:Stmt:=inClass (top 14) 0
noncomputable abbrev vy:Stmt:=inClass (top 14) 1
noncomputable abbrev vz:Stmt:=inClass (top 14) 2
noncomputable abbrev zr_:Stmt:=inClass (top 15) 0
noncomputable abbrev vA:Stmt:=inClass (top 15) 1
noncomputable abbrev zS_:Stmt:=inClass (top 15) 2
noncomputable abbrev zs_:Stmt:=inClass (top 16) 0
noncomputable abbrev vB:Stmt:=inClass (top 16) 1
noncomputable abbrev zT_:Stmt:=inClass (top 16) 2
noncomputable abbrev zt_:Stmt:=inClass (top 16) 3
noncomputable abbrev zB_:Stmt:=inClass (top 17) 0
noncomputable abbrev vC:Stmt:=inClass (top 17) 1
noncomputable abbrev vD:Stmt:=inClass (top 17) 2
noncomputable abbrev vG:Stmt:=top 18
noncomputable abbrev vH:Stmt:=top 19
noncomputable abbrev vI:Stmt:=top 20
noncomputable abbrev vJ:Stmt:=top 21
noncomputable abbrev vK:Stmt:=top 22
noncomputable abbrev vL:Stmt:=top 23
noncomputable abbrev vM:Stmt:=top 24
noncomputable abbrev vN:Stmt:=top 25
noncomputable abbrev jz:Stmt:=top 28
noncomputable abbrev vP:Stmt:=top 29
noncomputable abbrev jA:Stmt:=top 30
noncomputable abbrev vQ:Stmt:=top 31
noncomputable abbrev vR:Stmt:=top 32
noncomputable abbrev vU:Stmt:=top 33
noncomputable abbrev vV:Stmt:=top 34
noncomputable abbrev zu_:Stmt:=inClass (top 36) 0
noncomputable abbrev vW:Stmt:=inClass (top 36) 1
noncomputable abbrev zU_:Stmt:=inClass (top 36) 2
noncomputable abbrev zC_:Stmt:=top 37
noncomputable abbrev vX:Stmt:=top 38
noncomputable abbrev vY:Stmt:=top 39
noncomputable abbrev zv_:Stmt:=inClass (top 48) 0
noncomputable abbrev vZ:Stmt:=top 49
noncomputable abbrev zn_:Stmt:=inClass (top 51) 0
noncomputable abbrev zV_:Stmt:=inClass (top 51) 1
noncomputable abbrev zH_:Stmt:=inClass (top 51) 2
noncomputable abbrev zw_:Stmt:=top 52
noncomputable abbrev zD_:Stmt:=inClass (top 57) 0
noncomputable abbrev zI_:Stmt:=inClass (top 57) 1
noncomputable abbrev wj:Stmt:=inClass (top 57) 2
noncomputable abbrev zE_:Stmt:=inClass (top 57) 3
noncomputable abbrev wu:Stmt:=top 58
noncomputable abbrev ww:Stmt:=top 59
noncomputable abbrev wy:Stmt:=top 60
noncomputable abbrev wz:Stmt:=top 61
noncomputable abbrev wA:Stmt:=top 62
noncomputable abbrev wB:Stmt:=top 64
noncomputable abbrev zJ_:Stmt:=top 65
noncomputable abbrev zW_:Stmt:=top 66
noncomputable abbrev wC:Stmt:=top 67
noncomputable abbrev wD:Stmt:=top 68
noncomputable abbrev wF:Stmt:=top 69
noncomputable abbrev wG:Stmt:=top 70
noncomputable abbrev wH:Stmt:=top 71
noncomputable abbrev zX_:Stmt:=top 72
noncomputable abbrev wI:Stmt:=top 73
noncomputable abbrev zK_:Stmt:=top 74
noncomputable abbrev zY_:Stmt:=top 75
noncomputable abbrev zL_:Stmt:=top 76
noncomputable abbrev wJ:Stmt:=top 77
noncomputable abbrev wK:Stmt:=top 78
noncomputable abbrev zZ_:Stmt:=top 79
noncomputable abbrev wL:Stmt:=top 80
noncomputable abbrev wM:Stmt:=top 81
noncomputable abbrev jh:Stmt:=top 82
structure Cs where
 (a b c d e f g h i:Addr)
structure Txt (K:PySem.W.Frag) (mg:Str→Option Value) (ζ:Cs):Prop where
 all:mg "all" = none
 bool:mg "bool" = none
 dict:mg "dict" = none
 enumerate:mg "enumerate" = none
 int:mg "int" = none
 isinstance:mg "isinstance" = none
 len:mg "len" = none
 list:mg "list" = none
 max:mg "max" = none
 min:mg "min" = none
 range:mg "range" = none
 reversed:mg "reversed" = none
 str:mg "str" = none
 sum:mg "sum" = none
 tuple:mg "tuple" = none
 g_MOST_DAYS:∃tk,mg "MOST_DAYS" = some (.int 31 tk)
 g_MOST_HANDS:∃tk,mg "MOST_HANDS" = some (.int 8 tk)
 g_MOST_MANY:∃tk,mg "MOST_MANY" = some (.int 99 tk)
 g_MOST_POSTS:∃tk,mg "MOST_POSTS" = some (.int 6 tk)
 g_MOST_RULES:∃tk,mg "MOST_RULES" = some (.int 120 tk)
 cl_Ward:Cls K ζ.a
 n_Ward_days:NoAttr K ζ.a "days"
 n_Ward_hands:NoAttr K ζ.a "hands"
 n_Ward_posts:NoAttr K ζ.a "posts"
 cl_Terms:Cls K ζ.b
 n_Terms_ward:NoAttr K ζ.b "ward"
 n_Terms_rules:NoAttr K ζ.b "rules"
 n_Terms_sums:NoAttr K ζ.b "sums"
 cl_Want:Cls K ζ.c
 n_Want_day:NoAttr K ζ.c "day"
 n_Want_post:NoAttr K ζ.c "post"
 n_Want_many:NoAttr K ζ.c "many"
 cl_Most:Cls K ζ.d
 n_Most_hand:NoAttr K ζ.d "hand"
 n_Most_days:NoAttr K ζ.d "days"
 n_Most_many:NoAttr K ζ.d "many"
 cl_Least:Cls K ζ.e
 n_Least_hand:NoAttr K ζ.e "hand"
 n_Least_days:NoAttr K ζ.e "days"
 n_Least_many:NoAttr K ζ.e "many"
 cl_Hours:Cls K ζ.f
 n_Hours_hand:NoAttr K ζ.f "hand"
 n_Hours_least:NoAttr K ζ.f "least"
 n_Hours_most:NoAttr K ζ.f "most"
 cl_Away:Cls K ζ.g
 n_Away_hand:NoAttr K ζ.g "hand"
 n_Away_days:NoAttr K ζ.g "days"
 cl_Apart:Cls K ζ.h
 n_Apart_hand:NoAttr K ζ.h "hand"
 n_Apart_other:NoAttr K ζ.h "other"
 cl_Nights:Cls K ζ.i
 n_Nights_hand:NoAttr K ζ.i "hand"
 n_Nights_many:NoAttr K ζ.i "many"
section
variable {P:Program} {w:World} {K:PySem.W.Frag} {mg:Str→Option Value} {base:Heap}
local macro_rules | `(tactic| walk_at "rd")=>`(tactic| try simp only [Df,G9,Ha,zq,Bv,Bw,tOp,tUn,Dc,tC,rI0,rI,rU,rEq,rNe,L2.start,zr,su,wY,tB,tCB,BK,Hh,Do,Dp,GR,GQ,tOr,GZ,Bu,GX,xf,Hs,BJ,Hd,zx,nu,qK,tIf,Hi,Hj,xP,Dt,iu,BV,Cx.comp,List.replicate_one,List.replicate_zero,Option.getD_some,tBM,Hq,Hv,tG,BW,Dw,Dy,Dz,Hw,Hx,HF,Ends.gone,Je,Jf,vO,Dl,xg,xj,Hg,Af,Hu,Dh,Bx,Hb,IV,Hn,Hr,Ag,tSl,sJ,BL,Ho,sV,xF,By,Hc,qR,Cx.nox,Cx.wish,List.map_cons,List.map_nil,List.length_cons,List.length_nil,Nat.reduceAdd,Nat.reduceSub,List.reduceReplicate,List.cons_append,List.nil_append,List.append_nil,List.getElem?_cons_zero,List.getElem?_cons_succ,List.set_cons_zero,List.set_cons_succ,Option.some.injEq,V.int.injEq,V.bl.injEq,V.ref.injEq,V.str.injEq,V.ty.injEq,List.cons.injEq,and_true,true_and,and_assoc,exists_eq_left,exists_eq_left',exists_eq_right,exists_eq,exists_eq',exists_and_left,exists_const,decide_eq_true_eq,Aa,Ab,Ac,BR,Bool.not_eq_true',Bool.not_eq_true,decide_eq_false_iff_not,if_true,if_false,Bool.false_eq_true,reduceIte,zM,Dr,zN,zO,zQ,xM,zR,xN,uG,zT,zU,zV,zW,zX,zY,zZ,Bool.not_true,Bool.not_false,not_true_eq_false,Bool.true_eq_false,Hl,Cd,Af,sW,Jh,BZ,xT,Ji,Hz,Jm,rIn,Jb,xY,xZ,Cg,Ci,tM,HN,HQ,Am,iDT,Cj,yE,yF,Ed,JF,JG,Ip,Iw,GP])
noncomputable def Bl (K:PySem.W.Frag) (ζ:Cs):Sp:=fun vs H Q _=>∃ (x:Addr) (d:Int) (hs:List Int) (ps:List Pst) (y:Int),vs=[.ref x,.int y]∧WardAt ζ.a H x d hs ps∧Q (.bl (decide (0≤y) && decide (y < d))) H
theorem JS:aN ["ward","day"] ["ward","day"] (aq vH):=⟨rfl,rfl,rfl,k!,rfl,k!,k!⟩
theorem JT {ζ:Cs} {f:Addr} {fd:FuncData} (F:Fun K "has_day" "has_day" vH f fd) (T:Txt K mg ζ) :bA P w K mg base CX0 1 f fd ["ward","day"] (Bl K ζ):=by
 refine F.ok JS (fun vs H Q E h=>?_) (fun cdv A outer s H vs Q E hr h=>?_)
 ·obtain⟨x,d,hs,ps,y,rfl,_⟩:=h
  rfl
 ·obtain⟨x,d,hs,ps,y,rfl,hW,q⟩:=h
  refine⟨_,(@az _ _ _ (@aK _ _ _ _ (cT dh dZ ao (pv 1) (aZ (pv 0) rfl)))),?_⟩
  obtain⟨dx,ha,pa,ts,h1,h2,h3,h4⟩:=hW.ex
  walk_at "rd"
  by_cases y0:0≤y
  ·rw [if_pos y0]
   rw [decide_eq_true y0,Bool.true_and] at q
   exact⟨_,_,_,h1,T.cl_Ward,T.n_Ward_days,_,eZ _ _ _,d,rfl,q⟩
  ·rw [if_neg y0]
   rw [decide_eq_false y0] at q
   exact q
noncomputable def En (K:PySem.W.Frag) (ζ:Cs):Sp:=fun vs H Q _=>∃ (x:Addr) (d:Int) (hs:List Int) (ps:List Pst) (y:Int),vs=[.ref x,.int y]∧WardAt ζ.a H x d hs ps∧1≤y∧y≤ps.length∧Q (.bl true) H
theorem JV:aN ["ward","post"] ["ward","post"] (aq vI):=⟨rfl,rfl,rfl,k!,rfl,k!,k!⟩
theorem JW {ζ:Cs} {f:Addr} {fd:FuncData} (F:Fun K "has_post" "has_post" vI f fd) (T:Txt K mg ζ) :bA P w K mg base CX0 1 f fd ["ward","post"] (En K ζ):=by
 refine F.ok JV (fun vs H Q E h=>?_) (fun cdv A outer s H vs Q E hr h=>?_)
 ·obtain⟨x,d,hs,ps,y,rfl,_⟩:=h
  rfl
 ·obtain⟨x,d,hs,ps,y,rfl,hW,y0,y1,q⟩:=h
  refine⟨_,(@az _ _ _ (@aK _ _ _ _ (cT dh dh ao (pv 1) (bx (bC (K:=K) rfl) (by rfl) T.len PySem.boot_len (@aa _ _ _ _ _ (aZ (pv 0) rfl) ak (by rfl)))))),?_⟩
  obtain⟨dx,ha,pa,ts,h1,h2,h3,h4⟩:=hW.ex
  have hl:=h4.len
  walk_at "rd"
  rw [if_pos y0]
  refine⟨_,_,_,h1,T.cl_Ward,T.n_Ward_posts,_,gn _ _ _,_,rfl,_,.inr (SqT.of h3),?_⟩
  rw [decide_eq_true (show y≤(ts.length:Int) by omega)]
  exact q
noncomputable def wN (K:PySem.W.Frag) (ζ:Cs):Sp:=fun vs H Q _=>∃m:Int,vs=[.int m]∧Q (.bl (isM m)) H
theorem JX:aN ["many"] ["many"] (aq vJ):=⟨rfl,rfl,rfl,k!,rfl,k!,k!⟩
theorem JZ {ζ:Cs} {f:Addr} {fd:FuncData} (F:Fun K "is_many" "is_many" vJ f fd) (T:Txt K mg ζ) :bA P w K mg base CX0 1 f fd ["many"] (wN K ζ):=by
 refine F.ok JX (fun vs H Q E h=>?_) (fun cdv A outer s H vs Q E hr h=>?_)
 ·obtain⟨m,rfl,_⟩:=h
  rfl
 ·obtain⟨m,rfl,q⟩:=h
  refine⟨_,(@az _ _ _ (@aK _ _ _ _ (cT dh dh ao (pv 0) (gm rfl T.g_MOST_MANY)))),?_⟩
  walk_at "rd"
  unfold isM at q
  by_cases e:0≤m
  ·rw [if_pos e]
   rw [decide_eq_true e,Bool.true_and] at q
   exact q
  ·rw [if_neg e]
   rw [decide_eq_false e,Bool.false_and] at q
   exact q
noncomputable def Eo (K:PySem.W.Frag) (ζ:Cs):Sp:=fun vs H Q _=>∃ (x dx y:Addr) (dd p m d:Int) (hs:List Int) (ps:List Pst),vs=[.ref x,.ref y]∧H x=some (.ins ζ.c dx (wf3 dd p m))∧WardAt ζ.a H y d hs ps∧0≤dd∧dd < d∧1≤p∧p≤ps.length∧isM m=true∧Q (.bl true) H
theorem J0:aN ["self","ward"] ["self","ward"] (aq vp):=⟨rfl,rfl,rfl,k!,rfl,k!,k!⟩
theorem J1 {ζ:Cs} {f:Addr} {fd:FuncData} (F:Fun K "fits" "Want.fits" vp f fd) (T:Txt K mg ζ) (zbu_:Cal P w K mg base "has_day" ["ward","day"] 1 (Bl K ζ)) (zdl_:Cal P w K mg base "has_post" ["ward","post"] 1 (En K ζ)) (zp_:Cal P w K mg base "is_many" ["many"] 1 (wN K ζ)):bA P w K mg base CX0 2 f fd ["self","ward"] (Eo K ζ):=by
 refine F.ok J0 (fun vs H Q E h=>?_) (fun cdv A outer s H vs Q E hr h=>?_)
 ·obtain⟨x,dx,y,dd,p,m,d,hs,ps,rfl,_⟩:=h
  rfl
 ·obtain⟨x,dx,y,dd,p,m,d,hs,ps,rfl,hx,hW,a1,a2,a3,a4,a5,q⟩:=h
  refine⟨_,(@az _ _ _ (@aK _ _ _ _ (cG (aM zbu_ (hr.mono (by decide)) rfl (@aa _ _ _ _ _ (pv 1) (@aa _ _ _ _ _ (aZ (pv 0) rfl) ak (by rfl)) (by rfl))) (cG (aM zdl_ (hr.mono (by decide)) rfl (@aa _ _ _ _ _ (pv 1) (@aa _ _ _ _ _ (aZ (pv 0) rfl) ak (by rfl)) (by rfl))) (dq (aM zp_ (hr.mono (by decide)) rfl (@aa _ _ _ _ _ (aZ (pv 0) rfl) ak (by rfl)))))))),?_⟩
  walk_at "rd"
  refine⟨_,_,_,hx,T.cl_Want,T.n_Want_day,_,nZ _ _ _,y,d,hs,ps,dd,rfl,hW,_,rfl,?_⟩
  rw [show (decide (0≤dd) && decide (dd < d))=true by rw [decide_eq_true a1,decide_eq_true a2];rfl,if_pos rfl]
  refine⟨_,_,_,hx,T.cl_Want,T.n_Want_post,_,pP _ _ _,y,d,hs,ps,p,rfl,hW,a3,a4,true,rfl,?_⟩
  rw [if_pos rfl]
  refine⟨_,_,_,hx,T.cl_Want,T.n_Want_many,_,pQ _ _ _,m,rfl,?_⟩
  rw [a5]
  exact q
noncomputable def zx_ (K:PySem.W.Frag) (ζ:Cs):Sp:=fun vs H Q _=>∃ (x:Addr) (d:Int) (hs:List Int) (ps:List Pst) (h:Int),vs=[.ref x,.int h]∧WardAt ζ.a H x d hs ps∧Q (.bl (fY hs h)) H
theorem J2:aN ["ward","hand"] ["ward","hand"] (aq vG):=⟨rfl,rfl,rfl,k!,rfl,k!,k!⟩
theorem J3 {ζ:Cs} {f:Addr} {fd:FuncData} (F:Fun K "has_hand" "has_hand" vG f fd) (T:Txt K mg ζ) :bA P w K mg base CX0 1 f fd ["ward","hand"] (zx_ K ζ):=by
 refine F.ok J2 (fun vs H Q E h=>?_) (fun cdv A outer s H vs Q E hr h=>?_)
 ·obtain⟨x,d,hs,ps,h,rfl,_⟩:=h
  rfl
 ·obtain⟨x,d,hs,ps,h,rfl,hW,q⟩:=h
  refine⟨_,(@az _ _ _ (@aK _ _ _ _ (cT dh dZ ao (pv 1) (bx (bC (K:=K) rfl) (by rfl) T.len PySem.boot_len (@aa _ _ _ _ _ (aZ (pv 0) rfl) ak (by rfl)))))),?_⟩
  obtain⟨dx,ha,pa,ts,h1,h2,h3,h4⟩:=hW.ex
  walk_at "rd"
  unfold fY at q
  by_cases e:0≤h
  ·rw [if_pos e]
   refine⟨_,_,_,h1,T.cl_Ward,T.n_Ward_hands,_,iM _ _ _,_,rfl,_,.inr (SqT.of h2),?_⟩
   rw [decide_eq_true e,Bool.true_and] at q
   rw [List.length_map]
   exact q
  ·rw [if_neg e]
   rw [decide_eq_false e,Bool.false_and] at q
   exact q
noncomputable def zf (K:PySem.W.Frag) (ζ:Cs):Sp:=fun vs H Q _=>∃s:Int,vs=[.int s]∧0≤s∧s < 2147483648∧Q (.bl true) H
theorem J4:aN ["days"] ["days"] (aq vK):=⟨rfl,rfl,rfl,k!,rfl,k!,k!⟩
theorem J5 {ζ:Cs} {f:Addr} {fd:FuncData} (F:Fun K "is_days" "is_days" vK f fd) (T:Txt K mg ζ) :bA P w K mg base CX0 1 f fd ["days"] (zf K ζ):=by
 refine F.ok J4 (fun vs H Q E h=>?_) (fun cdv A outer s H vs Q E hr h=>?_)
 ·obtain⟨s,rfl,_⟩:=h
  rfl
 ·obtain⟨s,rfl,s0,s1,q⟩:=h
  refine⟨_,(@az _ _ _ (@aK _ _ _ _ (cT dh dZ ao (pv 0) (@aD _ _ _ _ _ _ _ _ fj ao ao)))),?_⟩
  walk_at "rd"
  rw [if_pos s0]
  refine⟨⟨by decide,by decide,by decide⟩,?_⟩
  rw [decide_eq_true (show s < (2:Int) ^ Int.toNat 31 by rw [show (2:Int) ^ Int.toNat 31=2147483648 by decide];exact s1)]
  exact q
noncomputable def Ep (K:PySem.W.Frag) (ζ:Cs):Sp:=fun vs H Q _=>∃ (x dx y:Addr) (h s m d:Int) (hs:List Int) (ps:List Pst),vs=[.ref x,.ref y]∧H x=some (.ins ζ.d dx (mf3 h s m))∧WardAt ζ.a H y d hs ps∧fY hs h=true∧0≤s∧s < 2147483648∧-1≤m∧m≤99∧Q (.bl true) H
theorem J6:aN ["self","ward"] ["self","ward"] (aq vy):=⟨rfl,rfl,rfl,k!,rfl,k!,k!⟩
theorem J7 {ζ:Cs} {f:Addr} {fd:FuncData} (F:Fun K "fits" "Most.fits" vy f fd) (T:Txt K mg ζ) (zb_:Cal P w K mg base "has_hand" ["ward","hand"] 1 (zx_ K ζ)) (zab_:Cal P w K mg base "is_days" ["days"] 1 (zf K ζ)) (zp_:Cal P w K mg base "is_many" ["many"] 1 (wN K ζ)):bA P w K mg base CX0 2 f fd ["self","ward"] (Ep K ζ):=by
 refine F.ok J6 (fun vs H Q E h=>?_) (fun cdv A outer s H vs Q E hr h=>?_)
 ·obtain⟨x,dx,y,h,s,m,d,hs,ps,rfl,_⟩:=h
  rfl
 ·obtain⟨x,dx,y,h,s',m,d,hs,ps,rfl,hx,hW,a1,a2,a3,m0,m1,q⟩:=h
  refine⟨_,(@az _ _ _ (@aK _ _ _ _ (cG (aM zb_ (hr.mono (by decide)) rfl (@aa _ _ _ _ _ (pv 1) (@aa _ _ _ _ _ (aZ (pv 0) rfl) ak (by rfl)) (by rfl))) (cG (aM zab_ (hr.mono (by decide)) rfl (@aa _ _ _ _ _ (aZ (pv 0) rfl) ak (by rfl))) (dq (G8 (aM zp_ (hr.mono (by decide)) rfl (@aa _ _ _ _ _ (aZ (pv 0) rfl) ak (by rfl))) (dq (cX bZ (aZ (pv 0) rfl) (@cW _ _ _ _ _ _ cz ao) (aR _))))))))),?_⟩
  walk_at "rd"
  refine⟨_,_,_,hx,T.cl_Most,T.n_Most_hand,_,fG _ _ _,y,d,hs,ps,h,rfl,hW,_,rfl,?_⟩
  rw [a1,if_pos rfl]
  refine⟨_,_,_,hx,T.cl_Most,T.n_Most_days,_,iW _ _ _,s',rfl,a2,a3,?_⟩
  refine⟨true,rfl,?_⟩
  rw [if_pos rfl]
  refine⟨_,_,_,hx,T.cl_Most,T.n_Most_many,_,gK _ _ _,m,rfl,_,rfl,?_⟩
  by_cases e:isM m=true
  ·rw [if_pos e]
   exact q
  ·rw [if_neg e]
   have em:m = -1:=by
    unfold isM at e
    by_cases e0:0≤m
    ·rw [decide_eq_true e0,decide_eq_true m1] at e
     exact absurd rfl e
    ·omega
   subst em
   exact⟨_,_,_,hx,T.cl_Most,T.n_Most_many,_,gK _ _ _,rfl,q⟩
noncomputable def Er (K:PySem.W.Frag) (ζ:Cs):Sp:=fun vs H Q _=>∃ (x dx y:Addr) (h s m d:Int) (hs:List Int) (ps:List Pst),vs=[.ref x,.ref y]∧H x=some (.ins ζ.e dx (mf3 h s m))∧WardAt ζ.a H y d hs ps∧fY hs h=true∧0≤s∧s < 2147483648∧0≤m∧m≤99∧Q (.bl true) H
theorem J8:aN ["self","ward"] ["self","ward"] (aq vA):=⟨rfl,rfl,rfl,k!,rfl,k!,k!⟩
theorem J9 {ζ:Cs} {f:Addr} {fd:FuncData} (F:Fun K "fits" "Least.fits" vA f fd) (T:Txt K mg ζ) (zb_:Cal P w K mg base "has_hand" ["ward","hand"] 1 (zx_ K ζ)) (zab_:Cal P w K mg base "is_days" ["days"] 1 (zf K ζ)) (zp_:Cal P w K mg base "is_many" ["many"] 1 (wN K ζ)):bA P w K mg base CX0 2 f fd ["self","ward"] (Er K ζ):=by
 refine F.ok J8 (fun vs H Q E h=>?_) (fun cdv A outer s H vs Q E hr h=>?_)
 ·obtain⟨x,dx,y,h,s,m,d,hs,ps,rfl,_⟩:=h
  rfl
 ·obtain⟨x,dx,y,h,s',m,d,hs,ps,rfl,hx,hW,a1,a2,a3,m0,m1,q⟩:=h
  refine⟨_,(@az _ _ _ (@aK _ _ _ _ (cG (aM zb_ (hr.mono (by decide)) rfl (@aa _ _ _ _ _ (pv 1) (@aa _ _ _ _ _ (aZ (pv 0) rfl) ak (by rfl)) (by rfl))) (cG (aM zab_ (hr.mono (by decide)) rfl (@aa _ _ _ _ _ (aZ (pv 0) rfl) ak (by rfl))) (dq (aM zp_ (hr.mono (by decide)) rfl (@aa _ _ _ _ _ (aZ (pv 0) rfl) ak (by rfl)))))))),?_⟩
  walk_at "rd"
  refine⟨_,_,_,hx,T.cl_Least,T.n_Least_hand,_,fG _ _ _,y,d,hs,ps,h,rfl,hW,_,rfl,?_⟩
  rw [a1,if_pos rfl]
  refine⟨_,_,_,hx,T.cl_Least,T.n_Least_days,_,iW _ _ _,s',rfl,a2,a3,?_⟩
  refine⟨true,rfl,?_⟩
  rw [if_pos rfl]
  refine⟨_,_,_,hx,T.cl_Least,T.n_Least_many,_,gK _ _ _,m,rfl,?_⟩
  rw [show isM m=true by unfold isM;rw [decide_eq_true m0,decide_eq_true m1];rfl]
  exact q
noncomputable def Es (K:PySem.W.Frag) (ζ:Cs):Sp:=fun vs H Q _=>∃ (x dx y:Addr) (h s d:Int) (hs:List Int) (ps:List Pst),vs=[.ref x,.ref y]∧H x=some (.ins ζ.g dx (af2 h s))∧WardAt ζ.a H y d hs ps∧fY hs h=true∧0≤s∧s < 2147483648∧Q (.bl true) H
theorem Ka:aN ["self","ward"] ["self","ward"] (aq vC):=⟨rfl,rfl,rfl,k!,rfl,k!,k!⟩
theorem Kc {ζ:Cs} {f:Addr} {fd:FuncData} (F:Fun K "fits" "Away.fits" vC f fd) (T:Txt K mg ζ) (zb_:Cal P w K mg base "has_hand" ["ward","hand"] 1 (zx_ K ζ)) (zab_:Cal P w K mg base "is_days" ["days"] 1 (zf K ζ)):bA P w K mg base CX0 2 f fd ["self","ward"] (Es K ζ):=by
 refine F.ok Ka (fun vs H Q E h=>?_) (fun cdv A outer s H vs Q E hr h=>?_)
 ·obtain⟨x,dx,y,h,s,d,hs,ps,rfl,_⟩:=h
  rfl
 ·obtain⟨x,dx,y,h,s',d,hs,ps,rfl,hx,hW,a1,a2,a3,q⟩:=h
  refine⟨_,(@az _ _ _ (@aK _ _ _ _ (cG (aM zb_ (hr.mono (by decide)) rfl (@aa _ _ _ _ _ (pv 1) (@aa _ _ _ _ _ (aZ (pv 0) rfl) ak (by rfl)) (by rfl))) (dq (aM zab_ (hr.mono (by decide)) rfl (@aa _ _ _ _ _ (aZ (pv 0) rfl) ak (by rfl))))))),?_⟩
  walk_at "rd"
  refine⟨_,_,_,hx,T.cl_Away,T.n_Away_hand,_,j9 _ _,y,d,hs,ps,h,rfl,hW,_,rfl,?_⟩
  rw [a1,if_pos rfl]
  exact⟨_,_,_,hx,T.cl_Away,T.n_Away_days,_,pR _ _,s',rfl,a2,a3,q⟩
noncomputable def Et (K:PySem.W.Frag) (ζ:Cs):Sp:=fun vs H Q _=>∃ (x dx y:Addr) (h m d:Int) (hs:List Int) (ps:List Pst),vs=[.ref x,.ref y]∧H x=some (.ins ζ.i dx (hm h m))∧WardAt ζ.a H y d hs ps∧Q (.bl (fY hs h && isM m)) H
theorem Kd:aN ["self","ward"] ["self","ward"] (aq zV_):=⟨rfl,rfl,rfl,k!,rfl,k!,k!⟩
theorem Ke {ζ:Cs} {f:Addr} {fd:FuncData} (F:Fun K "fits" "Nights.fits" zV_ f fd) (T:Txt K mg ζ) (zb_:Cal P w K mg base "has_hand" ["ward","hand"] 1 (zx_ K ζ)) (zp_:Cal P w K mg base "is_many" ["many"] 1 (wN K ζ)):bA P w K mg base CX0 2 f fd ["self","ward"] (Et K ζ):=by
 refine F.ok Kd (fun vs H Q E h=>?_) (fun cdv A outer s H vs Q E hr h=>?_)
 ·obtain⟨x,dx,y,h,m,d,hs,ps,rfl,_⟩:=h
  rfl
 ·obtain⟨x,dx,y,h,m,d,hs,ps,rfl,hx,hW,q⟩:=h
  refine⟨_,(@az _ _ _ (@aK _ _ _ _ (cG (aM zb_ (hr.mono (by decide)) rfl (@aa _ _ _ _ _ (pv 1) (@aa _ _ _ _ _ (aZ (pv 0) rfl) ak (by rfl)) (by rfl))) (dq (aM zp_ (hr.mono (by decide)) rfl (@aa _ _ _ _ _ (aZ (pv 0) rfl) ak (by rfl))))))),?_⟩
  walk_at "rd"
  refine⟨_,_,_,hx,T.cl_Nights,T.n_Nights_hand,_,nW _ _,y,d,hs,ps,h,rfl,hW,_,rfl,?_⟩
  cases e:fY hs h
  ·rw [if_neg Bool.false_ne_true]
   rw [e] at q
   exact q
  ·rw [if_pos rfl]
   rw [e] at q
   exact⟨_,_,_,hx,T.cl_Nights,T.n_Nights_many,_,jK _ _,m,rfl,q⟩
noncomputable def Eu (K:PySem.W.Frag) (ζ:Cs):Sp:=fun vs H Q _=>∃ (x dx y:Addr) (h l m d:Int) (hs:List Int) (ps:List Pst),vs=[.ref x,.ref y]∧H x=some (.ins ζ.f dx (qf3 h l m))∧WardAt ζ.a H y d hs ps∧fY hs h=true∧0≤l∧l≤100000000000∧-1≤m∧m≤100000000000∧Q (.bl true) H
theorem Kf:aN ["self","ward"] ["self","ward"] (aq vB):=⟨rfl,rfl,rfl,k!,rfl,k!,k!⟩
theorem Kg {ζ:Cs} {f:Addr} {fd:FuncData} (F:Fun K "fits" "Hours.fits" vB f fd) (T:Txt K mg ζ) (zb_:Cal P w K mg base "has_hand" ["ward","hand"] 1 (zx_ K ζ)):bA P w K mg base CX0 2 f fd ["self","ward"] (Eu K ζ):=by
 refine F.ok Kf (fun vs H Q E h=>?_) (fun cdv A outer s H vs Q E hr h=>?_)
 ·obtain⟨x,dx,y,h,l,m,d,hs,ps,rfl,_⟩:=h
  rfl
 ·obtain⟨x,dx,y,h,l,m,d,hs,ps,rfl,hx,hW,a1,a2,a3,m0,m1,q⟩:=h
  refine⟨_,(@az _ _ _ (@aK _ _ _ _ (cG (aM zb_ (hr.mono (by decide)) rfl (@aa _ _ _ _ _ (pv 1) (@aa _ _ _ _ _ (aZ (pv 0) rfl) ak (by rfl)) (by rfl))) (cG (cT dh dh ao (aZ (pv 0) rfl) (@aD _ _ _ _ _ _ _ _ fj ao ao)) (dq (cT dh dh (@cW _ _ _ _ _ _ cz ao) (aZ (pv 0) rfl) (@aD _ _ _ _ _ _ _ _ fj ao ao))))))),?_⟩
  walk_at "rd"
  refine⟨_,_,_,hx,T.cl_Hours,T.n_Hours_hand,_,kh _ _ _,y,d,hs,ps,h,rfl,hW,_,rfl,?_⟩
  rw [a1,if_pos rfl]
  refine⟨_,_,_,hx,T.cl_Hours,T.n_Hours_least,_,mG _ _ _,l,rfl,?_⟩
  rw [if_pos a2]
  refine⟨⟨by decide,by decide,by decide⟩,l,rfl,?_⟩
  rw [show (10:Int) ^ Int.toNat 11=100000000000 by decide,if_pos a3]
  refine⟨_,_,_,hx,T.cl_Hours,T.n_Hours_most,_,pY _ _ _,m,rfl,?_⟩
  rw [if_pos m0]
  refine⟨⟨by decide,by decide,by decide⟩,m,rfl,?_⟩
  rw [decide_eq_true m1]
  exact q
noncomputable def Ew (K:PySem.W.Frag) (ζ:Cs):Sp:=fun vs H Q _=>∃ (y:Addr) (d:Int) (hs:List Int) (ps:List Pst) (h o:Int),vs=[.ref y,.int h,.int o]∧WardAt ζ.a H y d hs ps∧fY hs h=true∧fY hs o=true∧h≠o∧Q (.bl true) H
theorem Kh:aN ["ward","hand","other"] ["ward","hand","other"] (aq zC_):=⟨rfl,rfl,rfl,k!,rfl,k!,k!⟩
theorem Kl {ζ:Cs} {f:Addr} {fd:FuncData} (F:Fun K "are_two_hands" "are_two_hands" zC_ f fd) (T:Txt K mg ζ) (zb_:Cal P w K mg base "has_hand" ["ward","hand"] 1 (zx_ K ζ)):bA P w K mg base CX0 2 f fd ["ward","hand","other"] (Ew K ζ):=by
 refine F.ok Kh (fun vs H Q E h=>?_) (fun cdv A outer s H vs Q E hr h=>?_)
 ·obtain⟨y,d,hs,ps,h,o,rfl,_⟩:=h
  rfl
 ·obtain⟨y,d,hs,ps,h,o,rfl,hW,k1,k2,k3,q⟩:=h
  refine⟨_,(@az _ _ _ (@aK _ _ _ _ (cG (aM zb_ (hr.mono (by decide)) rfl (@aa _ _ _ _ _ (pv 0) (@aa _ _ _ _ _ (pv 1) ak (by rfl)) (by rfl))) (cG (aM zb_ (hr.mono (by decide)) rfl (@aa _ _ _ _ _ (pv 0) (@aa _ _ _ _ _ (pv 2) ak (by rfl)) (by rfl))) (dq (cX wX (pv 1) (pv 2) (aR _))))))),?_⟩
  walk_at "rd"
  refine⟨y,d,hs,ps,h,rfl,hW,_,rfl,?_⟩
  rw [k1,if_pos rfl]
  refine⟨y,d,hs,ps,o,rfl,hW,_,rfl,?_⟩
  rw [k2,if_pos rfl,decide_eq_false k3]
  exact q
noncomputable def Ex (K:PySem.W.Frag) (ζ:Cs):Sp:=fun vs H Q _=>∃ (x dx y:Addr) (h o d:Int) (hs:List Int) (ps:List Pst),vs=[.ref x,.ref y]∧H x=some (.ins ζ.h dx (ho h o))∧WardAt ζ.a H y d hs ps∧fY hs h=true∧fY hs o=true∧h≠o∧Q (.bl true) H
theorem Km:aN ["self","ward"] ["self","ward"] (aq vW):=⟨rfl,rfl,rfl,k!,rfl,k!,k!⟩
theorem Ko {ζ:Cs} {f:Addr} {fd:FuncData} (F:Fun K "fits" "Apart.fits" vW f fd) (T:Txt K mg ζ) (zbw_:Cal P w K mg base "are_two_hands" ["ward","hand","other"] 2 (Ew K ζ)):bA P w K mg base CX0 3 f fd ["self","ward"] (Ex K ζ):=by
 refine F.ok Km (fun vs H Q E h=>?_) (fun cdv A outer s H vs Q E hr h=>?_)
 ·obtain⟨x,dx,y,h,o,d,hs,ps,rfl,_⟩:=h
  rfl
 ·obtain⟨x,dx,y,h,o,d,hs,ps,rfl,hx,hW,k1,k2,k3,q⟩:=h
  refine⟨_,(@az _ _ _ (@aK _ _ _ _ (aM zbw_ (hr.mono (by decide)) rfl (@aa _ _ _ _ _ (pv 1) (@aa _ _ _ _ _ (aZ (pv 0) rfl) (@aa _ _ _ _ _ (aZ (pv 0) rfl) ak (by rfl)) (by rfl)) (by rfl))))),?_⟩
  walk_at "rd"
  exact⟨_,_,_,hx,T.cl_Apart,T.n_Apart_hand,_,nY _ _,_,_,_,hx,T.cl_Apart,T.n_Apart_other,_,pM _ _,y,d,hs,ps,h,o,rfl,hW,k1,k2,k3,q⟩
noncomputable def Ey (K:PySem.W.Frag) (ζ:Cs):Sp:=fun vs H Q _=>∃ (y a:Addr) (d:Int) (hs:List Int) (ps:List Pst) (us:List V) (ss:List Sp4),vs=[.ref y,.ref a]∧WardAt ζ.a H y d hs ps∧H a=some (.lst us)∧Ruls (clsOf ζ.c ζ.d ζ.e ζ.g ζ.i ζ.f ζ.h) ps.length H us ss∧(∀s∈ss,jr d hs.length ps.length s)∧ss.length≤120∧∀H',Same H H'→Q .non H'
theorem zcc_:aN ["ward","rules","number","rule"] ["ward","rules"] (aq vZ):=⟨rfl,rfl,rfl,k!,rfl,k!,k!⟩
theorem Kp {ζ:Cs} {f:Addr} {fd:FuncData} (F:Fun K "need_rules" "need_rules" vZ f fd) (T:Txt K mg ζ) (zcZ_:cU P w K mg base ζ.c "fits" ["self","ward"] 2 (Eo K ζ)) (zda_:cU P w K mg base ζ.d "fits" ["self","ward"] 2 (Ep K ζ)) (zcA_:cU P w K mg base ζ.e "fits" ["self","ward"] 2 (Er K ζ)) (zdb_:cU P w K mg base ζ.g "fits" ["self","ward"] 2 (Es K ζ)) (zcd_:cU P w K mg base ζ.i "fits" ["self","ward"] 2 (Et K ζ)) (zcB_:cU P w K mg base ζ.f "fits" ["self","ward"] 2 (Eu K ζ)) (zcC_:cU P w K mg base ζ.h "fits" ["self","ward"] 3 (Ex K ζ)):bA P w K mg base CX0 4 f fd ["ward","rules"] (Ey K ζ):=by
 refine F.ok zcc_ (fun vs H Q E h=>?_) (fun cdv A outer s H vs Q E hr h=>?_)
 ·obtain⟨y,a,d,hs,ps,us,ss,rfl,_⟩:=h
  rfl
 ·obtain⟨y,a,d,hs,ps,us,ss,rfl,hW,ha,hU,ok,h120,q⟩:=h
  refine⟨_,(@az _ _ _ (bN PassesOwn.never rfl (dg rfl T.enumerate (pv 1)) (cL (n:=2) rfl (aO (aB (i:=2) zcc_.nd rfl (Or.inl rfl)) (aO (aB (i:=3) zcc_.nd rfl (Or.inl rfl)) bV)))
   (@az _ _ _ (@bF _ _ _ _ _ _ _ _ (PW.pt (dR (@aQ _ _ _ _ _ _ _ _ lR (pv 2) (gm rfl T.g_MOST_RULES) (aR _)) (dN (fZ (dM (dY (bT zcZ_ (hr.mono (by decide)) (pv 3) (@aa _ _ _ _ _ (pv 0) ak (by rfl))) (dY (bT zda_ (hr.mono (by decide)) (pv 3) (@aa _ _ _ _ _ (pv 0) ak (by rfl))) (dY (bT zcA_ (hr.mono (by decide)) (pv 3) (@aa _ _ _ _ _ (pv 0) ak (by rfl))) (dY (bT zdb_ (hr.mono (by decide)) (pv 3) (@aa _ _ _ _ _ (pv 0) ak (by rfl))) (dY (bT zcd_ (hr.mono (by decide)) (pv 3) (@aa _ _ _ _ _ (pv 0) ak (by rfl))) (dY (bT zcB_ (hr.mono (by decide)) (pv 3) (@aa _ _ _ _ _ (pv 0) ak (by rfl))) (bT zcC_ (hr.mono (by decide)) (pv 3) (@aa _ _ _ _ _ (pv 0) ak (by rfl)))))))))))))) (@az _ _ _ iH) aX)))),?_⟩
  have hul:=Paired.length hU
  refine bU fun B1 b1=>?_
  walk_at "rd"
  refine⟨⟨_,SqL.of ha⟩,dD (xs:=us) (fun i σ H'=>Same H H'∧∃v2 v3,σ=[some (.ref y),some (.ref a),v2,v3]) ⟨Same.refl _,none,none,rfl⟩ (fun i σ H' _ hh=>SqL.of (hh.1 _ _ ha)) ?_ ?_⟩
  ·rintro i v σ H' tt hx ⟨g,v2,v3,rfl⟩ htt
   obtain⟨s,hsp,x,dx,rfl,qx⟩:=Paired.get' hU hx
   have okS:=ok s (List.mem_of_getElem? hsp)
   have hi:=(List.getElem?_eq_some_iff.mp hsp).1
   rw [Nat.zero_add]
   have gt:=same_new htt (.tup [.int (i:Int),.ref x])
   have et:=aj (H:=H') (a:=tt) (o:=.tup [.int (i:Int),.ref x])
   generalize upd H' tt (.tup [.int (i:Int),.ref x])=H2 at gt et ⊢
   have gg:=g.trans gt
   have qx2:=gg _ _ qx
   have hW2:=hW.mono gg
   walk_at "rd"
   refine⟨_,SqT.of et,rfl,_,_,rfl,_,_,rfl,rfl,?_⟩
   rw [b1]
   walk_at "rd"
   rw [if_neg (by lia)]
   have k6:=okS.k6
   obtain hk | hk | hk | hk | hk | hk | hk:s.k=0∨s.k=1∨s.k=2∨s.k=3∨s.k=4∨s.k=5∨s.k=6:=by lia
   ·have e:=Cp hk qx2
    obtain⟨a1,a2,a3,a4⟩:=okS.w hk
    have p1:=Int.emod_nonneg s.b (b:=(ps.length:Int)) (by have:=okS.P0;lia)
    have p2:=Int.emod_lt_of_pos s.b (b:=(ps.length:Int)) (by have:=okS.P0;lia)
    exact .inl ⟨_,_,e,yh _ _ _ k! k! k!,x,dx,y,_,_,_,d,hs,ps,rfl,e,hW2,a1,a2,by lia,by lia,yo a3 a4,true,rfl,by rw [if_neg (by decide)];exact gg⟩
   ·have e:=Cq hk qx2
    obtain⟨a1,a2⟩:=okS.h (by lia)
    obtain⟨b1,b2⟩:=okS.b (by lia)
    obtain⟨c1,c2⟩:=okS.c1 hk
    exact .inr (.inl ⟨_,_,e,oh _ _ _ k! k! k!,x,dx,y,_,_,_,d,hs,ps,rfl,e,hW2,iC a1 a2,b1,b2,c1,c2,true,rfl,by rw [if_neg (by decide)];exact gg⟩)
   ·have e:=Cr hk qx2
    obtain⟨a1,a2⟩:=okS.h (by lia)
    obtain⟨b1,b2⟩:=okS.b (by lia)
    obtain⟨c1,c2⟩:=okS.c2 hk
    exact .inr (.inr (.inl ⟨_,_,e,oh _ _ _ k! k! k!,x,dx,y,_,_,_,d,hs,ps,rfl,e,hW2,iC a1 a2,b1,b2,c1,c2,true,rfl,by rw [if_neg (by decide)];exact gg⟩))
   ·have e:=Cu hk qx2
    obtain⟨a1,a2⟩:=okS.h (by lia)
    obtain⟨b1,b2⟩:=okS.b (by lia)
    exact .inr (.inr (.inr (.inl ⟨_,_,e,yj _ _ k! k!,x,dx,y,_,_,d,hs,ps,rfl,e,hW2,iC a1 a2,b1,b2,true,rfl,by rw [if_neg (by decide)];exact gg⟩)))
   ·have e:=Cv hk qx2
    obtain⟨a1,a2⟩:=okS.h (by lia)
    obtain⟨c1,c2⟩:=okS.c4 hk
    exact .inr (.inr (.inr (.inr (.inl ⟨_,_,e,Ca _ _ k! k!,x,dx,y,_,_,d,hs,ps,rfl,e,hW2,_,rfl,by rw [iC a1 a2,yo c1 c2,if_neg (by decide)];exact gg⟩))))
   ·have e:=Cw hk qx2
    obtain⟨a1,a2⟩:=okS.h (by lia)
    obtain⟨b1,b2,c1,c2⟩:=okS.q hk
    exact .inr (.inr (.inr (.inr (.inr (.inl ⟨_,_,e,ou _ _ _ k! k! k!,x,dx,y,_,_,_,d,hs,ps,rfl,e,hW2,iC a1 a2,b1,b2,c1,c2,true,rfl,by rw [if_neg (by decide)];exact gg⟩)))))
   ·have e:=Cy hk qx2
    obtain⟨a1,a2⟩:=okS.h (by lia)
    obtain⟨b1,b2,b3⟩:=okS.o hk
    exact .inr (.inr (.inr (.inr (.inr (.inr ⟨_,_,e,Ck _ _ k! k!,x,dx,y,_,_,d,hs,ps,rfl,e,hW2,iC a1 a2,iC b1 b2,b3,true,rfl,by rw [if_neg (by decide)];exact gg⟩)))))
  rintro σ H' ⟨g,v2,v3,rfl⟩
  exact q H' g
noncomputable def Ez (K:PySem.W.Frag) (ζ:Cs):Sp:=fun vs H Q _=>∃ (x dx y:Addr) (dd p m d:Int) (hs:List Int) (ps:List Pst),vs=[.ref x,.ref y]∧H x=some (.ins ζ.c dx (wf3 dd p m))∧WardAt ζ.a H y d hs ps∧hs.length≤8 ∧
 ∀r us H',Same H H'→H r=none→H' r=some (.lst us)→Lins H' us [⟨dJ hs.length dd p,m⟩]→Q (.ref r) H'
theorem zdt_:aN ["self","ward","parts"] ["self","ward"] (aq vq):=⟨rfl,rfl,rfl,k!,rfl,k!,k!⟩
theorem Kq {ζ:Cs} {f:Addr} {fd:FuncData} (F:Fun K "lines" "Want.lines" vq f fd) (T:Txt K mg ζ) :bA P w K mg base CX0 1 f fd ["self","ward"] (Ez K ζ):=by
 refine F.ok zdt_ (fun vs H Q E h=>?_) (fun cdv A outer s H vs Q E hr h=>?_)
 ·obtain⟨x,dx,y,dd,p,m,d,hs,ps,rfl,_⟩:=h
  rfl
 ·obtain⟨x,dx,y,dd,p,m,d,hs,ps,rfl,hx,hW,hl8,q⟩:=h
  refine⟨_,(@au _ _ _ _ _ (eY (i:=2) zdt_.nd rfl rfl (own:=["hand"]) (fnames:=["self"]) (fr:=[0]) (N':=["hand","self"]) ⟨rfl,rfl,rfl,rfl,rfl,rfl,rfl⟩ rfl (bM rfl T.range (@aa _ _ _ _ _ (bx (bC (K:=K) rfl) (by rfl) T.len PySem.boot_len (@aa _ _ _ _ _ (aZ (pv 1) rfl) ak (by rfl))) ak (by rfl))) (fun s0 H0 fp0 C0=>⟨(aB (i:=0) (by show (["hand","self"]:List Str).Nodup;decide +kernel) rfl (Or.inl rfl)),cu,(@aP _ _ _ _ _ (@aa _ _ _ _ _ (pv 0) (@aa _ _ _ _ _ (gU (K:=K) rfl (pv 1) rfl) (@aa _ _ _ _ _ (gU (K:=K) rfl (pv 1) rfl) (@aa _ _ _ _ _ ao ak (by rfl)) (by rfl)) (by rfl)) (by rfl)))⟩)) (@az _ _ _ (@aK _ _ _ _ (@bw _ _ _ _ (@aa _ _ _ _ _ (@aP _ _ _ _ _ (@aa _ _ _ _ _ (bG (cQ (K:=K) rfl) (by rfl) T.tuple PyProof.Rows.boot_tuple (@aa _ _ _ _ _ (pv 2) ak (by rfl))) (@aa _ _ _ _ _ (aZ (pv 0) rfl) ak (by rfl)) (by rfl))) ak (by rfl)))))),?_⟩
  obtain⟨dy,ha,pa,ts0,h1,h2,h3,h4⟩:=hW.ex
  refine aA fun U1 u1=>?_
  walk_at "rd"
  refine⟨_,_,_,h1,T.cl_Ward,T.n_Ward_hands,_,iM _ _ _,_,rfl,_,.inr (SqT.of h2),by lia,by rw [List.length_map];omega,fun D hD=>bH (fun i σ H'=>∃ (us:List V) (v0:Option V),Same H H'∧H' D=some (.lst us)∧Prts H' us (dJ i dd p)∧σ=[v0,some (.ref x)]) ⟨[],none,same_new hD _,aj,.nil,rfl⟩ ?_ ?_⟩
  ·rintro i σ H' hi ⟨us,v0,g,e,hP,rfl⟩
   rw [List.length_map,Int.toNat_natCast] at hi
   rw [show (0 + (i:Int))=i by lia]
   have hul:=Paired.length hP
   rw [show (dJ i dd p).length=i by unfold dJ;rw [List.length_map,List.length_range]] at hul
   walk_at "rd"
   refine⟨_,_,_,g _ _ hx,T.cl_Want,T.n_Want_day,_,nZ _ _ _,_,_,_,g _ _ hx,T.cl_Want,T.n_Want_post,_,pP _ _ _,by decide,fun t ht=>?_⟩
   have gt:=same_new ht (.tup [.int (i:Int),.int dd,.int p,.int 1])
   refine⟨us,gt _ _ e,aW (by lia),aY hD (g.trans gt) _,_,aj,?_⟩
   rw [j8]
   exact Prts.mono (bK (gt _ _ e)) (bz (hP.mono (aF gt)) ⟨t,rfl,aj⟩)
  rintro σ H1 ⟨us,v0,g1,e1,hP1,rfl⟩
  rw [List.length_map,Int.toNat_natCast] at hP1
  rw [u1];clear u1
  walk_at "rd"
  refine⟨_,SqL.of e1,fun l hl=>?_⟩
  have g2:=same_new hl (.tup us)
  refine⟨_,_,_,(g1.trans g2) _ _ hx,T.cl_Want,T.n_Want_many,_,pQ _ _ _,by decide,fun u hu=>⟨by decide,fun r hr=>?_⟩⟩
  have g3:=same_new hu (.tup [.ref l,.int m])
  have g4:=same_new hr (.lst [.ref u])
  exact q r _ _ (g1.trans (g2.trans (g3.trans g4))) ((g1.trans (g2.trans g3)).free hr) aj (.cons ⟨u,l,us,rfl,g4 _ _ aj,(g3.trans g4) _ _ aj,hP1.mono (aF (g2.trans (g3.trans g4)))⟩ .nil)
noncomputable def sr (K:PySem.W.Frag) (ζ:Cs):Sp:=fun vs H Q _=>∃ (a b:Addr) (h n:Int) (ds ps:List Int),vs=[.int h,.ref a,.ref b,.int n]∧H a=some (.lst (ds.map V.int))∧H b=some (.lst (ps.map V.int))∧ds.length≤100∧ps.length≤8 ∧
 ∀t ts H',Same H H'→H' t=some (.tup ts)→Prts H' ts (spr h ds ps n)→Q (.ref t) H'
theorem zdu_:aN ["hand","days","posts","number","parts","day"] ["hand","days","posts","number"] (aq vN):=⟨rfl,rfl,rfl,k!,rfl,k!,k!⟩
theorem Kr {ζ:Cs} {f:Addr} {fd:FuncData} (F:Fun K "spread" "spread" vN f fd) (T:Txt K mg ζ) :bA P w K mg base CX0 1 f fd ["hand","days","posts","number"] (sr K ζ):=by
 refine F.ok zdu_ (fun vs H Q E h=>?_) (fun cdv A outer s H vs Q E hr h=>?_)
 ·obtain⟨a,b,h,n,ds,ps,rfl,_⟩:=h
  rfl
 ·obtain⟨a,b,h,n,ds,ps,rfl,hA,hB,hd,hp,q⟩:=h
  refine⟨_,(@au _ _ _ _ _ (aV (i:=4) zdu_.nd rfl (Or.inl rfl) (@bw _ _ _ _ ak)) (@au _ _ _ _ _ (bN PassesOwn.never rfl (bQ (pv 1)) (aB (i:=5) zdu_.nd rfl (Or.inr rfl))
   (@az _ _ _ (bY (d7 PySem.F.plainAttrs_list PySem.F.slot_list_extend PySem.F.type_list_extend jm (pv 4) (@aa _ _ _ _ _ (cB (own:=["post"]) (fnames:=["hand","number","day"]) (fr:=[0,3,5]) (N':=["post","hand","number","day"]) ⟨rfl,rfl,rfl,rfl,rfl,rfl,rfl⟩ rfl (bQ (pv 2)) (fun s0 H0 fp0 C0=>⟨(aB (i:=0) (by show (["post","hand","number","day"]:List Str).Nodup;decide +kernel) rfl (Or.inl rfl)),cu,(@aP _ _ _ _ _ (@aa _ _ _ _ _ (pv 1) (@aa _ _ _ _ _ (pv 3) (@aa _ _ _ _ _ (pv 0) (@aa _ _ _ _ _ (pv 2) ak (by rfl)) (by rfl)) (by rfl)) (by rfl)))⟩)) ak (by rfl)))))) (@az _ _ _ (@aK _ _ _ _ (bG (cQ (K:=K) rfl) (by rfl) T.tuple PyProof.Rows.boot_tuple (@aa _ _ _ _ _ (pv 4) ak (by rfl))))))),?_⟩
  refine aA fun U1 u1=>?_
  walk_at "rd"
  refine⟨Nat.zero_le _,fun p hp0=>?_⟩
  have g0:=same_new hp0 (.lst [])
  rw [u1];clear u1
  refine aA fun U1 u1=>bU fun B1 b1=>?_
  walk_at "rd"
  refine⟨⟨_,SqL.of (g0 _ _ hA)⟩,bB (xs:=ds.map V.int) (fun i σ H'=>∃ (ts:List V) (v:Option V),Same H H'∧H' p=some (.lst ts)∧Prts H' ts (spr h (ds.take i) ps n)∧σ=[some (.int h),some (.ref a),some (.ref b),some (.int n),some (.ref p),v]) ⟨[],none,g0,aj,.nil,rfl⟩ (fun i σ H' _ ⟨_,_,g,_⟩=>SqL.of (g _ _ hA)) ?_ ?_⟩
  ·rintro i x σ H' hx ⟨ts,v,g,e,hP,rfl⟩
   rw [List.getElem?_map] at hx
   obtain⟨d,hd',rfl⟩:=Option.map_eq_some_iff.mp hx
   have hi:i < ds.length:=(List.getElem?_eq_some_iff.mp hd').1
   have htl:=Paired.length hP
   rw [cR,List.length_take] at htl
   have hb1:min i ds.length * ps.length≤100 * 8:=Nat.mul_le_mul (by lia) hp
   rw [b1]
   walk_at "rd"
   refine⟨.inl ⟨rfl,_,SqL.of e⟩,⟨_,SqL.of (g _ _ hB)⟩,fun D hD=>bB (xs:=ps.map V.int) (fun j σ H2=>∃ (us:List V) (v2:Option V),Same H' H2∧H2 D=some (.lst us)∧Prts H2 us ((ps.take j).map fun q=>⟨h,d,q,n⟩)∧σ=[v2,some (.int h),some (.int n),some (.int d)]) ⟨[],none,same_new hD _,aj,.nil,rfl⟩ (fun j σ H2 _ ⟨_,_,g2,_⟩=>SqL.of (g2 _ _ (g _ _ hB))) ?_ ?_⟩
   ·rintro j y σ H2 hy ⟨us,v2,g2,e2,hU,rfl⟩
    rw [List.getElem?_map] at hy
    obtain⟨z,hz,rfl⟩:=Option.map_eq_some_iff.mp hy
    have hul:=Paired.length hU
    rw [List.length_map,List.length_take] at hul
    walk_at "rd"
    refine⟨by decide,fun t ht=>?_⟩
    have g3:=same_new ht (.tup [.int h,.int d,.int z,.int n])
    refine⟨us,g3 _ _ e2,aW (by lia),aY hD (g2.trans g3) _,us ++ [.ref t],aj,?_⟩
    rw [bh hz,List.map_append]
    exact Prts.mono (bK (g3 _ _ e2)) (bz (hU.mono (aF g3)) ⟨t,rfl,aj⟩)
   ·rintro σ H2 ⟨us,v2,g2,e2,hU,rfl⟩
    rw [List.take_of_length_le (by rw [List.length_map];exact Nat.le_refl _)] at hU
    have hul:=Paired.length hU
    rw [List.length_map] at hul
    have e':=g2 _ _ e
    walk_at "rd"
    refine⟨ts,e',us,e2,dO (by lia),aY hp0 (g.trans g2) _,ts ++ us,aj,?_⟩
    rw [bh hd',pC]
    exact Prts.mono (bK e') (iy (hP.mono (aF g2)) hU)
  ·rintro σ H' ⟨ts,v,g,e,hP,rfl⟩
   rw [u1];clear u1
   walk_at "rd"
   refine⟨_,SqL.of e,fun l hl=>?_⟩
   rw [List.length_map,List.take_length] at hP
   exact q l ts _ (g.trans (same_new hl _)) aj (hP.mono (aF (same_new hl _)))
noncomputable def Bm (K:PySem.W.Frag) (ζ:Cs):Sp:=fun vs H Q _=>∃h n:Int,vs=[.int h,.int n]∧Q (.bl (cv h n)) H
theorem Ks:aN ["have","need"] ["have","need"] (aq vm):=⟨rfl,rfl,rfl,k!,rfl,k!,k!⟩
theorem Ku {ζ:Cs} {f:Addr} {fd:FuncData} (F:Fun K "covers" "covers" vm f fd) (T:Txt K mg ζ) :bA P w K mg base CX0 1 f fd ["have","need"] (Bm K ζ):=by
 refine F.ok Ks (fun vs H Q E h=>?_) (fun cdv A outer s H vs Q E hr h=>?_)
 ·obtain⟨h,n,rfl,_⟩:=h
  rfl
 ·obtain⟨h,n,rfl,q⟩:=h
  refine⟨_,(@az _ _ _ (@aK _ _ _ _ (cX bZ (@aD _ _ _ _ _ _ _ _ nD (pv 0) (pv 1)) (pv 1) (aR _)))),?_⟩
  walk_at "rd"
  exact q
noncomputable def EY (K:PySem.W.Frag) (ζ:Cs):Sp:=fun vs H Q _=>∃n:Int,vs=[.int n]∧0≤n∧n < 2 ^ 40∧∀r H',New H H' r ((pl n).map V.int)→Q (.ref r) H'
theorem Kv:aN ["number"] ["number"] (aq vh):=⟨rfl,rfl,rfl,k!,rfl,k!,k!⟩
theorem Kw {ζ:Cs} {f:Addr} {fd:FuncData} (F:Fun K "members" "members" vh f fd) (T:Txt K mg ζ) (zbN_:Cal P w K mg base "covers" ["have","need"] 1 (Bm K ζ)):bA P w K mg base CX0 2 f fd ["number"] (EY K ζ):=by
 refine F.ok Kv (fun vs H Q E h=>?_) (fun cdv A outer s H vs Q E hr h=>?_)
 ·obtain⟨n,rfl,_⟩:=h
  rfl
 ·obtain⟨n,rfl,n0,n1,q⟩:=h
  refine⟨_,(@az _ _ _ (@aK _ _ _ _ (cB (own:=["place"]) (fnames:=["number"]) (fr:=[0]) (N':=["place","number"]) ⟨rfl,rfl,rfl,rfl,rfl,rfl,rfl⟩ rfl (bM rfl T.range (@aa _ _ _ _ _ (qW PySem.F.plainAttrs_int PySem.F.slot_int_bit_length PySem.F.type_int_bit_length uI (pv 0)) ak (by rfl))) (fun s0 H0 fp0 C0=>⟨(aB (i:=0) (by show (["place","number"]:List Str).Nodup;decide +kernel) rfl (Or.inl rfl)),(fL (dM (aM zbN_ (hr.mono (by decide)) rfl (@aa _ _ _ _ _ (pv 1) (@aa _ _ _ _ _ (@aD _ _ _ _ _ _ _ _ nC ao (pv 0)) ak (by rfl)) (by rfl))))),(pv 0)⟩)))),?_⟩
  walk_at "rd"
  obtain⟨b1,b2⟩:=bits_le n0 n1
  refine⟨rfl,by lia,by omega,fun D hD=>bH (fun i σ H'=>(∃v,σ=[v,some (.int n)])∧H'=upd H D (.lst (((plN n.toNat i).map fun j:Nat=>(j:Int)).map V.int))) ⟨⟨none,rfl⟩,rfl⟩ ?_ ?_⟩
  ·rintro i σ H' hi ⟨⟨v,rfl⟩,rfl⟩
   walk_at "rd"
   have et:(0 + (i:Int)).toNat=i:=by lia
   rw [et]
   refine⟨⟨by lia,by lia,by decide⟩,n,_,rfl,?_⟩
   rw [show cv n (1 * 2 ^ i)=n.toNat.testBit i from Ao n0 i]
   walk_at "rd"
   have hs:=yg n.toNat i
   split
   ·rename_i hb
    rw [if_pos hb] at hs
    have hl:=An n.toNat i
    refine⟨_,aj,by simp only [List.length_map];exact aW (by lia),?_⟩
    rw [cg,hs]
    simp
   ·rename_i hb
    rw [if_neg hb,List.append_nil] at hs
    first | (rw [hs];done) | (rw [hs];exact⟨⟨_,rfl⟩,rfl⟩)
  ·rintro σ H' ⟨_,rfl⟩
   refine q D _ ⟨same_new hD _,hD,?_⟩
   rw [aj,Int.toNat_natCast,pO b2 b1]
   rfl
noncomputable def Fb (K:PySem.W.Frag) (ζ:Cs):Sp:=fun vs H Q _=>∃m:Int,vs=[.int m]∧0≤m∧m≤1000∧Q (.int (2 ^ m.toNat - 1)) H
theorem Ky:aN ["many"] ["many"] (aq vo):=⟨rfl,rfl,rfl,k!,rfl,k!,k!⟩
theorem Kz {ζ:Cs} {f:Addr} {fd:FuncData} (F:Fun K "first_days" "first_days" vo f fd) (T:Txt K mg ζ) :bA P w K mg base CX0 1 f fd ["many"] (Fb K ζ):=by
 refine F.ok Ky (fun vs H Q E h=>?_) (fun cdv A outer s H vs Q E hr h=>?_)
 ·obtain⟨m,rfl,_⟩:=h
  rfl
 ·obtain⟨m,rfl,m0,m1,q⟩:=h
  refine⟨_,(@az _ _ _ (@aK _ _ _ _ (@aD _ _ _ _ _ _ _ _ dz (@aD _ _ _ _ _ _ _ _ nC ao (pv 0)) ao))),?_⟩
  walk_at "rd"
  refine⟨⟨m0,by lia,by decide⟩,?_⟩
  rw [Int.one_mul]
  exact q
noncomputable def zg (K:PySem.W.Frag) (ζ:Cs):Sp:=fun vs H Q _=>∃ (x:Addr) (d:Int) (hs:List Int) (ps:List Pst) (s:Nat),vs=[.ref x,.int s]∧WardAt ζ.a H x d hs ps∧0≤d∧d≤31∧s < 2147483648∧∀r H',New H H' r ((dsN s d.toNat).map V.int)→Q (.ref r) H'
theorem KC:aN ["ward","days"] ["ward","days"] (aq vL):=⟨rfl,rfl,rfl,k!,rfl,k!,k!⟩
theorem KD {ζ:Cs} {f:Addr} {fd:FuncData} (F:Fun K "days_of" "days_of" vL f fd) (T:Txt K mg ζ) (zdv_:Cal P w K mg base "members" ["number"] 2 (EY K ζ)) (zcD_:Cal P w K mg base "first_days" ["many"] 1 (Fb K ζ)):bA P w K mg base CX0 3 f fd ["ward","days"] (zg K ζ):=by
 refine F.ok KC (fun vs H Q E h=>?_) (fun cdv A outer s H vs Q E hr h=>?_)
 ·obtain⟨x,d,hs,ps,s,rfl,_⟩:=h
  rfl
 ·obtain⟨x,d,hs,ps,s,rfl,hW,d0,d31,s1,q⟩:=h
  refine⟨_,(@az _ _ _ (@aK _ _ _ _ (aM zdv_ (hr.mono (by decide)) rfl (@aa _ _ _ _ _ (@aD _ _ _ _ _ _ _ _ nD (pv 1) (aM zcD_ (hr.mono (by decide)) rfl (@aa _ _ _ _ _ (aZ (pv 0) rfl) ak (by rfl)))) ak (by rfl))))),?_⟩
  obtain⟨dx,ha,pa,ts,h1,h2,h3,h4⟩:=hW.ex
  walk_at "rd"
  refine⟨_,_,_,h1,T.cl_Ward,T.n_Ward_days,_,eZ _ _ _,d,rfl,d0,by lia,?_⟩
  walk_at "rd"
  rw [ym]
  exact⟨_,rfl,Int.natCast_nonneg _,uO s1,fun r H' hN=>q r H' (by rw [← DR (days:=s) (d:=d.toNat) (by lia)];exact hN)⟩
noncomputable def zy_ (K:PySem.W.Frag) (ζ:Cs):Sp:=fun vs H Q _=>∃ (x:Addr) (d:Int) (hs:List Int) (ps:List Pst),vs=[.ref x]∧WardAt ζ.a H x d hs ps∧ps.length≤6∧∀r H',New H H' r ((cH ps).map V.int)→Q (.ref r) H'
theorem KH:aN ["ward"] ["ward"] (aq vM):=⟨rfl,rfl,rfl,k!,rfl,k!,k!⟩
theorem KJ {ζ:Cs} {f:Addr} {fd:FuncData} (F:Fun K "all_posts" "all_posts" vM f fd) (T:Txt K mg ζ) :bA P w K mg base CX0 1 f fd ["ward"] (zy_ K ζ):=by
 refine F.ok KH (fun vs H Q E h=>?_) (fun cdv A outer s H vs Q E hr h=>?_)
 ·obtain⟨x,d,hs,ps,rfl,_⟩:=h
  rfl
 ·obtain⟨x,d,hs,ps,rfl,hW,hl,q⟩:=h
  refine⟨_,(@az _ _ _ (@aK _ _ _ _ (bG (gq rfl) (by rfl) T.list PyProof.Rows.boot_list (@aa _ _ _ _ _ (bG fV (by rfl) T.range PyProof.Rows.boot_range (@aa _ _ _ _ _ ao (@aa _ _ _ _ _ (@aD _ _ _ _ _ _ _ _ bj (bx (bC (K:=K) rfl) (by rfl) T.len PySem.boot_len (@aa _ _ _ _ _ (aZ (pv 0) rfl) ak (by rfl))) ao) ak (by rfl)) (by rfl))) ak (by rfl))))),?_⟩
  obtain⟨dx,ha,pa,ts,h1,h2,h3,h4⟩:=hW.ex
  have hlen:=h4.len
  walk_at "rd"
  refine⟨_,_,_,h1,T.cl_Ward,T.n_Ward_posts,_,gn _ _ _,_,rfl,_,.inr (SqT.of h3),fun p hp=>?_⟩
  refine⟨_,_,aj,by decide,by decide,by lia,by lia,fun l hl=>?_⟩
  have e:((ts.length:Int) + 1 - 1).toNat=ps.length:=by lia
  rw [e]
  exact q l _ ⟨(same_new hp _).trans (same_new hl _),(same_new hp _).free hl,aj⟩
noncomputable def Fd (K:PySem.W.Frag) (ζ:Cs):Sp:=fun vs H Q _=>∃ (x dx y:Addr) (h m d:Int) (s:Nat) (hs:List Int) (ps:List Pst),vs=[.ref x,.ref y]∧H x=some (.ins ζ.d dx (mf3 h s m))∧WardAt ζ.a H y d hs ps∧Ok d hs ps∧s < 2147483648 ∧
 ∀r us H',Same H H'→H r=none→H' r=some (.lst us)→Lins H' us [⟨spr h (dsN s d.toNat) (cH ps) (-1),-m⟩]→Q (.ref r) H'
theorem KN:aN ["self","ward"] ["self","ward"] (aq vz):=⟨rfl,rfl,rfl,k!,rfl,k!,k!⟩
theorem KQ {ζ:Cs} {f:Addr} {fd:FuncData} (F:Fun K "lines" "Most.lines" vz f fd) (T:Txt K mg ζ) (zk_:Cal P w K mg base "spread" ["hand","days","posts","number"] 1 (sr K ζ)) (zac_:Cal P w K mg base "days_of" ["ward","days"] 3 (zg K ζ)) (zc_:Cal P w K mg base "all_posts" ["ward"] 1 (zy_ K ζ)):bA P w K mg base CX0 4 f fd ["self","ward"] (Fd K ζ):=by
 refine F.ok KN (fun vs H Q E h=>?_) (fun cdv A outer s H vs Q E hr h=>?_)
 ·obtain⟨x,dx,y,h,m,d,s,hs,ps,rfl,_⟩:=h
  rfl
 ·obtain⟨x,dx,y,h,m,d,s',hs,ps,rfl,hx,hW,ok,s1,q⟩:=h
  refine⟨_,(@az _ _ _ (@aK _ _ _ _ (@bw _ _ _ _ (@aa _ _ _ _ _ (@aP _ _ _ _ _ (@aa _ _ _ _ _ (aM zk_ (hr.mono (by decide)) rfl (@aa _ _ _ _ _ (aZ (pv 0) rfl) (@aa _ _ _ _ _ (aM zac_ (hr.mono (by decide)) rfl (@aa _ _ _ _ _ (pv 1) (@aa _ _ _ _ _ (aZ (pv 0) rfl) ak (by rfl)) (by rfl))) (@aa _ _ _ _ _ (aM zc_ (hr.mono (by decide)) rfl (@aa _ _ _ _ _ (pv 1) ak (by rfl))) (@aa _ _ _ _ _ (@cW _ _ _ _ _ _ cz ao) ak (by rfl)) (by rfl)) (by rfl)) (by rfl))) (@aa _ _ _ _ _ (@cW _ _ _ _ _ _ cz (aZ (pv 0) rfl)) ak (by rfl)) (by rfl))) ak (by rfl))))),?_⟩
  have od1:=ok.d1
  have od2:=ok.d2
  have opl:=ok.pl
  have hdl:=jL s' d.toNat
  have hal:=dI ps
  walk_at "rd"
  refine⟨_,_,_,hx,T.cl_Most,T.n_Most_hand,_,fG _ _ _,_,_,_,hx,T.cl_Most,T.n_Most_days,_,iW _ _ _,y,d,hs,ps,s',rfl,hW,by omega,by omega,s1,fun r0 H1 ⟨g1,f1,e1⟩=>?_⟩
  refine⟨y,d,hs,ps,rfl,hW.mono g1,opl,fun b2 H2 ⟨g2,f2,e2⟩=>?_⟩
  refine⟨r0,b2,h,(-1),dsN s' d.toNat,cH ps,rfl,g2 _ _ e1,e2,by omega,by omega,fun t ts H3 g3 et hts=>?_⟩
  have gA:=g1.trans (g2.trans g3)
  refine⟨_,_,_,gA _ _ hx,T.cl_Most,T.n_Most_many,_,gK _ _ _,?_⟩
  refine⟨m,rfl,by decide,fun u hu=>⟨by decide,fun r hr=>?_⟩⟩
  have g4:=same_new hu (.tup [.ref t,.int (-m)])
  have g5:=same_new hr (.lst [.ref u])
  exact q r _ _ (gA.trans (g4.trans g5)) ((gA.trans g4).free hr) aj (.cons ⟨u,t,ts,rfl,g5 _ _ aj,(g4.trans g5) _ _ et,hts.mono (aF (g4.trans g5))⟩ .nil)
noncomputable def Fe (K:PySem.W.Frag) (ζ:Cs):Sp:=fun vs H Q _=>∃ (x dx y:Addr) (h m d:Int) (s:Nat) (hs:List Int) (ps:List Pst),vs=[.ref x,.ref y]∧H x=some (.ins ζ.e dx (mf3 h s m))∧WardAt ζ.a H y d hs ps∧Ok d hs ps∧s < 2147483648 ∧
 ∀r us H',Same H H'→H r=none→H' r=some (.lst us)→Lins H' us [⟨spr h (dsN s d.toNat) (cH ps) (1),m⟩]→Q (.ref r) H'
theorem KR:aN ["self","ward"] ["self","ward"] (aq zS_):=⟨rfl,rfl,rfl,k!,rfl,k!,k!⟩
theorem KY {ζ:Cs} {f:Addr} {fd:FuncData} (F:Fun K "lines" "Least.lines" zS_ f fd) (T:Txt K mg ζ) (zk_:Cal P w K mg base "spread" ["hand","days","posts","number"] 1 (sr K ζ)) (zac_:Cal P w K mg base "days_of" ["ward","days"] 3 (zg K ζ)) (zc_:Cal P w K mg base "all_posts" ["ward"] 1 (zy_ K ζ)):bA P w K mg base CX0 4 f fd ["self","ward"] (Fe K ζ):=by
 refine F.ok KR (fun vs H Q E h=>?_) (fun cdv A outer s H vs Q E hr h=>?_)
 ·obtain⟨x,dx,y,h,m,d,s,hs,ps,rfl,_⟩:=h
  rfl
 ·obtain⟨x,dx,y,h,m,d,s',hs,ps,rfl,hx,hW,ok,s1,q⟩:=h
  refine⟨_,(@az _ _ _ (@aK _ _ _ _ (@bw _ _ _ _ (@aa _ _ _ _ _ (@aP _ _ _ _ _ (@aa _ _ _ _ _ (aM zk_ (hr.mono (by decide)) rfl (@aa _ _ _ _ _ (aZ (pv 0) rfl) (@aa _ _ _ _ _ (aM zac_ (hr.mono (by decide)) rfl (@aa _ _ _ _ _ (pv 1) (@aa _ _ _ _ _ (aZ (pv 0) rfl) ak (by rfl)) (by rfl))) (@aa _ _ _ _ _ (aM zc_ (hr.mono (by decide)) rfl (@aa _ _ _ _ _ (pv 1) ak (by rfl))) (@aa _ _ _ _ _ ao ak (by rfl)) (by rfl)) (by rfl)) (by rfl))) (@aa _ _ _ _ _ (aZ (pv 0) rfl) ak (by rfl)) (by rfl))) ak (by rfl))))),?_⟩
  have od1:=ok.d1
  have od2:=ok.d2
  have opl:=ok.pl
  have hdl:=jL s' d.toNat
  have hal:=dI ps
  walk_at "rd"
  refine⟨_,_,_,hx,T.cl_Least,T.n_Least_hand,_,fG _ _ _,_,_,_,hx,T.cl_Least,T.n_Least_days,_,iW _ _ _,y,d,hs,ps,s',rfl,hW,by omega,by omega,s1,fun r0 H1 ⟨g1,f1,e1⟩=>?_⟩
  refine⟨y,d,hs,ps,rfl,hW.mono g1,opl,fun b2 H2 ⟨g2,f2,e2⟩=>?_⟩
  refine⟨r0,b2,h,(1),dsN s' d.toNat,cH ps,rfl,g2 _ _ e1,e2,by omega,by omega,fun t ts H3 g3 et hts=>?_⟩
  have gA:=g1.trans (g2.trans g3)
  refine⟨_,_,_,gA _ _ hx,T.cl_Least,T.n_Least_many,_,gK _ _ _,?_⟩
  refine⟨by decide,fun u hu=>⟨by decide,fun r hr=>?_⟩⟩
  have g4:=same_new hu (.tup [.ref t,.int (m)])
  have g5:=same_new hr (.lst [.ref u])
  exact q r _ _ (gA.trans (g4.trans g5)) ((gA.trans g4).free hr) aj (.cons ⟨u,t,ts,rfl,g5 _ _ aj,(g4.trans g5) _ _ et,hts.mono (aF (g4.trans g5))⟩ .nil)
noncomputable def Ff (K:PySem.W.Frag) (ζ:Cs):Sp:=fun vs H Q _=>∃ (x dx y:Addr) (h d:Int) (s:Nat) (hs:List Int) (ps:List Pst),vs=[.ref x,.ref y]∧H x=some (.ins ζ.g dx (af2 h s))∧WardAt ζ.a H y d hs ps∧Ok d hs ps∧s < 2147483648 ∧
 ∀r us H',Same H H'→H r=none→H' r=some (.lst us)→Lins H' us (mF h ps s d.toNat)→Q (.ref r) H'
theorem KZ:aN ["self","ward"] ["self","ward"] (aq vD):=⟨rfl,rfl,rfl,k!,rfl,k!,k!⟩
theorem K1 {ζ:Cs} {f:Addr} {fd:FuncData} (F:Fun K "lines" "Away.lines" vD f fd) (T:Txt K mg ζ) (zk_:Cal P w K mg base "spread" ["hand","days","posts","number"] 1 (sr K ζ)) (zac_:Cal P w K mg base "days_of" ["ward","days"] 3 (zg K ζ)) (zc_:Cal P w K mg base "all_posts" ["ward"] 1 (zy_ K ζ)):bA P w K mg base CX0 4 f fd ["self","ward"] (Ff K ζ):=by
 refine F.ok KZ (fun vs H Q E h=>?_) (fun cdv A outer s H vs Q E hr h=>?_)
 ·obtain⟨x,dx,y,h,d,s,hs,ps,rfl,_⟩:=h
  rfl
 ·obtain⟨x,dx,y,h,d,s',hs,ps,rfl,hx,hW,ok,s1,q⟩:=h
  refine⟨_,(@az _ _ _ (@aK _ _ _ _ (cB (own:=["day"]) (fnames:=["self","ward"]) (fr:=[0,1]) (N':=["day","self","ward"]) ⟨rfl,rfl,rfl,rfl,rfl,rfl,rfl⟩ rfl (bQ (aM zac_ (hr.mono (by decide)) rfl (@aa _ _ _ _ _ (pv 1) (@aa _ _ _ _ _ (aZ (pv 0) rfl) ak (by rfl)) (by rfl)))) (fun s0 H0 fp0 C0=>⟨(aB (i:=0) (by show (["day","self","ward"]:List Str).Nodup;decide +kernel) rfl (Or.inl rfl)),cu,(@aP _ _ _ _ _ (@aa _ _ _ _ _ (aM zk_ (hr.mono (by decide)) rfl (@aa _ _ _ _ _ (gU (K:=K) rfl (pv 1) rfl) (@aa _ _ _ _ _ (@bw _ _ _ _ (@aa _ _ _ _ _ (pv 0) ak (by rfl))) (@aa _ _ _ _ _ (aM zc_ (hr.mono (by decide)) rfl (@aa _ _ _ _ _ (pv 2) ak (by rfl))) (@aa _ _ _ _ _ (@cW _ _ _ _ _ _ cz ao) ak (by rfl)) (by rfl)) (by rfl)) (by rfl))) (@aa _ _ _ _ _ ao ak (by rfl)) (by rfl)))⟩)))),?_⟩
  have od1:=ok.d1
  have od2:=ok.d2
  have opl:=ok.pl
  have hdl:(dsN s' d.toNat).length≤31:=by
   unfold dsN
   rw [List.length_map]
   exact Nat.le_trans (List.length_filter_le _ _) (by rw [List.length_range];lia)
  walk_at "rd"
  refine⟨_,_,_,hx,T.cl_Away,T.n_Away_days,_,pR _ _,y,d,hs,ps,s',rfl,hW,by lia,by omega,s1,fun r0 H1 ⟨g1,f1,e1⟩=>?_⟩
  walk_at "rd"
  refine⟨⟨_,SqL.of e1⟩,fun D hD=>bB (xs:=(dsN s' d.toNat).map V.int) (fun i σ H'=>∃ (us:List V) (v0:Option V),Same H1 H'∧H' D=some (.lst us)∧Lins H' us (((dsN s' d.toNat).take i).map fun x=>⟨spr h [x] (cH ps) (-1),0⟩)∧σ=[v0,some (.ref x),some (.ref y)]) ⟨[],none,same_new hD _,aj,.nil,rfl⟩ (fun i σ H' _ ⟨_,_,g,_⟩=>SqL.of (g _ _ e1)) ?_ ?_⟩
  ·rintro i v σ H' hv ⟨us,v0,g,e,hL,rfl⟩
   obtain⟨z,hz,rfl⟩:=mD hv
   have hul:=Paired.length hL
   rw [List.length_map,List.length_take] at hul
   have ga:=g1.trans g
   walk_at "rd"
   refine⟨_,_,_,ga _ _ hx,T.cl_Away,T.n_Away_hand,_,j9 _ _,by decide,fun l hl=>?_⟩
   have gl:=same_new hl (.lst [.int z])
   refine⟨y,d,hs,ps,rfl,hW.mono (ga.trans gl),opl,fun b2 H2 ⟨g2,f2,e2⟩=>?_⟩
   have hal:=dI ps
   refine⟨l,b2,h,-1,[z],cH ps,rfl,g2 _ _ aj,e2,by simp,by lia,fun t ts H3 g3 et hts=>⟨by decide,fun u hu=>?_⟩⟩
   have gu:=same_new hu (.tup [.ref t,.int 0])
   have g5:=(gl.trans (g2.trans g3)).trans gu
   refine⟨us,g5 _ _ e,aW (by lia),aY hD (g.trans g5) _,_,aj,?_⟩
   rw [bh hz,List.map_append]
   exact Lins.mono (bK (g5 _ _ e)) (bz (hL.mono (aF g5)) ⟨u,t,ts,rfl,aj,gu _ _ et,hts.mono (aF gu)⟩)
  rintro σ H' ⟨us,v0,g,e,hL,rfl⟩
  rw [List.length_map,List.take_length] at hL
  exact q D us H' (g1.trans g) (g1.free hD) e hL
noncomputable def Fg (_:PySem.W.Frag) (ζ:Cs):Sp:=fun vs H Q _=>∃ (x:Addr) (d:Int) (hs:List Int) (ps:List Pst) (j:Nat),vs=[.ref x,.int j]∧WardAt ζ.a H x d hs ps∧j≤ps.length∧Q (.bl (ngt ps j)) H
theorem K3:aN ["self","post"] ["self","post"] (aq zE_):=⟨rfl,rfl,rfl,k!,rfl,k!,k!⟩
theorem K4 {ζ:Cs} {f:Addr} {fd:FuncData} (F:Fun K "is_night" "Ward.is_night" zE_ f fd) (T:Txt K mg ζ) :bA P w K mg base CX0 1 f fd ["self","post"] (Fg K ζ):=by
 refine F.ok K3 (fun vs H Q E h=>?_) (fun cdv A outer s H vs Q E hr h=>?_)
 ·obtain⟨x,d,hs,ps,j,rfl,_⟩:=h
  rfl
 ·obtain⟨x,d,hs,ps,j,rfl,hW,hj,q⟩:=h
  refine⟨_,(@az _ _ _ (@aK _ _ _ _ (cG (cX wX (pv 1) ao (aR _)) (dq (cX bZ (@bc _ _ _ _ _ _ _ bI (@bc _ _ _ _ _ _ _ bI (aZ (pv 0) rfl) (@aD _ _ _ _ _ _ _ _ dz (pv 1) ao) (fun _ _=>rfl)) ao (fun _ _=>rfl)) ao (aR _)))))),?_⟩
  obtain⟨dx,ha,pa,ts,h1,h2,h3,h4⟩:=hW.ex
  walk_at "rd"
  cases j with
  | zero =>
   rw [if_neg (by simp)]
   exact q
  | succ k =>
   rw [if_pos (by omega)]
   have hk:k < ps.length:=by lia
   obtain⟨t,e1,ht⟩:=h4.get (List.getElem?_eq_getElem hk)
   refine⟨_,_,_,h1,T.cl_Ward,T.n_Ward_posts,_,gn _ _ _,_,rfl,_,SqT.of h3,_,by rw [show ((k + 1:Nat):Int) - 1=(k:Nat) by lia];exact cY e1,_,rfl,_,SqT.of ht,_,rfl,rfl,?_⟩
   have e:ngt ps (k + 1)=decide (ps[k].2.2=1):=by simp [ngt,hk]
   rw [e] at q
   rw [BR]
   exact q
noncomputable def Fi (K:PySem.W.Frag) (ζ:Cs):Sp:=fun vs H Q _=>∃ (x:Addr) (d:Int) (hs:List Int) (ps:List Pst),vs=[.ref x]∧WardAt ζ.a H x d hs ps∧ps.length≤6∧∀r H',New H H' r ((np ps).map V.int)→Q (.ref r) H'
theorem K5:aN ["ward"] ["ward"] (aq zw_):=⟨rfl,rfl,rfl,k!,rfl,k!,k!⟩
theorem K6 {ζ:Cs} {f:Addr} {fd:FuncData} (F:Fun K "posts_by_night" "posts_by_night" zw_ f fd) (T:Txt K mg ζ) (zc_:Cal P w K mg base "all_posts" ["ward"] 1 (zy_ K ζ)) (zby_:cU P w K mg base ζ.a "is_night" ["self","post"] 1 (Fg K ζ)):bA P w K mg base CX0 2 f fd ["ward"] (Fi K ζ):=by
 refine F.ok K5 (fun vs H Q E h=>?_) (fun cdv A outer s H vs Q E hr h=>?_)
 ·obtain⟨x,d,hs,ps,rfl,_⟩:=h
  rfl
 ·obtain⟨x,d,hs,ps,rfl,hW,hl,q⟩:=h
  refine⟨_,(@az _ _ _ (@aK _ _ _ _ (cB (own:=["post"]) (fnames:=["ward"]) (fr:=[0]) (N':=["post","ward"]) ⟨rfl,rfl,rfl,rfl,rfl,rfl,rfl⟩ rfl (bQ (aM zc_ (hr.mono (by decide)) rfl (@aa _ _ _ _ _ (pv 0) ak (by rfl)))) (fun s0 H0 fp0 C0=>⟨(aB (i:=0) (by show (["post","ward"]:List Str).Nodup;decide +kernel) rfl (Or.inl rfl)),(fL (dM (bT zby_ (hr.mono (by decide)) (pv 1) (@aa _ _ _ _ _ (pv 0) ak (by rfl))))),(pv 0)⟩)))),?_⟩
  walk_at "rd"
  refine⟨x,d,hs,ps,rfl,hW,hl,fun r H1 ⟨g1,f1,e1⟩=>?_⟩
  have hal:(cH ps).length=ps.length:=by unfold cH upto;simp
  walk_at "rd"
  refine⟨⟨_,SqL.of e1⟩,fun D hD=>bB (xs:=(cH ps).map V.int) (fun i σ H'=>Same H1 H'∧H' D=some (.lst ((npI ps i).map V.int))∧∃v,σ=[v,some (.ref x)]) ⟨same_new hD _,aj,none,rfl⟩ (fun i σ H' _ hh=>SqL.of (hh.1 _ _ e1)) ?_ ?_⟩
  ·rintro i v σ H' hx ⟨g,e,v1,rfl⟩
   have hi:i < ps.length:=by
    have:=(List.getElem?_eq_some_iff.mp hx).1
    rw [List.length_map] at this
    lia
   have ev:v=.int ((i + 1:Nat):Int):=by
    rw [List.getElem?_map,cH,upto,List.getElem?_map,List.getElem?_range hi] at hx
    cases hx
    show V.int (1 + (i:Int))=V.int ((i + 1:Nat):Int)
    congr 1
    lia
   subst ev
   have ga:=g1.trans g
   obtain⟨dx,ha,pa,ts,h1,h2,h3,h4⟩:=(hW.mono ga).ex
   have hnl:=tH ps i
   walk_at "rd"
   refine⟨_,_,h1,BX _ _ _ k! k! k!,x,d,hs,ps,i + 1,rfl,hW.mono ga,by lia,_,rfl,?_⟩
   rw [xV]
   split
   ·rename_i hn
    refine⟨_,e,aW (by rw [List.length_map];lia),aY hD g _,?_⟩
    rw [aj,List.map_append,show (1 + (i:Int))=((i + 1:Nat):Int) by lia]
    rfl
   ·rename_i hn
    rw [List.append_nil]
    exact⟨g,e⟩
  ·rintro σ H' ⟨g,e,v1,rfl⟩
   rw [List.length_map,hal] at e
   exact q D H' ⟨g1.trans g,g1.free hD,e⟩
noncomputable def Fj (K:PySem.W.Frag) (ζ:Cs):Sp:=fun vs H Q _=>∃ (x dx y:Addr) (h m d:Int) (hs:List Int) (ps:List Pst),vs=[.ref x,.ref y]∧H x=some (.ins ζ.i dx (hm h m))∧WardAt ζ.a H y d hs ps∧Ok d hs ps∧0≤m∧m≤99 ∧
 ∀r us H',Same H H'→H r=none→H' r=some (.lst us)→Lins H' us (dH h m d (np ps))→Q (.ref r) H'
theorem zad_:aN ["self","ward","nights","laid","first","row"] ["self","ward"] (aq zH_):=⟨rfl,rfl,rfl,k!,rfl,k!,k!⟩
theorem K7 {ζ:Cs} {f:Addr} {fd:FuncData} (F:Fun K "lines" "Nights.lines" zH_ f fd) (T:Txt K mg ζ) (zbh_:Cal P w K mg base "posts_by_night" ["ward"] 2 (Fi K ζ)) (zk_:Cal P w K mg base "spread" ["hand","days","posts","number"] 1 (sr K ζ)):bA P w K mg base CX0 3 f fd ["self","ward"] (Fj K ζ):=by
 refine F.ok zad_ (fun vs H Q E h=>?_) (fun cdv A outer s H vs Q E hr h=>?_)
 ·obtain⟨x,dx,y,h,m,d,hs,ps,rfl,_⟩:=h
  rfl
 ·obtain⟨x,dx,y,h,m,d,hs,ps,rfl,hx,hW,ok,m0,m9,q⟩:=h
  refine⟨_,(@au _ _ _ _ _ (aV (i:=2) zad_.nd rfl (Or.inl rfl) (aM zbh_ (hr.mono (by decide)) rfl (@aa _ _ _ _ _ (pv 1) ak (by rfl)))) (@au _ _ _ _ _ (aV (i:=3) zad_.nd rfl (Or.inl rfl) (@bw _ _ _ _ ak)) (@au _ _ _ _ _ (bN PassesOwn.never rfl (bM rfl T.range (@aa _ _ _ _ _ (@aD _ _ _ _ _ _ _ _ dz (aZ (pv 1) rfl) (aZ (pv 0) rfl)) ak (by rfl))) (aB (i:=4) zad_.nd rfl (Or.inl rfl))
   (@au _ _ _ _ _ (aV (i:=5) zad_.nd rfl (Or.inl rfl) (bG (gq rfl) (by rfl) T.list PyProof.Rows.boot_list (@aa _ _ _ _ _ (bG fV (by rfl) T.range PyProof.Rows.boot_range (@aa _ _ _ _ _ (pv 4) (@aa _ _ _ _ _ (@aD _ _ _ _ _ _ _ _ bj (@aD _ _ _ _ _ _ _ _ bj (pv 4) (aZ (pv 0) rfl)) ao) ak (by rfl)) (by rfl))) ak (by rfl)))) (@az _ _ _ (bY (d7 PySem.F.plainAttrs_list PySem.F.slot_list_append PySem.F.type_list_append cj (pv 3) (@aa _ _ _ _ _ (@aP _ _ _ _ _ (@aa _ _ _ _ _ (aM zk_ (hr.mono (by decide)) rfl (@aa _ _ _ _ _ (aZ (pv 0) rfl) (@aa _ _ _ _ _ (pv 5) (@aa _ _ _ _ _ (pv 2) (@aa _ _ _ _ _ (@cW _ _ _ _ _ _ cz ao) ak (by rfl)) (by rfl)) (by rfl)) (by rfl))) (@aa _ _ _ _ _ (@cW _ _ _ _ _ _ cz (aZ (pv 0) rfl)) ak (by rfl)) (by rfl))) ak (by rfl))))))) (@az _ _ _ (@aK _ _ _ _ (pv 3)))))),?_⟩
  refine aA fun U1 u1=>?_
  walk_at "rd"
  refine⟨y,d,hs,ps,rfl,hW,ok.pl,fun b H1 ⟨g1,f1,e1⟩=>?_⟩
  rw [u1];clear u1
  refine aA fun U1 u1=>?_
  walk_at "rd"
  refine⟨Nat.zero_le _,fun p hp=>?_⟩
  rw [u1];clear u1
  refine aA fun U1 u1=>bU fun B1 b1=>?_
  walk_at "rd"
  have g2:=same_new hp (.lst [])
  have ga:=g1.trans g2
  have od1:=ok.d1
  have od2:=ok.d2
  obtain⟨dy,ha,pa,ts0,h1,h2,h3,h4⟩:=hW.ex
  refine⟨_,_,_,ga _ _ h1,T.cl_Ward,T.n_Ward_days,_,eZ _ _ _,_,_,_,ga _ _ hx,T.cl_Nights,T.n_Nights_many,_,jK _ _,d,rfl,m,rfl,by lia,by lia,bH (fun i σ H'=>∃ (us:List V) (v4 v5:Option V),Same H H'∧H' b=some (.lst ((np ps).map V.int))∧H' p=some (.lst us)∧Lins H' us ((dH h m d (np ps)).take i)∧σ=[some (.ref x),some (.ref y),some (.ref b),some (.ref p),v4,v5]) ⟨[],none,none,ga,g2 _ _ e1,aj,.nil,rfl⟩ ?_ ?_⟩
  ·rintro i σ H' hi ⟨us,v4,v5,g,eb,ep,hL,rfl⟩
   rw [show (0 + (i:Int))=i by lia]
   have hul:=Paired.length hL
   have hnl:(np ps).length≤6:=Nat.le_trans (tH _ _) ok.pl
   rw [List.length_take] at hul
   rw [b1]
   refine aA fun U2 u2=>?_
   walk_at "rd"
   refine⟨_,_,_,g _ _ hx,T.cl_Nights,T.n_Nights_many,_,jK _ _,m,rfl,fun q0 hq0=>⟨_,_,aj,by lia,by lia,by lia,by lia,fun l hl=>?_⟩⟩
   rw [show ((i:Int) + m + 1 - i).toNat=(m + 1).toNat by congr 1;lia]
   have g3:=(same_new hq0 (.rng i ((i:Int) + m + 1))).trans (same_new hl (.lst ((upto i (m + 1).toNat).map V.int)))
   have gl:(upto i (m + 1).toNat).length=(m + 1).toNat:=by unfold upto;rw [List.length_map,List.length_range]
   rw [u2];clear u2
   walk_at "rd"
   refine⟨.inl ⟨rfl,_,SqL.of (g3 _ _ ep)⟩,_,_,_,g3 _ _ (g _ _ hx),T.cl_Nights,T.n_Nights_hand,_,nW _ _,l,b,h,-1,_,_,rfl,aj,g3 _ _ eb,by lia,by lia,fun t ts H4 g4 et hts=>?_⟩
   have g5:=g3.trans g4
   refine⟨_,_,_,g5 _ _ (g _ _ hx),T.cl_Nights,T.n_Nights_many,_,jK _ _,m,rfl,by decide,fun u hu=>?_⟩
   have g6:=same_new hu (.tup [.ref t,.int (-m)])
   have g7:=g5.trans g6
   have nb:b≠p:=fun z=>by rw [z] at e1;rw [e1] at hp;cases hp
   refine⟨us,g7 _ _ ep,aW (by lia),aY (g1.free hp) (g.trans g7) _,by rw [aG nb];exact g7 _ _ eb,us ++ [.ref u],aj,?_⟩
   have eL:(dH h m d (np ps))[i]? = some ⟨spr h (upto i (m + 1).toNat) (np ps) (-1),-m⟩:=by
    unfold dH
    rw [List.getElem?_map,List.getElem?_range hi]
    rfl
   rw [bh eL]
   exact Lins.mono (bK (g7 _ _ ep)) (bz (hL.mono (aF g7)) ⟨u,t,ts,rfl,aj,g6 _ _ et,hts.mono (aF g6)⟩)
  ·rintro σ H' ⟨us,v4,v5,g,eb,ep,hL,rfl⟩
   rw [u1];clear u1
   walk_at "rd"
   rw [List.take_of_length_le (by unfold dH;rw [List.length_map,List.length_range];exact Nat.le_refl _)] at hL
   exact q p us H' g (g1.free hp) ep hL
noncomputable def Fl (_:PySem.W.Frag) (ζ:Cs):Sp:=fun vs H Q _=>∃ (x:Addr) (d:Int) (hs:List Int) (ps:List Pst) (j:Nat),vs=[.ref x,.int j]∧WardAt ζ.a H x d hs ps∧j≤ps.length∧Q (.int (hrs ps j)) H
theorem K8:aN ["self","post"] ["self","post"] (aq wj):=⟨rfl,rfl,rfl,k!,rfl,k!,k!⟩
theorem K9 {ζ:Cs} {f:Addr} {fd:FuncData} (F:Fun K "hours" "Ward.hours" wj f fd) (T:Txt K mg ζ) :bA P w K mg base CX0 1 f fd ["self","post"] (Fl K ζ):=by
 refine F.ok K8 (fun vs H Q E h=>?_) (fun cdv A outer s H vs Q E hr h=>?_)
 ·obtain⟨x,d,hs,ps,j,rfl,_⟩:=h
  rfl
 ·obtain⟨x,d,hs,ps,j,rfl,hW,hj,q⟩:=h
  refine⟨_,(@au _ _ _ _ _ (@bF _ _ _ _ _ _ _ _ (@aQ _ _ _ _ _ _ _ _ bZ (pv 1) ao (aR _)) (@az _ _ _ (@aK _ _ _ _ ao)) aX) (@az _ _ _ (@aK _ _ _ _ (@bc _ _ _ _ _ _ _ bI (@bc _ _ _ _ _ _ _ bI (aZ (pv 0) rfl) (@aD _ _ _ _ _ _ _ _ dz (pv 1) ao) (fun _ _=>rfl)) ao (fun _ _=>rfl))))),?_⟩
  obtain⟨dx,ha,pa,ts,h1,h2,h3,h4⟩:=hW.ex
  walk_at "rd"
  cases j with
  | zero =>
   rw [if_pos (by simp)]
   exact q
  | succ k =>
   rw [if_neg (by omega)]
   have hk:k < ps.length:=by lia
   obtain⟨t,e1,ht⟩:=h4.get (List.getElem?_eq_getElem hk)
   refine⟨_,_,_,h1,T.cl_Ward,T.n_Ward_posts,_,gn _ _ _,_,rfl,_,SqT.of h3,_,by rw [show ((k + 1:Nat):Int) - 1=(k:Nat) by lia];exact cY e1,_,rfl,_,SqT.of ht,_,rfl,?_⟩
   have e:hrs ps (k + 1)=ps[k].2.1:=by simp [hrs,hk]
   rw [e] at q
   exact q
noncomputable def Fo (K:PySem.W.Frag) (ζ:Cs):Sp:=fun vs H Q _=>∃ (x dx y:Addr) (h l m d n:Int) (hs:List Int) (ps:List Pst),vs=[.ref x,.ref y,.int n]∧H x=some (.ins ζ.f dx (qf3 h l m))∧WardAt ζ.a H y d hs ps∧Ok d hs ps∧-1≤n∧n≤1 ∧
 ∀t ts H',Same H H'→H' t=some (.tup ts)→Prts H' ts (byH h ps d.toNat n)→Q (.ref t) H'
theorem zag_:aN ["self","ward","times","parts","post"] ["self","ward","times"] (aq zt_):=⟨rfl,rfl,rfl,k!,rfl,k!,k!⟩
theorem La {ζ:Cs} {f:Addr} {fd:FuncData} (F:Fun K "by_hours" "Hours.by_hours" zt_ f fd) (T:Txt K mg ζ) (zc_:Cal P w K mg base "all_posts" ["ward"] 1 (zy_ K ζ)) (zk_:Cal P w K mg base "spread" ["hand","days","posts","number"] 1 (sr K ζ)) (zcE_:cU P w K mg base ζ.a "hours" ["self","post"] 1 (Fl K ζ)):bA P w K mg base CX0 2 f fd ["self","ward","times"] (Fo K ζ):=by
 refine F.ok zag_ (fun vs H Q E h=>?_) (fun cdv A outer s H vs Q E hr h=>?_)
 ·obtain⟨x,dx,y,h,l,m,d,n,hs,ps,rfl,_⟩:=h
  rfl
 ·obtain⟨x,dx,y,h,l,m,d,n,hs,ps,rfl,hx,hW,ok,n0,n1,q⟩:=h
  refine⟨_,(@au _ _ _ _ _ (aV (i:=3) zag_.nd rfl (Or.inl rfl) (@aP _ _ _ _ _ ak)) (@au _ _ _ _ _ (bN PassesOwn.never rfl (bQ (aM zc_ (hr.mono (by decide)) rfl (@aa _ _ _ _ _ (pv 1) ak (by rfl)))) (aB (i:=4) zag_.nd rfl (Or.inl rfl))
   (@az _ _ _ (aV (i:=3) zag_.nd rfl (Or.inl rfl) (@aD _ _ _ _ _ _ _ _ Ai (pv 3) (aM zk_ (hr.mono (by decide)) rfl (@aa _ _ _ _ _ (aZ (pv 0) rfl) (@aa _ _ _ _ _ (bG (fu rfl) (by rfl) T.list PyProof.Rows.boot_list (@aa _ _ _ _ _ (bG eO (by rfl) T.range PyProof.Rows.boot_range (@aa _ _ _ _ _ (aZ (pv 1) rfl) ak (by rfl))) ak (by rfl))) (@aa _ _ _ _ _ (@bw _ _ _ _ (@aa _ _ _ _ _ (pv 4) ak (by rfl))) (@aa _ _ _ _ _ (@aD _ _ _ _ _ _ _ _ cZ (bT zcE_ (hr.mono (by decide)) (pv 1) (@aa _ _ _ _ _ (pv 4) ak (by rfl))) (pv 2)) ak (by rfl)) (by rfl)) (by rfl)) (by rfl))))))) (@az _ _ _ (@aK _ _ _ _ (pv 3))))),?_⟩
  have od1:=ok.d1
  have od2:=ok.d2
  have opl:=ok.pl
  have hal:=dI ps
  refine aA fun U1 u1=>?_
  walk_at "rd"
  refine⟨Nat.zero_le _,fun p0 hp0=>?_⟩
  have g0:=same_new hp0 (.tup [])
  rw [u1];clear u1
  refine aA fun U1 u1=>bU fun B1 b1=>?_
  walk_at "rd"
  refine⟨y,d,hs,ps,rfl,hW.mono g0,opl,fun b2 H2 ⟨g2,f2,e2⟩=>?_⟩
  have g02:=g0.trans g2
  walk_at "rd"
  refine⟨⟨_,SqL.of e2⟩,bB (xs:=(cH ps).map V.int) (fun i σ H'=>∃ (t:Addr) (ts:List V) (v4:Option V),Same H2 H'∧H' t=some (.tup ts)∧Prts H' ts (byI h ps d.toNat n i)∧σ=[some (.ref x),some (.ref y),some (.int n),some (.ref t),v4]) ⟨p0,[],none,Same.refl _,g2 _ _ aj,.nil,rfl⟩ (fun i σ H' _ ⟨_,_,_,g,_⟩=>SqL.of (g _ _ e2)) ?_ ?_⟩
  ·rintro i v σ H' hv ⟨t,ts,v4,g,e,hP,rfl⟩
   obtain⟨z,hz,rfl⟩:=mD hv
   have hi:i < ps.length:=by have:=(List.getElem?_eq_some_iff.mp hz).1;lia
   have hzv:z=1 + (i:Int):=by
    unfold cH upto at hz
    rw [List.getElem?_map,List.getElem?_range hi] at hz
    exact (Option.some.inj hz).symm
   subst hzv
   have htl:=Paired.length hP
   rw [tQ] at htl
   have hb1:i * d.toNat≤6 * 31:=Nat.mul_le_mul (by lia) (by lia)
   have ga:=g02.trans g
   rw [b1]
   walk_at "rd"
   have hWa:=hW.mono ga
   obtain⟨dy,ha,pa,ts0,h1,h2,h3,h4⟩:=hWa.ex
   refine⟨_,_,_,ga _ _ hx,T.cl_Hours,T.n_Hours_hand,_,kh _ _ _,_,_,_,h1,T.cl_Ward,T.n_Ward_days,_,eZ _ _ _,d,rfl,fun c1 hc1=>⟨d,aj,by lia,by lia,fun c2 hc2=>⟨by decide,fun c3 hc3=>?_⟩⟩⟩
   have w1:=same_new hc1 (.rng 0 d)
   have w2:=same_new hc2 (.lst (((List.range d.toNat).map fun i:Nat=>(i:Int)).map V.int))
   have w3:=same_new hc3 (.lst [.int (1 + (i:Int))])
   have w:=w1.trans (w2.trans w3)
   refine⟨_,_,w _ _ h1,BX _ _ _ k! k! k!,y,d,hs,ps,i + 1,(by rw [show (1 + (i:Int))=((i + 1:Nat):Int) by lia]),hWa.mono w,by lia,?_⟩
   have hb:=DW ok.p (i + 1)
   refine⟨_,rfl,by unfold CMul;omega,c2,c3,h,hrs ps (i + 1) * n,upto 0 d.toNat,[1 + (i:Int)],rfl,?_,aj,by rw [gG];lia,by simp,fun t2 ts2 H3 g3 e3 P3=>?_⟩
   ·rw [show upto 0 d.toNat=(List.range d.toNat).map fun i:Nat=>(i:Int) by unfold upto;exact List.map_congr_left fun k _=>by lia]
    exact w3 _ _ aj
   have wg:=w.trans g3
   have hl2:=Paired.length P3
   rw [cR,gG] at hl2
   refine⟨t2,rfl,ts,wg _ _ e,ts2,e3,dO (by simp only [List.length_singleton,Nat.mul_one] at hl2;lia),fun t' H4 g4 e4=>⟨g.trans (wg.trans g4),t',_,e4,?_,rfl⟩⟩
   rw [pX]
   refine iy (hP.mono (aF (wg.trans g4))) ?_
   rw [show hrV ps (1 + (i:Int))=hrs ps (i + 1) by unfold hrV;rw [show (1 + (i:Int)).toNat=i + 1 by lia]]
   exact P3.mono (aF g4)
  ·rintro σ H' ⟨t,ts,v4,g,e,hP,rfl⟩
   rw [u1];clear u1
   walk_at "rd"
   rw [List.length_map,dI] at hP
   exact q t ts H' (g02.trans g) e hP
noncomputable def Fp (K:PySem.W.Frag) (ζ:Cs):Sp:=fun vs H Q _=>∃ (x dx y:Addr) (h l m d:Int) (hs:List Int) (ps:List Pst),vs=[.ref x,.ref y]∧H x=some (.ins ζ.f dx (qf3 h l m))∧WardAt ζ.a H y d hs ps∧Ok d hs ps ∧
 ∀r us H',Same H H'→H r=none→H' r=some (.lst us)→Lins H' us [⟨byH h ps d.toNat 1,l⟩,⟨byH h ps d.toNat (-1),-m⟩]→Q (.ref r) H'
theorem Lb:aN ["self","ward"] ["self","ward"] (aq zT_):=⟨rfl,rfl,rfl,k!,rfl,k!,k!⟩
theorem Ld {ζ:Cs} {f:Addr} {fd:FuncData} (F:Fun K "lines" "Hours.lines" zT_ f fd) (T:Txt K mg ζ) (zaw_:cU P w K mg base ζ.f "by_hours" ["self","ward","times"] 2 (Fo K ζ)):bA P w K mg base CX0 3 f fd ["self","ward"] (Fp K ζ):=by
 refine F.ok Lb (fun vs H Q E h=>?_) (fun cdv A outer s H vs Q E hr h=>?_)
 ·obtain⟨x,dx,y,h,l,m,d,hs,ps,rfl,_⟩:=h
  rfl
 ·obtain⟨x,dx,y,h,l,m,d,hs,ps,rfl,hx,hW,ok,q⟩:=h
  refine⟨_,(@az _ _ _ (@aK _ _ _ _ (@bw _ _ _ _ (@aa _ _ _ _ _ (@aP _ _ _ _ _ (@aa _ _ _ _ _ (bT zaw_ (hr.mono (by decide)) (pv 0) (@aa _ _ _ _ _ (pv 1) (@aa _ _ _ _ _ ao ak (by rfl)) (by rfl))) (@aa _ _ _ _ _ (aZ (pv 0) rfl) ak (by rfl)) (by rfl))) (@aa _ _ _ _ _ (@aP _ _ _ _ _ (@aa _ _ _ _ _ (bT zaw_ (hr.mono (by decide)) (pv 0) (@aa _ _ _ _ _ (pv 1) (@aa _ _ _ _ _ (@cW _ _ _ _ _ _ cz ao) ak (by rfl)) (by rfl))) (@aa _ _ _ _ _ (@cW _ _ _ _ _ _ cz (aZ (pv 0) rfl)) ak (by rfl)) (by rfl))) ak (by rfl)) (by rfl))))),?_⟩
  walk_at "rd"
  refine⟨_,_,hx,ou _ _ _ k! k! k!,x,dx,y,h,l,m,d,1,hs,ps,rfl,hx,hW,ok,by decide,by decide,fun t1 ts1 H1 g1 e1 P1=>?_⟩
  refine⟨_,_,_,g1 _ _ hx,T.cl_Hours,T.n_Hours_least,_,mG _ _ _,by decide,fun u1 hu1=>?_⟩
  have s1:=same_new hu1 (.tup [.ref t1,.int l])
  have gA:=g1.trans s1
  refine⟨_,_,gA _ _ hx,ou _ _ _ k! k! k!,x,dx,y,h,l,m,d,-1,hs,ps,rfl,gA _ _ hx,hW.mono gA,ok,by decide,by decide,fun t2 ts2 H2 g2 e2 P2=>?_⟩
  have gB:=gA.trans g2
  refine⟨_,_,_,gB _ _ hx,T.cl_Hours,T.n_Hours_most,_,pY _ _ _,m,rfl,by decide,fun u2 hu2=>⟨by decide,fun r hr=>?_⟩⟩
  have s2:=same_new hu2 (.tup [.ref t2,.int (-m)])
  have s3:=same_new hr (.lst [.ref u1,.ref u2])
  have s23:=s2.trans s3
  exact q r _ _ (gB.trans s23) ((gB.trans s2).free hr) aj (.cons ⟨u1,t1,ts1,rfl,(g2.trans s23) _ _ aj,(s1.trans (g2.trans s23)) _ _ e1,P1.mono (aF (s1.trans (g2.trans s23)))⟩ (.cons ⟨u2,t2,ts2,rfl,s3 _ _ aj,s23 _ _ e2,P2.mono (aF s23)⟩ .nil))
noncomputable def Fq (K:PySem.W.Frag) (ζ:Cs):Sp:=fun vs H Q _=>∃ (t:Addr) (h o n:Int) (q:Int×Int),vs=[.int h,.int o,.ref t,.int n]∧H t=some (.tup [.int q.1,.int q.2])∧∀u ts H',Same H H'→H' u=some (.tup ts)→Prts H' ts [⟨h,q.1,q.2,-1⟩,⟨o,q.1,q.2,n⟩]→Q (.ref u) H'
theorem Le:aN ["hand","other","place","number"] ["hand","other","place","number"] (aq vY):=⟨rfl,rfl,rfl,k!,rfl,k!,k!⟩
theorem Lf {ζ:Cs} {f:Addr} {fd:FuncData} (F:Fun K "two_parts" "two_parts" vY f fd) (T:Txt K mg ζ) :bA P w K mg base CX0 1 f fd ["hand","other","place","number"] (Fq K ζ):=by
 refine F.ok Le (fun vs H Q E h=>?_) (fun cdv A outer s H vs Q E hr h=>?_)
 ·obtain⟨t,h,o,n,q,rfl,_⟩:=h
  rfl
 ·obtain⟨t,h,o,n,c,rfl,ht,q⟩:=h
  refine⟨_,(@az _ _ _ (@aK _ _ _ _ (@aP _ _ _ _ _ (@aa _ _ _ _ _ (@aP _ _ _ _ _ (@aa _ _ _ _ _ (pv 0) (@aa _ _ _ _ _ (@bc _ _ _ _ _ _ _ bI (pv 2) ao (fun _ _=>rfl)) (@aa _ _ _ _ _ (@bc _ _ _ _ _ _ _ bI (pv 2) ao (fun _ _=>rfl)) (@aa _ _ _ _ _ (@cW _ _ _ _ _ _ cz ao) ak (by rfl)) (by rfl)) (by rfl)) (by rfl))) (@aa _ _ _ _ _ (@aP _ _ _ _ _ (@aa _ _ _ _ _ (pv 1) (@aa _ _ _ _ _ (@bc _ _ _ _ _ _ _ bI (pv 2) ao (fun _ _=>rfl)) (@aa _ _ _ _ _ (@bc _ _ _ _ _ _ _ bI (pv 2) ao (fun _ _=>rfl)) (@aa _ _ _ _ _ (pv 3) ak (by rfl)) (by rfl)) (by rfl)) (by rfl))) ak (by rfl)) (by rfl))))),?_⟩
  walk_at "rd"
  refine⟨_,SqT.of ht,.int c.1,rfl,_,SqT.of ht,.int c.2,rfl,by decide,fun p1 hp1=>?_⟩
  have g1:=same_new hp1 (.tup [.int h,.int c.1,.int c.2,.int (-1)])
  refine⟨_,SqT.of (g1 _ _ ht),.int c.1,rfl,_,SqT.of (g1 _ _ ht),.int c.2,rfl,by decide,fun p2 hp2=>⟨by decide,fun p3 hp3=>?_⟩⟩
  have g2:=same_new hp2 (.tup [.int o,.int c.1,.int c.2,.int n])
  have g3:=same_new hp3 (.tup [.ref p1,.ref p2])
  exact q p3 _ _ (g1.trans (g2.trans g3)) aj (.cons ⟨p1,rfl,(g2.trans g3) _ _ aj⟩ (.cons ⟨p2,rfl,g3 _ _ aj⟩ .nil))
noncomputable def Ft (K:PySem.W.Frag) (ζ:Cs):Sp:=fun vs H Q _=>∃ (y:Addr) (d:Int) (hs:List Int) (ps:List Pst),vs=[.ref y]∧WardAt ζ.a H y d hs ps∧Ok d hs ps∧∀r ts H',Same H H'→H r=none→H' r=some (.lst ts)→Cells H' ts (jo ps.length d.toNat)→Q (.ref r) H'
theorem zdx_:aN ["ward","told","day"] ["ward"] (aq vX):=⟨rfl,rfl,rfl,k!,rfl,k!,k!⟩
theorem Lg {ζ:Cs} {f:Addr} {fd:FuncData} (F:Fun K "places" "places" vX f fd) (T:Txt K mg ζ) (zc_:Cal P w K mg base "all_posts" ["ward"] 1 (zy_ K ζ)):bA P w K mg base CX0 2 f fd ["ward"] (Ft K ζ):=by
 refine F.ok zdx_ (fun vs H Q E h=>?_) (fun cdv A outer s H vs Q E hr h=>?_)
 ·obtain⟨y,d,hs,ps,rfl,_⟩:=h
  rfl
 ·obtain⟨y,d,hs,ps,rfl,hW,ok,q⟩:=h
  refine⟨_,(@au _ _ _ _ _ (aV (i:=1) zdx_.nd rfl (Or.inl rfl) (@bw _ _ _ _ ak)) (@au _ _ _ _ _ (bN PassesOwn.never rfl (bM rfl T.range (@aa _ _ _ _ _ (aZ (pv 0) rfl) ak (by rfl))) (aB (i:=2) zdx_.nd rfl (Or.inr rfl))
   (@az _ _ _ (bY (d7 PySem.F.plainAttrs_list PySem.F.slot_list_extend PySem.F.type_list_extend jm (pv 1) (@aa _ _ _ _ _ (cB (own:=["post"]) (fnames:=["day"]) (fr:=[2]) (N':=["post","day"]) ⟨rfl,rfl,rfl,rfl,rfl,rfl,rfl⟩ rfl (bQ (aM zc_ (hr.mono (by decide)) rfl (@aa _ _ _ _ _ (pv 0) ak (by rfl)))) (fun s0 H0 fp0 C0=>⟨(aB (i:=0) (by show (["post","day"]:List Str).Nodup;decide +kernel) rfl (Or.inl rfl)),cu,(@aP _ _ _ _ _ (@aa _ _ _ _ _ (pv 1) (@aa _ _ _ _ _ (pv 0) ak (by rfl)) (by rfl)))⟩)) ak (by rfl)))))) (@az _ _ _ (@aK _ _ _ _ (pv 1))))),?_⟩
  have od1:=ok.d1
  have od2:=ok.d2
  have opl:=ok.pl
  refine aA fun U1 u1=>?_
  walk_at "rd"
  refine⟨Nat.zero_le _,fun p hp=>?_⟩
  have g0:=same_new hp (.lst [])
  rw [u1];clear u1
  obtain⟨dy,ha,pa,ts0,h1,h2,h3,h4⟩:=hW.ex
  refine aA fun U1 u1=>bU fun B1 b1=>?_
  walk_at "rd"
  refine⟨_,_,_,g0 _ _ h1,T.cl_Ward,T.n_Ward_days,_,eZ _ _ _,d,rfl,by omega,by omega,bH (fun i σ H'=>∃ (ts:List V) (v2:Option V),Same H H'∧H' p=some (.lst ts)∧Cells H' ts (jo ps.length i)∧σ=[some (.ref y),some (.ref p),v2]) ⟨[],none,g0,aj,.nil,rfl⟩ ?_ ?_⟩
  ·rintro i σ H' hi ⟨ts,v2,g,e,hC,rfl⟩
   rw [show (0 + (i:Int))=i by omega]
   have htl:=hC.len
   have hcl:(jo ps.length i).length≤186:=by rw [gJ];exact Nat.mul_le_mul (show i≤31 by omega) opl
   rw [b1]
   walk_at "rd"
   refine⟨.inl ⟨rfl,_,SqL.of e⟩,y,d,hs,ps,rfl,hW.mono g,opl,fun l H1 ⟨g1,f1,e1⟩=>?_⟩
   have hal:(cH ps).length=ps.length:=dI ps
   walk_at "rd"
   refine⟨⟨_,SqL.of e1⟩,fun D hD=>bB (xs:=(cH ps).map V.int) (fun j σ H2=>∃ (us:List V) (v0:Option V),Same H1 H2∧H2 D=some (.lst us)∧Cells H2 us (((cH ps).take j).map fun p=>((i:Int),p))∧σ=[v0,some (.int i)]) ⟨[],none,same_new hD _,aj,.nil,rfl⟩ (fun j σ H2 _ ⟨_,_,g,_⟩=>SqL.of (g _ _ e1)) ?_ ?_⟩
   ·rintro j v σ H2 hv ⟨us,v0,g2,e2,hU,rfl⟩
    rw [List.getElem?_map] at hv
    obtain⟨z,hz,rfl⟩:=Option.map_eq_some_iff.mp hv
    have hul:=hU.len
    rw [List.length_map,List.length_take] at hul
    walk_at "rd"
    refine⟨by decide,fun t ht=>?_⟩
    have gt:=same_new ht (.tup [.int (i:Int),.int z])
    refine⟨us,gt _ _ e2,aW (by omega),aY hD (g2.trans gt) _,_,aj,?_⟩
    rw [bh hz,List.map_append]
    exact Cells.tmono (bK (gt _ _ e2)) (Cells.snoc (hU.mono gt) ⟨t,rfl,aj⟩)
   rintro σ H2 ⟨us,v0,g2,e2,hU,rfl⟩
   rw [List.length_map,List.take_length] at hU
   have g12:=g1.trans g2
   have hul:=hU.len
   rw [List.length_map] at hul
   walk_at "rd"
   refine⟨ts,g12 _ _ e,us,e2,dO (by omega),aY hp (g.trans g12) _,_,aj,?_⟩
   rw [jq]
   exact Cells.tmono (bK (g12 _ _ e)) (iy (hC.mono g12) hU)
  rintro σ H' ⟨ts,v2,g,e,hC,rfl⟩
  rw [u1];clear u1
  walk_at "rd"
  exact q p ts H' g hp e hC
noncomputable def Fv (K:PySem.W.Frag) (ζ:Cs):Sp:=fun vs H Q _=>∃ (x dx y:Addr) (h o d:Int) (hs:List Int) (ps:List Pst),vs=[.ref x,.ref y]∧H x=some (.ins ζ.h dx (ho h o))∧WardAt ζ.a H y d hs ps∧Ok d hs ps ∧
 ∀r us H',Same H H'→H r=none→H' r=some (.lst us)→Lins H' us (fW h o (-1) (-1) ps.length d.toNat)→Q (.ref r) H'
theorem Lh:aN ["self","ward"] ["self","ward"] (aq zU_):=⟨rfl,rfl,rfl,k!,rfl,k!,k!⟩
theorem Li {ζ:Cs} {f:Addr} {fd:FuncData} (F:Fun K "lines" "Apart.lines" zU_ f fd) (T:Txt K mg ζ) (zdc_:Cal P w K mg base "two_parts" ["hand","other","place","number"] 1 (Fq K ζ)) (zdX_:Cal P w K mg base "places" ["ward"] 2 (Ft K ζ)):bA P w K mg base CX0 3 f fd ["self","ward"] (Fv K ζ):=by
 refine F.ok Lh (fun vs H Q E h=>?_) (fun cdv A outer s H vs Q E hr h=>?_)
 ·obtain⟨x,dx,y,h,o,d,hs,ps,rfl,_⟩:=h
  rfl
 ·obtain⟨x,dx,y,h,o,d,hs,ps,rfl,hx,hW,ok,q⟩:=h
  refine⟨_,(@az _ _ _ (@aK _ _ _ _ (cB (own:=["place"]) (fnames:=["self"]) (fr:=[0]) (N':=["place","self"]) ⟨rfl,rfl,rfl,rfl,rfl,rfl,rfl⟩ rfl (bQ (aM zdX_ (hr.mono (by decide)) rfl (@aa _ _ _ _ _ (pv 1) ak (by rfl)))) (fun s0 H0 fp0 C0=>⟨(aB (i:=0) (by show (["place","self"]:List Str).Nodup;decide +kernel) rfl (Or.inl rfl)),cu,(@aP _ _ _ _ _ (@aa _ _ _ _ _ (aM zdc_ (hr.mono (by decide)) rfl (@aa _ _ _ _ _ (gU (K:=K) rfl (pv 1) rfl) (@aa _ _ _ _ _ (gU (K:=K) rfl (pv 1) rfl) (@aa _ _ _ _ _ (pv 0) (@aa _ _ _ _ _ (@cW _ _ _ _ _ _ cz ao) ak (by rfl)) (by rfl)) (by rfl)) (by rfl))) (@aa _ _ _ _ _ (@cW _ _ _ _ _ _ cz ao) ak (by rfl)) (by rfl)))⟩)))),?_⟩
  have od1:=ok.d1
  have od2:=ok.d2
  have opl:=ok.pl
  have hcl:(jo ps.length d.toNat).length≤186:=by rw [gJ];exact Nat.mul_le_mul (show d.toNat≤31 by omega) opl
  walk_at "rd"
  refine⟨y,d,hs,ps,rfl,hW,ok,fun p ts H1 g1 hp e1 C1=>?_⟩
  have htl:=C1.len
  walk_at "rd"
  refine⟨⟨_,SqL.of e1⟩,fun D hD=>bB (xs:=ts) (fun i σ H'=>∃ (us:List V) (v0:Option V),Same H1 H'∧H' D=some (.lst us)∧Lins H' us (((jo ps.length d.toNat).take i).map (pN h o (-1) (-1)))∧σ=[v0,some (.ref x)]) ⟨[],none,same_new hD _,aj,.nil,rfl⟩ (fun i σ H' _ ⟨_,_,g,_⟩=>SqL.of (g _ _ e1)) ?_ ?_⟩
  ·rintro i v σ H' hv ⟨us,v0,g,e,hL,rfl⟩
   obtain⟨qc,hqc,tc,rfl,htc⟩:=C1.get' hv
   have hul:=Paired.length hL
   rw [List.length_map,List.length_take] at hul
   have ga:=g1.trans g
   walk_at "rd"
   refine⟨_,_,_,ga _ _ hx,T.cl_Apart,T.n_Apart_hand,_,nY _ _,_,_,_,ga _ _ hx,T.cl_Apart,T.n_Apart_other,_,pM _ _,tc,h,o,-1,qc,rfl,g _ _ htc,fun t ts2 H2 g2 et hts=>⟨by decide,fun u hu=>?_⟩⟩
   have gu:=same_new hu (.tup [.ref t,.int (-1)])
   have g3:=g2.trans gu
   refine⟨us,g3 _ _ e,aW (by omega),aY hD (g.trans g3) _,_,aj,?_⟩
   rw [bh hqc,List.map_append]
   exact Lins.mono (bK (g3 _ _ e)) (bz (hL.mono (aF g3)) ⟨u,t,ts2,rfl,aj,gu _ _ et,hts.mono (aF gu)⟩)
  rintro σ H' ⟨us,v0,g,e,hL,rfl⟩
  rw [htl,List.take_length] at hL
  exact q D us H' (g1.trans g) (g1.free hD) e hL
noncomputable def Fw (K:PySem.W.Frag) (ζ:Cs):Sp:=fun vs H Q _=>∃ (x dx y a:Addr) (d:Int) (hs:List Int) (ps:List Pst) (us:List V) (ss:List Sp4),vs=[.ref x,.ref y,.ref a]∧H x=some (.ins ζ.b dx [])∧WardAt ζ.a H y d hs ps∧Ok d hs ps∧H a=some (.lst us)∧Ruls (clsOf ζ.c ζ.d ζ.e ζ.g ζ.i ζ.f ζ.h) ps.length H us ss∧(∀s∈ss,jr d hs.length ps.length s)∧ss.length≤120∧∀H',(∀c o,H c=some o→c≠x→H' c=some o)→TermsAt ζ.b ζ.a H' x d hs ps (ss.map (cI d.toNat hs.length ps))→Q .non H'
theorem Lj:aN ["self","ward","rules"] ["self","ward","rules"] (aq zv_):=⟨rfl,rfl,rfl,k!,rfl,k!,k!⟩
theorem Lk {ζ:Cs} {f:Addr} {fd:FuncData} (F:Fun K "__init__" "Terms.__init__" zv_ f fd) (T:Txt K mg ζ) (zcG_:Cal P w K mg base "need_rules" ["ward","rules"] 4 (Ey K ζ)) (zcH_:cU P w K mg base ζ.c "lines" ["self","ward"] 1 (Ez K ζ)) (zcI_:cU P w K mg base ζ.d "lines" ["self","ward"] 4 (Fd K ζ)) (zcj_:cU P w K mg base ζ.e "lines" ["self","ward"] 4 (Fe K ζ)) (zcJ_:cU P w K mg base ζ.g "lines" ["self","ward"] 4 (Ff K ζ)) (zbR_:cU P w K mg base ζ.i "lines" ["self","ward"] 3 (Fj K ζ)) (zck_:cU P w K mg base ζ.f "lines" ["self","ward"] 3 (Fp K ζ)) (zcl_:cU P w K mg base ζ.h "lines" ["self","ward"] 3 (Fv K ζ)):bA P w K mg base CX0 5 f fd ["self","ward","rules"] (Fw K ζ):=by
 refine F.ok Lj (fun vs H Q E h=>?_) (fun cdv A outer s H vs Q E hr h=>?_)
 ·obtain⟨x,dx,y,a,d,hs,ps,us,ss,rfl,_⟩:=h
  rfl
 ·obtain⟨x,dx,y,a,d,hs,ps,us,ss,rfl,hx,hW,okw,ha,hU,ok,h120,q⟩:=h
  refine⟨_,(@au _ _ _ _ _ (bY (aM zcG_ (hr.mono (by decide)) rfl (@aa _ _ _ _ _ (pv 1) (@aa _ _ _ _ _ (pv 2) ak (by rfl)) (by rfl)))) (@au _ _ _ _ _ (cA (pv 0) (pv 1) rfl) (@au _ _ _ _ _ (cA (pv 0) (bG (cQ (K:=K) rfl) (by rfl) T.tuple PyProof.Rows.boot_tuple (@aa _ _ _ _ _ (pv 2) ak (by rfl))) rfl) (@az _ _ _ (cA (pv 0) (bG (cQ (K:=K) rfl) (by rfl) T.tuple PyProof.Rows.boot_tuple (@aa _ _ _ _ _ (cB (own:=["rule"]) (fnames:=["ward"]) (fr:=[1]) (N':=["rule","ward"]) ⟨rfl,rfl,rfl,rfl,rfl,rfl,rfl⟩ rfl (bQ (pv 2)) (fun s0 H0 fp0 C0=>⟨(aB (i:=0) (by show (["rule","ward"]:List Str).Nodup;decide +kernel) rfl (Or.inl rfl)),cu,(bG (cQ (K:=K) rfl) (by rfl) T.tuple PyProof.Rows.boot_tuple (@aa _ _ _ _ _ (dY (bT zcH_ (hr.mono (by decide)) (pv 0) (@aa _ _ _ _ _ (pv 1) ak (by rfl))) (dY (bT zcI_ (hr.mono (by decide)) (pv 0) (@aa _ _ _ _ _ (pv 1) ak (by rfl))) (dY (bT zcj_ (hr.mono (by decide)) (pv 0) (@aa _ _ _ _ _ (pv 1) ak (by rfl))) (dY (bT zcJ_ (hr.mono (by decide)) (pv 0) (@aa _ _ _ _ _ (pv 1) ak (by rfl))) (dY (bT zbR_ (hr.mono (by decide)) (pv 0) (@aa _ _ _ _ _ (pv 1) ak (by rfl))) (dY (bT zck_ (hr.mono (by decide)) (pv 0) (@aa _ _ _ _ _ (pv 1) ak (by rfl))) (bT zcl_ (hr.mono (by decide)) (pv 0) (@aa _ _ _ _ _ (pv 1) ak (by rfl))))))))) ak (by rfl)))⟩)) ak (by rfl))) rfl))))),?_⟩
  have hul:=Paired.length hU
  refine aA fun U1 u1=>?_
  walk_at "rd"
  refine⟨y,a,d,hs,ps,us,ss,rfl,hW,ha,hU,ok,h120,fun H1 g1=>?_⟩
  rw [u1];clear u1
  walk_at "rd"
  have hx1:=g1 _ _ hx
  have ha1:=g1 _ _ ha
  have hW1:=hW.mono g1
  have hU1:=Ruls.mono g1 hU
  have nax:a≠x:=fun z=>by rw [z,hx1] at ha1;cases ha1
  refine⟨_,_,_,hx1,T.cl_Terms,T.n_Terms_ward,by decide,us,SqL.of (by rw [aG nax];exact ha1),fun l hl=>?_⟩
  have nlx:l≠x:=fun z=>by rw [z,aj] at hl;cases hl
  have hl1:H1 l=none:=by rw [aG nlx] at hl;exact hl
  refine⟨ζ.b,dx,bR "ward" (.ref y) [],by rw [aG nlx.symm,aj],T.cl_Terms,T.n_Terms_rules,Nat.lt_of_le_of_lt (bf _ _ _) (by show 1 < 1000;decide),?_⟩
  have fr4:∀c o,H1 c=some o→c≠x→upd (upd (upd H1 x (.ins ζ.b dx (bR "ward" (.ref y) []))) l (.tup us)) x (.ins ζ.b dx (bR "rules" (.ref l) (bR "ward" (.ref y) []))) c=some o:=fun c o e n=>by
   rw [aG n,aG (aH e hl1),aG n]
   exact e
  have ex4:=aj (H:=upd (upd H1 x (.ins ζ.b dx (bR "ward" (.ref y) []))) l (.tup us)) (a:=x) (o:=.ins ζ.b dx (bR "rules" (.ref l) (bR "ward" (.ref y) [])))
  have el4:upd (upd (upd H1 x (.ins ζ.b dx (bR "ward" (.ref y) []))) l (.tup us)) x (.ins ζ.b dx (bR "rules" (.ref l) (bR "ward" (.ref y) []))) l=some (.tup us):=by rw [aG nlx,aj]
  generalize upd (upd (upd H1 x (.ins ζ.b dx (bR "ward" (.ref y) []))) l (.tup us)) x (.ins ζ.b dx (bR "rules" (.ref l) (bR "ward" (.ref y) [])))=H4 at fr4 ex4 el4 ⊢
  have nx:∀ {c:Addr} {C:Addr} {dd:Addr} {fs:List (Str×V)},H1 c=some (.ins C dd fs)→fs≠[]→c≠x:=fun e n z=>by rw [z,hx1] at e;cases e;exact n rfl
  have ha4:=fr4 _ _ ha1 nax
  refine⟨⟨_,SqL.of ha4⟩,fun D hD=>bB (xs:=us) (fun i σ H'=>SumI H4 D (ss.map (cI d.toNat hs.length ps)) i H'∧∃v0,σ=[v0,some (.ref y)]) ⟨SumI.start hD,none,rfl⟩ (fun i σ H' _ hh=>SqL.of (hh.1.same _ _ ha4)) ?_ ?_⟩
  ·rintro i v σ H' hv ⟨sI,v0,rfl⟩
   obtain⟨s,hsp,xr,dr,rfl,qx⟩:=Paired.get' hU1 hv
   have okS:=ok s (List.mem_of_getElem? hsp)
   have hi:=(List.getElem?_eq_some_iff.mp hsp).1
   have qx2:=sI.same _ _ (fr4 _ _ qx (nx qx (uQ _ _)))
   have hW2:WardAt ζ.a H' y d hs ps:=by
    obtain⟨dw,wa,pa,ts,w1,w2,w3,w4⟩:=hW1.ex
    have f5:∀c xs,H1 c=some (.tup xs)→H' c=some (.tup xs):=fun c xs e=>sI.same _ _ (fr4 _ _ e fun z=>by rw [z,hx1] at e;cases e)
    exact⟨dw,wa,pa,ts,sI.same _ _ (fr4 _ _ w1 (nx w1 (fun z=>by have:=eZ d wa pa;rw [z] at this;cases this))),f5 _ _ w2,f5 _ _ w3,Posts.tmono f5 w4⟩
   have lr:(ss.map (cI d.toNat hs.length ps))[i]? = some (cI d.toNat hs.length ps s):=by rw [List.getElem?_map,hsp];rfl
   have fin:∀ (p:Addr) (ul:List V) (H5:Hp),Same H' H5→H5 p=some (.lst ul)→Lins H5 ul (cI d.toNat hs.length ps s)→∃q,V.ref p=V.ref q∧∃x4,SqL K H5 q x4∧∀l,H5 l=none→∃xs,upd H5 l (.tup x4) D=some (.lst xs)∧xs.length < sizeLine∧SumI H4 D (ss.map (cI d.toNat hs.length ps)) (i + 1) (upd (upd H5 l (.tup x4)) D (.lst (xs ++ [.ref l]))):=fun p ul H5 g5 ep hL=>⟨p,rfl,ul,SqL.of ep,fun l hl=>sI.step hD (by lia) g5 lr hl hL⟩
   have dd:=Int.toNat_of_nonneg (show 0≤d by have:=okw.d1;lia)
   have k6:=okS.k6
   walk_at "rd"
   obtain hk | hk | hk | hk | hk | hk | hk:s.k=0∨s.k=1∨s.k=2∨s.k=3∨s.k=4∨s.k=5∨s.k=6:=by lia
   ·have e:=Cp hk qx2
    rw [tU hk] at fin
    exact .inl ⟨_,_,e,yh _ _ _ k! k! k!,xr,dr,y,_,_,_,d,hs,ps,rfl,e,hW2,okw.hl,fun r ul H5 g5 _ er hL=>fin r ul H5 g5 er hL⟩
   ·have e:=Cq hk qx2
    obtain⟨b1,b2⟩:=okS.b (by lia)
    rw [tV hk] at fin
    exact .inr (.inl ⟨_,_,e,oh _ _ _ k! k! k!,xr,dr,y,_,_,d,s.b.toNat,hs,ps,rfl,by rw [Int.toNat_of_nonneg b1];exact e,hW2,okw,by lia,fun r ul H5 g5 _ er hL=>fin r ul H5 g5 er hL⟩)
   ·have e:=Cr hk qx2
    obtain⟨b1,b2⟩:=okS.b (by lia)
    rw [tW hk] at fin
    exact .inr (.inr (.inl ⟨_,_,e,oh _ _ _ k! k! k!,xr,dr,y,_,_,d,s.b.toNat,hs,ps,rfl,by rw [Int.toNat_of_nonneg b1];exact e,hW2,okw,by lia,fun r ul H5 g5 _ er hL=>fin r ul H5 g5 er hL⟩))
   ·have e:=Cu hk qx2
    obtain⟨b1,b2⟩:=okS.b (by lia)
    rw [tX hk] at fin
    exact .inr (.inr (.inr (.inl ⟨_,_,e,yj _ _ k! k!,xr,dr,y,_,d,s.b.toNat,hs,ps,rfl,by rw [Int.toNat_of_nonneg b1];exact e,hW2,okw,by lia,fun r ul H5 g5 _ er hL=>fin r ul H5 g5 er hL⟩)))
   ·have e:=Cv hk qx2
    obtain⟨c1,c2⟩:=okS.c4 hk
    rw [pZ hk,dd] at fin
    exact .inr (.inr (.inr (.inr (.inl ⟨_,_,e,Ca _ _ k! k!,xr,dr,y,_,_,d,hs,ps,rfl,e,hW2,okw,c1,c2,fun r ul H5 g5 _ er hL=>fin r ul H5 g5 er hL⟩))))
   ·have e:=Cw hk qx2
    rw [tY hk] at fin
    exact .inr (.inr (.inr (.inr (.inr (.inl ⟨_,_,e,ou _ _ _ k! k! k!,xr,dr,y,_,_,_,d,hs,ps,rfl,e,hW2,okw,fun r ul H5 g5 _ er hL=>fin r ul H5 g5 er hL⟩)))))
   ·have e:=Cy hk qx2
    rw [tZ hk] at fin
    exact .inr (.inr (.inr (.inr (.inr (.inr ⟨_,_,e,Ck _ _ k! k!,xr,dr,y,_,_,d,hs,ps,rfl,e,hW2,okw,fun r ul H5 g5 _ er hL=>fin r ul H5 g5 er hL⟩)))))
  rintro σ H6 ⟨sI,v0,rfl⟩
  obtain⟨vs,g6,e6,hS6⟩:=sI.ex
  rw [hul,List.take_of_length_le (by rw [List.length_map];exact Nat.le_refl _)] at hS6
  refine⟨_,SqL.of e6,fun l2 hl2=>?_⟩
  have gl2:=same_new hl2 (.tup vs)
  have g7:=g6.trans gl2
  have nl2x:l2≠x:=(aH (g6 _ _ ex4) hl2).symm
  refine⟨ζ.b,dx,_,g7 _ _ ex4,T.cl_Terms,T.n_Terms_sums,Nat.lt_of_le_of_lt (Nat.le_trans (bf _ _ _) (Nat.succ_le_succ (bf _ _ _))) (by show 2 < 1000;decide),?_⟩
  have f8:∀c o,H1 c=some o→c≠x→upd (upd H6 l2 (.tup vs)) x (.ins ζ.b dx (bR "sums" (.ref l2) (bR "rules" (.ref l) (bR "ward" (.ref y) [])))) c=some o:=fun c o e n=>by
   rw [aG n]
   exact g7 _ _ (fr4 _ _ e n)
  have f9:∀c xs,H1 c=some (.tup xs)→upd (upd H6 l2 (.tup vs)) x (.ins ζ.b dx (bR "sums" (.ref l2) (bR "rules" (.ref l) (bR "ward" (.ref y) [])))) c=some (.tup xs):=fun c xs e=>f8 _ _ e fun z=>by rw [z,hx1] at e;cases e
  refine q _ (fun c o e n=>f8 _ _ (g1 _ _ e) n) ⟨dx,y,l,l2,us,vs,aj,?_,by rw [aG nlx];exact g7 _ _ el4,by rw [aG nl2x];exact aj,?_⟩
  ·obtain⟨dw,wa,pa,ts,w1,w2,w3,w4⟩:=hW1.ex
   exact⟨dw,wa,pa,ts,f8 _ _ w1 (nx w1 (fun z=>by have:=eZ d wa pa;rw [z] at this;cases this)),f9 _ _ w2,f9 _ _ w3,Posts.tmono f9 w4⟩
  ·exact Sums.tmono (pB fun xs z=>by rw [g7 _ _ ex4] at z;cases z) (Sums.tmono (aF gl2) hS6)
noncomputable def Fx (K:PySem.W.Frag) (ζ:Cs):Sp:=fun vs H Q _=>∃ (x pd:Addr) (h d D:Int) (hs:List Int) (ps:List Pst) (pns:List (List Key×V)),vs=[.ref x,.ref pd,.int h,.int d]∧WardAt ζ.a H x D hs ps∧1≤D∧H pd=some (.dT pns)∧∀H',Same H H'→Q (.bl (isFree hs.length D.toNat pns h d)) H'
theorem Ln:aN ["ward","pins","hand","day"] ["ward","pins","hand","day"] (aq vR):=⟨rfl,rfl,rfl,k!,rfl,k!,k!⟩
theorem Lp {ζ:Cs} {f:Addr} {fd:FuncData} (F:Fun K "is_free" "is_free" vR f fd) (T:Txt K mg ζ) (zb_:Cal P w K mg base "has_hand" ["ward","hand"] 1 (zx_ K ζ)) (zbu_:Cal P w K mg base "has_day" ["ward","day"] 1 (Bl K ζ)):bA P w K mg base CX0 2 f fd ["ward","pins","hand","day"] (Fx K ζ):=by
 refine F.ok Ln (fun vs H Q E h=>?_) (fun cdv A outer s H vs Q E hr h=>?_)
 ·obtain⟨x,pd,h,d,D,hs,ps,pns,rfl,_⟩:=h
  rfl
 ·obtain⟨x,pd,h,d,D,hs,ps,pns,rfl,hW,D1,ep,q⟩:=h
  refine⟨_,(@az _ _ _ (@aK _ _ _ _ (cG (aM zb_ (hr.mono (by decide)) rfl (@aa _ _ _ _ _ (pv 0) (@aa _ _ _ _ _ (pv 2) ak (by rfl)) (by rfl))) (cG (aM zbu_ (hr.mono (by decide)) rfl (@aa _ _ _ _ _ (pv 0) (@aa _ _ _ _ _ (pv 3) ak (by rfl)) (by rfl))) (dq (De (mz (dU hr) (@aP _ _ _ _ _ (@aa _ _ _ _ _ (pv 2) (@aa _ _ _ _ _ (pv 3) ak (by rfl)) (by rfl))) (pv 1)))))))),?_⟩
  walk_at "rd"
  refine⟨x,D,hs,ps,h,rfl,hW,_,rfl,?_⟩
  have hq:∀H',Same H H'→Q (.bl (fY hs h && ((decide (0≤d) && decide (d < D)) && !(bW pns (k2 h d)).isSome))) H':=fun H' g=>by
   have e:isFree hs.length D.toNat pns h d=(fY hs h && ((decide (0≤d) && decide (d < D)) && !(bW pns (k2 h d)).isSome)):=by
    unfold isFree fY
    rw [Int.toNat_of_nonneg (by lia)]
   rw [← e]
   exact q H' g
  cases z:fY hs h with
  | false =>
   rw [if_neg (by decide)]
   have h1:=hq H (Same.refl _)
   rw [z] at h1
   exact h1
  | true =>
   rw [if_pos rfl]
   refine⟨x,D,hs,ps,d,rfl,hW,_,rfl,?_⟩
   cases z2:(decide (0≤d) && decide (d < D)) with
   | false =>
    rw [if_neg (by decide)]
    have h1:=hq H (Same.refl _)
    rw [z,z2] at h1
    exact h1
   | true =>
    rw [if_pos rfl]
    refine⟨by decide,fun p hp=>?_⟩
    have gp:=same_new hp (.tup [.int h,.int d])
    refine⟨_,DGet.t (k:=k2 h d) (gp _ _ ep) aj,?_⟩
    have h1:=hq _ gp
    rw [z,z2] at h1
    exact h1
noncomputable def Fy (K:PySem.W.Frag) (ζ:Cs):Sp:=fun vs H Q _=>∃ (a:Addr) (us:List V) (ls:List (Lin×Int)),vs=[.ref a]∧H a=some (.lst us)∧Prs H us ls∧(∀l∈ls,-(2 ^ 40) < l.2∧l.2 < 2 ^ 40)∧bL ls≤900∧∀t d H',Same H H'→H d=none→H' t=some (.tup [.ref d,.int (dW ls)])→H' d=some (.dT (bJ ls))→Q (.ref t) H'
theorem zG_:aN ["pairs","numbers","bound","line","times","hand","day","post","number"] ["pairs"] (aq vf):=⟨rfl,rfl,rfl,k!,rfl,k!,k!⟩
theorem Lq {ζ:Cs} {f:Addr} {fd:FuncData} (F:Fun K "summed" "summed" vf f fd) (T:Txt K mg ζ) :bA P w K mg base CX0 1 f fd ["pairs"] (Fy K ζ):=by
 refine F.ok zG_ (fun vs H Q E h=>?_) (fun cdv A outer s H vs Q E hr h=>?_)
 ·obtain⟨a,us,ls,rfl,_⟩:=h
  rfl
 ·obtain⟨a,us,ls,rfl,hA,hP,ht,hn,q⟩:=h
  refine⟨_,(@au _ _ _ _ _ (aV (i:=1) zG_.nd rfl (Or.inl rfl) iV) (@au _ _ _ _ _ (aV (i:=2) zG_.nd rfl (Or.inl rfl) ao) (@au _ _ _ _ _ (bN PassesOwn.never rfl (bQ (pv 0)) (cL (n:=2) rfl (aO (aB (i:=3) zG_.nd rfl (Or.inl rfl)) (aO (aB (i:=4) zG_.nd rfl (Or.inl rfl)) bV)))
   (@au _ _ _ _ _ (aV (i:=2) zG_.nd rfl (Or.inl rfl) (@aD _ _ _ _ _ _ _ _ bj (pv 2) (@aD _ _ _ _ _ _ _ _ cZ (@bc _ _ _ _ _ _ _ bI (pv 3) ao (fun _ _=>rfl)) (pv 4)))) (@az _ _ _ (bN PassesOwn.never rfl (nA (@bc _ _ _ _ _ _ _ bI (pv 3) ao (fun _ _=>rfl))) (cL (n:=4) rfl (aO (aB (i:=5) zG_.nd rfl (Or.inl rfl)) (aO (aB (i:=6) zG_.nd rfl (Or.inl rfl)) (aO (aB (i:=7) zG_.nd rfl (Or.inl rfl)) (aO (aB (i:=8) zG_.nd rfl (Or.inl rfl)) bV)))))
     (@az _ _ _ (iU (dU hr) (pv 1) (@aP _ _ _ _ _ (@aa _ _ _ _ _ (pv 5) (@aa _ _ _ _ _ (pv 6) (@aa _ _ _ _ _ (pv 7) ak (by rfl)) (by rfl)) (by rfl))) (@aD _ _ _ _ _ _ _ _ bj (gw (dU hr) (pv 1) (@aP _ _ _ _ _ (@aa _ _ _ _ _ (pv 5) (@aa _ _ _ _ _ (pv 6) (@aa _ _ _ _ _ (pv 7) ak (by rfl)) (by rfl)) (by rfl))) ao ⟨rfl,rfl,rfl,rfl⟩) (@aD _ _ _ _ _ _ _ _ cZ (pv 8) (pv 4))) rfl)))))) (@az _ _ _ (@aK _ _ _ _ (@aP _ _ _ _ _ (@aa _ _ _ _ _ (pv 1) (@aa _ _ _ _ _ (pv 2) ak (by rfl)) (by rfl)))))))),?_⟩
  refine aA fun U1 u1=>?_
  walk_at "rd"
  intro d hd
  have g0:=same_new hd (.dT [])
  rw [u1];clear u1
  refine aA fun U1 u1=>?_
  walk_at "rd"
  rw [u1];clear u1
  refine aA fun U1 u1=>bU fun B1 b1=>?_
  walk_at "rd"
  have hul:=Paired.length hP
  refine⟨⟨_,SqL.of (g0 _ _ hA)⟩,bB (xs:=us) (fun i σ H'=>∃ (v3 v4 v5 v6 v7 v8:Option V),Same H H'∧H' d=some (.dT (bJ (ls.take i)))∧σ=[some (.ref a),some (.ref d),some (.int (dW (ls.take i))),v3,v4,v5,v6,v7,v8]) ⟨none,none,none,none,none,none,g0,aj,rfl⟩ (fun i σ H' _ ⟨_,_,_,_,_,_,g,_⟩=>SqL.of (g _ _ hA)) ?_ ?_⟩
  ·rintro i v σ H' hx ⟨v3,v4,v5,v6,v7,v8,g,e,rfl⟩
   obtain⟨l,hli,t,u,rfl,w1,tu,pt,ts,eu,w2,w3,w4⟩:=Paired.get' hP hx
   cases eu
   obtain⟨lt1,lt2⟩:=ht l (List.mem_of_getElem? hli)
   have hlen:(bJ (ls.take i)).length + l.1.ps.length≤900:=by
    have z1:(bJ (ls.take i)).length≤0 + bL (ls.take i):=gY
    have z2:bL (ls.take (i + 1))=bL (ls.take i) + l.1.ps.length:=by
     rw [bh hli]
     unfold bL
     rw [List.map_append,List.sum_append]
     simp
    have z3:bL (ls.take (i + 1))≤bL ls:=by
     have:bL ls=bL (ls.take (i + 1)) + bL (ls.drop (i + 1)):=by
      unfold bL
      rw [← List.sum_append,← List.map_append,List.take_append_drop]
     lia
    lia
   have hok:dX (bJ (ls.take i)):=iZ gM
   walk_at "rd"
   refine⟨_,SqT.of (g _ _ w1),rfl,_,_,rfl,_,_,rfl,rfl,?_⟩
   rw [b1]
   refine aA fun U2 u2=>?_
   walk_at "rd"
   refine⟨_,SqT.of (g _ _ w2),.int l.1.b,rfl,_,rfl,.inr ⟨by lia,by lia⟩,?_⟩
   rw [u2];clear u2
   refine bU fun B2 b2=>?_
   walk_at "rd"
   refine⟨_,SqT.of (g _ _ w2),_,rfl,pt,rfl,⟨_,SqT.of (g _ _ w3)⟩,iJ (xs:=ts) (fun j σ H2=>∃ (v5 v6 v7 v8:Option V),Same H H2∧H2 d=some (.dT ((l.1.ps.take j).foldl (dj l.2) (bJ (ls.take i))))∧σ=[some (.ref a),some (.ref d),some (.int (dW (ls.take i) + l.1.b * l.2)),some (.ref u),some (.int l.2),v5,v6,v7,v8]) ⟨v5,v6,v7,v8,g,e,rfl⟩ (fun j σ H2 _ ⟨_,_,_,_,g2,_⟩=>SqT.of (g2 _ _ w3)) ?_ ?_⟩
   ·rintro j v σ H2 hx2 ⟨v5,v6,v7,v8,g2,e2,rfl⟩
    obtain⟨pq,hpq,tq,rfl,htq⟩:=Paired.get' w4 hx2
    have hj:j < l.1.ps.length:=(List.getElem?_eq_some_iff.mp hpq).1
    have hlj:((l.1.ps.take j).foldl (dj l.2) (bJ (ls.take i))).length < 901:=by
     have:((l.1.ps.take j).foldl (dj l.2) (bJ (ls.take i))).length≤(bJ (ls.take i)).length + (l.1.ps.take j).length:=gW
     rw [List.length_take] at this
     lia
    have hokj:dX ((l.1.ps.take j).foldl (dj l.2) (bJ (ls.take i))):=iY hok
    have est:(l.1.ps.take (j + 1)).foldl (dj l.2) (bJ (ls.take i))=dj l.2 ((l.1.ps.take j).foldl (dj l.2) (bJ (ls.take i))) pq:=by
     rw [bh hpq,List.foldl_append]
     rfl
    rw [est]
    generalize (l.1.ps.take j).foldl (dj l.2) (bJ (ls.take i))=kvs at e2 hlj hokj
    walk_at "rd"
    refine⟨_,SqT.of (g2 _ _ htq),rfl,_,_,rfl,_,_,rfl,_,_,rfl,_,_,rfl,rfl,?_⟩
    rw [b2]
    walk_at "rd"
    refine⟨.inr ⟨_,.inl e2⟩,by decide,fun t1 ht1=>?_⟩
    have y1:=same_new ht1 (.tup [.int pq.h,.int pq.d,.int pq.p])
    refine⟨_,DGet.t (k:=kk pq.h pq.d pq.p) (y1 _ _ e2) aj,.inr ⟨by lia,by lia⟩,_,rF hokj _,by decide,fun t2 ht2=>?_⟩
    have y2:=y1.trans (same_new ht2 (.tup [.int pq.h,.int pq.d,.int pq.p]))
    exact⟨_,DPut.t (k:=kk pq.h pq.d pq.p) (y2 _ _ e2) aj (aW (by lia)),aY hd (g2.trans y2) _,by rw [aj];rfl⟩
   ·rintro σ H2 ⟨v5,v6,v7,v8,g2,e2,rfl⟩
    rw [Paired.length w4,List.take_length] at e2
    have e3:bJ (ls.take (i + 1))=l.1.ps.foldl (dj l.2) (bJ (ls.take i)):=by
     unfold bJ
     rw [bh hli,List.foldl_append]
     rfl
    have e4:dW (ls.take (i + 1))=dW (ls.take i) + l.1.b * l.2:=by
     unfold dW
     rw [bh hli,List.map_append,List.sum_append]
     simp
    rw [e3,e4]
    exact⟨g2,e2,_,_,_,_,_,_,rfl⟩
  rintro σ H' ⟨v3,v4,v5,v6,v7,v8,g,e,rfl⟩
  rw [hul,List.take_length] at e ⊢
  rw [u1];clear u1
  walk_at "rd"
  refine⟨by decide,fun t ht'=>?_⟩
  have g1:=same_new ht' (.tup [.ref d,.int (dW ls)])
  exact q t d _ (g.trans g1) hd aj (g1 _ _ e)
noncomputable def Bo (_:PySem.W.Frag) (ζ:Cs):Sp:=fun vs H Q _=>∃ (x:Addr) (d:Int) (hs:List Int) (ps:List Pst) (i:Nat) (h:Int),vs=[.ref x,.int i]∧WardAt ζ.a H x d hs ps∧hs[i]? = some h∧ps.length≤6∧∀r H',New H H' r ((ch h ps).map V.int)→Q (.ref r) H'
theorem zcW_:aN ["self","hand","skills"] ["self","hand"] (aq zI_):=⟨rfl,rfl,rfl,k!,rfl,k!,k!⟩
theorem Lr {ζ:Cs} {f:Addr} {fd:FuncData} (F:Fun K "choices" "Ward.choices" zI_ f fd) (T:Txt K mg ζ) (zbN_:Cal P w K mg base "covers" ["have","need"] 1 (Bm K ζ)):bA P w K mg base CX0 2 f fd ["self","hand"] (Bo K ζ):=by
 refine F.ok zcW_ (fun vs H Q E h=>?_) (fun cdv A outer s H vs Q E hr h=>?_)
 ·obtain⟨x,d,hs,ps,i,h,rfl,_⟩:=h
  rfl
 ·obtain⟨x,d,hs,ps,i,h,rfl,hW,hi,hl,q⟩:=h
  refine⟨_,(@au _ _ _ _ _ (aV (i:=2) zcW_.nd rfl (Or.inr rfl) (@bc _ _ _ _ _ _ _ bI (aZ (pv 0) rfl) (pv 1) (fun _ _=>rfl))) (@az _ _ _ (@aK _ _ _ _ (@aD _ _ _ _ _ _ _ _ xH (@bw _ _ _ _ (@aa _ _ _ _ _ ao ak (by rfl))) (cB (own:=["number","post"]) (fnames:=["skills"]) (fr:=[2]) (N':=["number","post","skills"]) ⟨rfl,rfl,rfl,rfl,rfl,rfl,rfl⟩ rfl (nU rfl T.enumerate (aZ (pv 0) rfl)) (fun s0 H0 fp0 C0=>⟨(jH (K:=K) (n:=2) rfl rfl (aO (aB (i:=0) (by show (["number","post","skills"]:List Str).Nodup;decide +kernel) rfl (Or.inl rfl)) (aO (aB (i:=1) (by show (["number","post","skills"]:List Str).Nodup;decide +kernel) rfl (Or.inl rfl)) bV))),(fL (dM (aM zbN_ (hr.mono (by decide)) rfl (@aa _ _ _ _ _ (pv 2) (@aa _ _ _ _ _ (@bc _ _ _ _ _ _ _ (cP (K:=K) rfl) (pv 1) ao (fun _ _=>rfl)) ak (by rfl)) (by rfl))))),(pv 0)⟩)))))),?_⟩
  obtain⟨dx,ha,pa,ts,h1,h2,h3,h4⟩:=hW.ex
  walk_at "rd"
  refine⟨_,_,_,h1,T.cl_Ward,T.n_Ward_hands,_,iM _ _ _,_,rfl,_,SqT.of h2,.int h,cY (by rw [List.getElem?_map,hi];rfl),by decide,fun p hp=>?_⟩
  have g1:=same_new hp (.lst [.int 0])
  refine⟨_,_,_,g1 _ _ h1,T.cl_Ward,T.n_Ward_posts,_,gn _ _ _,_,rfl,⟨_,SqT.of (g1 _ _ h3)⟩,fun D hD=>dD (S:=SqT K) (xs:=ts) (fun j σ H'=>Same (upd H p (.lst [.int 0])) H'∧H' D=some (.lst ((chI h ps j).map V.int))∧∃v1 v2,σ=[v1,v2,some (.int h)]) ⟨same_new hD _,aj,none,none,rfl⟩ (fun j σ H' _ hh=>SqT.of (hh.1 _ _ (g1 _ _ h3))) ?_ ?_⟩
  ·rintro j x σ H' t hx ⟨g,e,v1,v2,rfl⟩ ht
   obtain⟨qq,hq,t',rfl,ht'⟩:=h4.at' hx
   have hj:j < ps.length:=(List.getElem?_eq_some_iff.mp hq).1
   have g2:Same H' (upd H' t (.tup [.int (((1 + j:Nat)):Int),.ref t'])):=same_new ht _
   walk_at "rd"
   refine⟨_,SqT.of aj,rfl,_,_,rfl,_,_,rfl,rfl,?_⟩
   walk_at "rd"
   refine⟨_,SqT.of (g2 _ _ (g _ _ (g1 _ _ ht'))),_,rfl,h,qq.1,rfl,?_⟩
   walk_at "rd"
   have hs':=pA h ps j
   rw [hq,Option.getD_some] at hs'
   have hcl:=jJ h ps j
   split
   ·rename_i hb
    rw [if_pos hb] at hs'
    refine⟨_,g2 _ _ e,aW (by simp only [List.length_map];lia),fun b o hb=>?_,?_⟩
    ·have ne:b≠D:=fun z=>by subst z;rw [hD] at hb;cases hb
     rw [aG ne]
     exact g2 _ _ (g _ _ hb)
    ·rw [aj,hs',List.map_append,show ((1 + j:Nat):Int)=(j:Int) + 1 by lia]
     first | done | rfl
   ·rename_i hb
    rw [if_neg hb,List.append_nil] at hs'
    exact⟨g.trans g2,by rw [hs'];exact g2 _ _ e⟩
  ·rintro σ H' ⟨g,e,v1,v2,rfl⟩
   have hcl:=jJ h ps ps.length
   refine⟨_,g _ _ aj,_,e,dO (by simp only [List.length_map,List.length_cons,List.length_nil,h4.len];lia),fun r hr=>q r _ ⟨?_,?_,?_⟩⟩
   ·exact (g1.trans g).trans (same_new hr _)
   ·exact (g1.trans g).free hr
   ·rw [aj,h4.len]
    rfl
noncomputable def Fz (K:PySem.W.Frag) (ζ:Cs):Sp:=fun vs H Q _=>∃ (x pd nd:Addr) (d:Int) (hs:List Int) (ps:List Pst) (pns kvs:List (List Key×V)),vs=[.ref x,.ref pd,.ref nd]∧WardAt ζ.a H x d hs ps∧Ok d hs ps∧H pd=some (.dT pns)∧H nd=some (.dT kvs)∧pd≠nd∧dX pns∧NumOk hs.length d.toNat (ps.length + 1) kvs∧kvs.length≤900∧∀H',Same H H'→Q (.int (d8 pns kvs (fun h=>ch (hs[h]?.getD 0) ps) hs.length d.toNat)) H'
theorem zbS_:aN ["ward","pins","numbers","choices","reached","hand","day","values"] ["ward","pins","numbers"] (aq jy):=⟨rfl,rfl,rfl,k!,rfl,k!,k!⟩
theorem Ls {ζ:Cs} {f:Addr} {fd:FuncData} (F:Fun K "best" "best" jy f fd) (T:Txt K mg ζ) (zM_:cU P w K mg base ζ.a "choices" ["self","hand"] 2 (Bo K ζ)):bA P w K mg base CX0 3 f fd ["ward","pins","numbers"] (Fz K ζ):=by
 refine F.ok zbS_ (fun vs H Q E h=>?_) (fun cdv A outer s H vs Q E hr h=>?_)
 ·obtain⟨x,pd,nd,d,hs,ps,pns,kvs,rfl,_⟩:=h
  rfl
 ·obtain⟨x,pd,nd,d,hs,ps,pns,kvs,rfl,hW,okw,hp,hn,npn,aip,ok,kl,q⟩:=h
  refine⟨_,(@au _ _ _ _ _ (eY (i:=3) zbS_.nd rfl rfl (own:=["hand"]) (fnames:=["ward"]) (fr:=[0]) (N':=["hand","ward"]) ⟨rfl,rfl,rfl,rfl,rfl,rfl,rfl⟩ rfl (bM rfl T.range (@aa _ _ _ _ _ (bx (bC (K:=K) rfl) (by rfl) T.len PySem.boot_len (@aa _ _ _ _ _ (aZ (pv 0) rfl) ak (by rfl))) ak (by rfl))) (fun s0 H0 fp0 C0=>⟨(aB (i:=0) (by show (["hand","ward"]:List Str).Nodup;decide +kernel) rfl (Or.inl rfl)),cu,(bT zM_ (hr.mono (by decide)) (pv 1) (@aa _ _ _ _ _ (pv 0) ak (by rfl)))⟩)) (@au _ _ _ _ _ (aV (i:=4) zbS_.nd rfl (Or.inl rfl) ao) (@au _ _ _ _ _ (bN PassesOwn.never rfl (pK (bG (rN rfl hr) (by rfl) T.dict PyProof.Rows.boot_dict (@aa _ _ _ _ _ (cB (own:=["hand","day","post"]) (fnames:=[]) (fr:=[]) (N':=["hand","day","post"]) ⟨rfl,rfl,rfl,rfl,rfl,rfl,rfl⟩ rfl (pK (pv 2)) (fun s0 H0 fp0 C0=>⟨(jH (K:=K) (n:=3) rfl rfl (aO (aB (i:=0) (by show (["hand","day","post"]:List Str).Nodup;decide +kernel) rfl (Or.inl rfl)) (aO (aB (i:=1) (by show (["hand","day","post"]:List Str).Nodup;decide +kernel) rfl (Or.inl rfl)) (aO (aB (i:=2) (by show (["hand","day","post"]:List Str).Nodup;decide +kernel) rfl (Or.inl rfl)) bV)))),cu,(@aP _ _ _ _ _ (@aa _ _ _ _ _ (@aP _ _ _ _ _ (@aa _ _ _ _ _ (pv 0) (@aa _ _ _ _ _ (pv 1) ak (by rfl)) (by rfl))) (@aa _ _ _ _ _ oZ ak (by rfl)) (by rfl)))⟩)) ak (by rfl)))) (cL (n:=2) rfl (aO (aB (i:=5) zbS_.nd rfl (Or.inr rfl)) (aO (aB (i:=6) zbS_.nd rfl (Or.inr rfl)) bV)))
   (@az _ _ _ (@bF _ _ _ _ _ _ _ _ (PW.pt (jO (jR dh dZ ao (pv 5) (bx (bC (K:=K) rfl) (by rfl) T.len PySem.boot_len (@aa _ _ _ _ _ (pv 3) ak (by rfl)))) (iG (jR dh dZ ao (pv 6) (aZ (pv 0) rfl))))) (gR (aV (i:=7) zbS_.nd rfl (Or.inl rfl) (wQ (nq (rD (dU hr) (@aP _ _ _ _ _ (@aa _ _ _ _ _ (pv 5) (@aa _ _ _ _ _ (pv 6) ak (by rfl)) (by rfl))) (pv 1))) (@bw _ _ _ _ (@aa _ _ _ _ _ (tO (dU hr) (pv 1) (@aP _ _ _ _ _ (@aa _ _ _ _ _ (pv 5) (@aa _ _ _ _ _ (pv 6) ak (by rfl)) (by rfl))) (fun _ _=>rfl)) ak (by rfl))) (@bc _ _ _ _ _ _ _ cD (pv 3) (pv 5) (fun _ _=>rfl))))
     (@az _ _ _ (aV (i:=4) zbS_.nd rfl (Or.inl rfl) (@aD _ _ _ _ _ _ _ _ bj (pv 4) (bx (mR rfl) (by rfl) T.max PyProof.Rows.boot_max (@aa _ _ _ _ _ (cB (own:=["value"]) (fnames:=["numbers","hand","day"]) (fr:=[2,5,6]) (N':=["value","numbers","hand","day"]) ⟨rfl,rfl,rfl,rfl,rfl,rfl,rfl⟩ rfl (bQ (pv 7)) (fun s0 H0 fp0 C0=>⟨(aB (i:=0) (by show (["value","numbers","hand","day"]:List Str).Nodup;decide +kernel) rfl (Or.inl rfl)),cu,(gw (dU hr) (pv 1) (@aP _ _ _ _ _ (@aa _ _ _ _ _ (pv 2) (@aa _ _ _ _ _ (pv 3) (@aa _ _ _ _ _ (pv 0) ak (by rfl)) (by rfl)) (by rfl))) ao ⟨rfl,rfl,rfl,rfl⟩)⟩)) ak (by rfl))))))) aX))) (pL (pL (@az _ _ _ (@aK _ _ _ _ (pv 4)))))))),?_⟩
  obtain⟨dx,ha,pa,ts,h1,h2,h3,h4⟩:=hW.ex
  have hs8:=okw.hl
  have p6:=okw.pl
  refine aA fun U1 u1=>?_
  walk_at "rd"
  refine⟨_,_,_,h1,T.cl_Ward,T.n_Ward_hands,_,iM _ _ _,_,rfl,_,.inr (SqT.of h2),by rw [List.length_map];lia,by rw [List.length_map];lia,fun D hD=>bH (fun i σ H'=>GatF H D (fun j row=>row=ch (hs[j]?.getD 0) ps) i H'∧∃v0,σ=[v0,some (.ref x)]) ⟨GatF.start hD,none,rfl⟩ ?_ ?_⟩
  ·rintro i σ H' hi ⟨gf,v0,rfl⟩
   rw [show (0 + (i:Int))=i by lia]
   rw [List.length_map] at hi
   have hi':i < hs.length:=by lia
   walk_at "rd"
   refine⟨_,_,gf.same _ _ h1,rfl,x,d,hs,ps,i,hs[i],rfl,hW.mono gf.same,List.getElem?_eq_getElem hi',p6,fun r H2 nw=>?_⟩
   exact gf.step hD (by lia) nw.1 nw.2.1 nw.2.2 (by rw [List.getElem?_eq_getElem hi'];rfl)
  rintro σ H1 ⟨gf,v0,rfl⟩
  rw [List.length_map] at gf
  obtain⟨us,rows,rl,g1,eD,hR,hrow⟩:=gf.done
  clear gf
  rw [u1];clear u1
  refine aA fun U1 u1=>?_
  walk_at "rd"
  rw [u1];clear u1
  refine aA fun U1 u1=>bU fun B1 b1=>?_
  walk_at "rd"
  have en1:=g1 _ _ hn
  refine⟨kvs,en1,fun ob D1 hD1=>mC (fun i σ H'=>PrI (upd H1 nd (.frz ob (.dT kvs))) D1 kvs i H'∧∃v0 v1 v2,σ=[v0,v1,v2]) ⟨PrI.start hD1,none,none,none,rfl⟩ (fun i σ H' _ hh=>hh.1.same _ _ aj) ?_ ?_⟩
  ·rintro i bk k v σ H' hk hb ⟨pI,v0,v1,v2,rfl⟩
   obtain⟨h,dd,p,e,c1,c2,c3⟩:=ok.inb _ (List.mem_of_getElem? hk)
   have e:k=kk h dd p:=e
   subst e
   have hik:=(List.getElem?_eq_some_iff.mp hk).1
   show ∃a,_
   refine⟨_,rfl,_,SqT.of hb,rfl,_,_,rfl,_,_,rfl,_,_,rfl,rfl,?_⟩
   walk_at "rd"
   refine⟨by decide,fun b hb2=>⟨by decide,fun t ht=>?_⟩⟩
   exact pI.step hD1 hk (by lia) hb2 ht
  rintro σ H2 ⟨pI,v0,v1,v2,rfl⟩
  obtain⟨us2,g2,eD1,hP2⟩:=pI.ex
  rw [List.take_length] at hP2
  refine⟨us2,eD1,_,hP2,by rw [List.length_map];lia,fun p hpp=>⟨_,aj,fun ob2=>?_⟩⟩
  rw [cg]
  show ∃W,_
  have np:nd≠p:=aH (g2 _ _ aj) hpp
  have prl:=Az kvs
  refine mC (kvs:=prD kvs) (fun i σ H'=>Same (upd H2 p (.frz ob2 (.dT (prD kvs)))) H'∧∃v5 v6 v7,σ=[some (.ref x),some (.ref pd),some (.ref nd),some (.ref D),some (.int (jD pns kvs (fun h=>ch (hs[h]?.getD 0) ps) ((prD kvs).take i))),v5,v6,v7]) ⟨Same.refl _,none,none,none,rfl⟩ (fun i σ H' _ hh=>hh.1 _ _ aj) ?_ ?_
  ·rintro i bk k v σ H' hk hb ⟨g,v5,v6,v7,rfl⟩
   obtain⟨h,dd,e,c1,c2⟩:=oJ ok _ (List.mem_of_getElem? hk)
   have e:k=k2 h dd:=e
   subst e
   have hb:H' bk=some (.tup [.int h,.int dd]):=hb
   have G0:Same (upd H1 nd (.frz ob (.dT kvs))) H':=g2.trans ((same_new hpp _).trans g)
   have hx':=G0 _ _ (ug (o:=.frz ob (.dT kvs)) en1 (g1 _ _ h1) (fun k z=>by cases z))
   have hpd':H' pd=some (.dT pns):=G0 _ _ (by rw [aG npn];exact g1 _ _ hp)
   have hnd':H' nd=some (.frz ob (.dT kvs)):=G0 _ _ aj
   have hD':=G0 _ _ (ug (o:=.frz ob (.dT kvs)) en1 eD (fun k z=>by cases z))
   have hR':=(hR.frz en1 (.frz ob (.dT kvs))).mono G0
   have hh:h < rows.length:=by lia
   obtain⟨t1,a1,q1⟩:=hR'.get (List.getElem?_eq_getElem hh)
   rw [hrow h _ (List.getElem?_eq_getElem hh)] at q1
   have hcl:=j5 (hs[h]?.getD 0) ps
   have em:mxC pns kvs (fun h=>ch (hs[h]?.getD 0) ps) (ka (k2 h dd) 0).toNat (ka (k2 h dd) 1).toNat=mxL ((oH pns (ch (hs[h]?.getD 0) ps) h dd).map fun p=>nO kvs h dd p):=rfl
   rw [rP hk,em]
   have hc1:0 < (ch (hs[h]?.getD 0) ps).length:=Nat.succ_pos _
   generalize ch (hs[h]?.getD 0) ps=ow at q1 hcl hc1 ⊢
   generalize jD pns kvs (fun h=>ch (hs[h]?.getD 0) ps) ((prD kvs).take i)=s0
   refine⟨_,rfl,_,SqT.of hb,rfl,_,_,rfl,_,_,rfl,rfl,?_⟩
   rw [b1]
   refine oK fun A1 i1=>?_
   walk_at "rd"
   rw [if_pos (by lia)]
   refine⟨_,.inl (SqL.of hD'),?_⟩
   rw [if_pos (by rw [hR'.len];lia),if_pos (by lia)]
   refine⟨_,_,_,hx',T.cl_Ward,T.n_Ward_days,_,eZ _ _ _,_,rfl,?_⟩
   rw [if_pos (by lia)]
   rw [i1];clear i1
   refine jn (fun σ H4=>Same H' H4∧∃ (L3:Addr) (own:List Int),H4 L3=some (.lst (own.map V.int))∧own=oH pns ow h dd∧0 < own.length∧own.length≤9∧σ=[some (.ref x),some (.ref pd),some (.ref nd),some (.ref D),some (.int s0),some (.int h),some (.int dd),some (.ref L3)]) ?_ ?_
   ·walk_at "rd"
    refine⟨by decide,fun t2 ht2=>?_⟩
    have gt2:=same_new ht2 (.tup [.int h,.int dd])
    refine⟨_,DGet.t (k:=k2 h dd) (gt2 _ _ hpd') aj,?_⟩
    unfold oH
    cases ev:bW pns (k2 h dd) with
    | none =>
     rw [if_neg (by simp)]
     exact⟨_,SqL.of (gt2 _ _ hD'),_,cY a1,gt2,t1,ow,gt2 _ _ q1,rfl,hc1,by lia,rfl⟩
    | some v =>
     obtain⟨pv,rfl⟩:=aip _ v ev
     rw [if_pos (show (some (V.int pv)).isSome=true from rfl)]
     refine⟨by decide,fun t3 ht3=>?_⟩
     have gt3:=same_new ht3 (.tup [.int h,.int dd])
     refine⟨.int pv,.inr ⟨pns,k2 h dd,t3,.inl ((gt2.trans gt3) _ _ hpd'),rfl,aj,ev.symm⟩,by decide,fun t4 ht4=>?_⟩
     exact⟨(gt2.trans gt3).trans (same_new ht4 _),t4,[pv],aj,rfl,Nat.zero_lt_one,by show 1≤9;decide,rfl⟩
   rintro σ H4 ⟨g4,L3,own,eL,eo,o1,o9,rfl⟩
   rw [← eo]
   walk_at "rd"
   have hnd4:=g4 _ _ hnd'
   refine⟨⟨_,SqL.of eL⟩,fun D5 hD5=>bB (xs:=own.map V.int) (fun j σ H5=>Same H4 H5∧H5 D5=some (.lst (((own.take j).map fun p=>nO kvs h dd p).map V.int))∧∃v0,σ=[v0,some (.ref nd),some (.int h),some (.int dd)]) ⟨same_new hD5 _,aj,none,rfl⟩ (fun j σ H5 _ hh=>SqL.of (hh.1 _ _ eL)) ?_ ?_⟩
   ·rintro j v σ H5 hx2 ⟨g5,e5,v0,rfl⟩
    obtain⟨z,hz,rfl⟩:=eU hx2
    have hj:=(List.getElem?_eq_some_iff.mp hz).1
    have hnd5:=g5 _ _ hnd4
    walk_at "rd"
    refine⟨.inr ⟨_,.inr ⟨_,hnd5⟩⟩,by decide,fun t6 ht6=>?_⟩
    have g6:=same_new ht6 (.tup [.int h,.int dd,.int z])
    refine⟨_,.inr ⟨kvs,kk h dd z,t6,.inr ⟨ob,g6 _ _ hnd5⟩,rfl,aj,rfl⟩,_,g6 _ _ e5,aW (by rw [List.length_map,List.length_map,List.length_take];lia),aY hD5 (g5.trans g6) _,?_⟩
    rw [aj,oM ok.ai,bh hz,List.map_append,List.map_append]
    rfl
   rintro σ H5 ⟨g5,e5,v0,rfl⟩
   rw [List.length_map,List.take_length] at e5
   refine⟨_,SqL.of e5,by rw [List.length_map];exact o1,fun M hM1 hM2=>⟨g.trans (g4.trans g5),?_⟩⟩
   rw [rO hM1 hM2]
  rintro σ H3 ⟨g3,v5,v6,v7,rfl⟩
  rw [u1];clear u1
  walk_at "rd"
  refine⟨p,ob2,prD kvs,g3 _ _ aj,fun _ _ z=>?_,nd,ob,kvs,?_,fun _ _ z=>?_,?_⟩
  ·have nz:p≠nd:=np.symm
   have z1:=g2 _ _ ((aG nz).trans (g1 _ _ z))
   rw [hpp] at z1
   cases z1
  ·rw [aG np]
   exact g3 _ _ (by rw [aG np];exact g2 _ _ aj)
  ·rw [hn] at z
   cases z
  rw [List.take_length,yI (own:=fun h=>ch (hs[h]?.getD 0) ps) ok fun h _=>Nat.succ_pos _]
  refine q _ (g1.trans (uV en1 (o':=.frz ob (.dT kvs)) fun b o hb=>?_))
  have hb2:=g2 _ _ hb
  have nb:b≠p:=aH hb2 hpp
  rw [aG nb]
  exact g3 _ _ (by rw [aG nb];exact hb2)
noncomputable def FJ (K:PySem.W.Frag) (ζ:Cs):Sp:=fun vs H Q _=>∃ (x pd a:Addr) (d:Int) (hs:List Int) (ps:List Pst) (pns:List (List Key×V)) (us:List V) (ls:List (Lin×Int)),vs=[.ref x,.ref pd,.ref a]∧WardAt ζ.a H x d hs ps∧Ok d hs ps∧H pd=some (.dT pns)∧dX pns∧H a=some (.lst us)∧Prs H us ls∧(∀l∈ls,-(2 ^ 40) < l.2∧l.2 < 2 ^ 40)∧bL ls≤900∧NumOk hs.length d.toNat (ps.length + 1) (bJ ls)∧∀H',Same H H'→Q (.bl (decide (d8 pns (bJ ls) (fun h=>ch (hs[h]?.getD 0) ps) hs.length d.toNat < dW ls))) H'
theorem zeH_:aN ["ward","pins","pairs","added"] ["ward","pins","pairs"] (aq vg):=⟨rfl,rfl,rfl,k!,rfl,k!,k!⟩
theorem Lw {ζ:Cs} {f:Addr} {fd:FuncData} (F:Fun K "closes" "closes" vg f fd) (T:Txt K mg ζ) (zdY_:Cal P w K mg base "summed" ["pairs"] 1 (Fy K ζ)) (C_best:Cal P w K mg base "best" ["ward","pins","numbers"] 3 (Fz K ζ)):bA P w K mg base CX0 4 f fd ["ward","pins","pairs"] (FJ K ζ):=by
 refine F.ok zeH_ (fun vs H Q E h=>?_) (fun cdv A outer s H vs Q E hr h=>?_)
 ·obtain⟨x,pd,a,d,hs,ps,pns,us,ls,rfl,_⟩:=h
  rfl
 ·obtain⟨x,pd,a,d,hs,ps,pns,us,ls,rfl,hW,okw,hp,aip,ha,hP,hb,hl,ok,q⟩:=h
  refine⟨_,(@au _ _ _ _ _ (aV (i:=3) zeH_.nd rfl (Or.inl rfl) (aM zdY_ (hr.mono (by decide)) rfl (@aa _ _ _ _ _ (pv 2) ak (by rfl)))) (@az _ _ _ (@aK _ _ _ _ (cX dZ (aM C_best (hr.mono (by decide)) rfl (@aa _ _ _ _ _ (pv 0) (@aa _ _ _ _ _ (pv 1) (@aa _ _ _ _ _ (@bc _ _ _ _ _ _ _ bI (pv 3) ao (fun _ _=>rfl)) ak (by rfl)) (by rfl)) (by rfl))) (@bc _ _ _ _ _ _ _ bI (pv 3) ao (fun _ _=>rfl)) (aR _))))),?_⟩
  refine aA fun U1 u1=>?_
  walk_at "rd"
  refine⟨a,us,ls,rfl,ha,hP,hb,hl,fun t d2 H1 g1 f1 et ed=>?_⟩
  rw [u1];clear u1
  walk_at "rd"
  have npd:pd≠d2:=aH hp f1
  have kl:(bJ ls).length≤900:=by
   have z1:(bJ ls).length≤0 + bL ls:=gY
   omega
  refine⟨_,SqT.of et,_,rfl,x,pd,d2,d,hs,ps,pns,bJ ls,rfl,hW.mono g1,okw,g1 _ _ hp,ed,npd,aip,ok,kl,fun H2 g2=>?_⟩
  exact⟨_,SqT.of (g2 _ _ et),.int (dW ls),rfl,_,rfl,_,rfl,q H2 (g1.trans g2)⟩
noncomputable def FN (K:PySem.W.Frag) (ζ:Cs):Sp:=fun vs H Q _=>∃ (x:Addr) (r l:Int) (d:Int) (hs:List Int) (ps:List Pst) (sums:List (List Lin)),vs=[.ref x,.int r,.int l]∧TermsAt ζ.b ζ.a H x d hs ps sums∧Q (.bl (cJ sums (r,l,0)).isSome) H
theorem Lx:aN ["terms","rule","line"] ["terms","rule","line"] (aq vP):=⟨rfl,rfl,rfl,k!,rfl,k!,k!⟩
theorem Ly {ζ:Cs} {f:Addr} {fd:FuncData} (F:Fun K "is_there" "is_there" vP f fd) (T:Txt K mg ζ) :bA P w K mg base CX0 1 f fd ["terms","rule","line"] (FN K ζ):=by
 refine F.ok Lx (fun vs H Q E h=>?_) (fun cdv A outer s H vs Q E hr h=>?_)
 ·obtain⟨x,r,l,d,hs,ps,sums,rfl,_⟩:=h
  rfl
 ·obtain⟨x,r,l,d,hs,ps,sums,rfl,hT,q⟩:=h
  refine⟨_,(@az _ _ _ (@aK _ _ _ _ (cG (cT dh dZ ao (pv 1) (bx (bC (K:=K) rfl) (by rfl) T.len PySem.boot_len (@aa _ _ _ _ _ (aZ (pv 0) rfl) ak (by rfl)))) (dq (cT dh dZ ao (pv 2) (bx (bC (K:=K) rfl) (by rfl) T.len PySem.boot_len (@aa _ _ _ _ _ (@bc _ _ _ _ _ _ _ bI (aZ (pv 0) rfl) (pv 1) (fun _ _=>rfl)) ak (by rfl)))))))),?_⟩
  obtain⟨dx,y,rt,st,vr,vss,t1,t2,t3,t4,t5⟩:=hT.ex
  have hvl:=Paired.length t5
  walk_at "rd"
  by_cases r0:0≤r
  ·rw [if_pos r0]
   refine⟨_,_,_,t1,T.cl_Terms,T.n_Terms_sums,_,oF _ _ _,st,rfl,_,.inr (SqT.of t4),?_⟩
   by_cases r1:r < (vss.length:Int)
   ·rw [if_pos r1]
    have hr:r.toNat < sums.length:=by omega
    obtain⟨v,ev,tv,ul,rfl,q1,q2⟩:=Paired.at t5 (List.getElem?_eq_getElem hr)
    by_cases l0:0≤l
    ·rw [if_pos l0]
     have ea:=cY ev
     rw [show ((r.toNat:Nat):Int)=r by omega] at ea
     refine⟨_,_,_,t1,T.cl_Terms,T.n_Terms_sums,_,oF _ _ _,st,rfl,_,SqT.of t4,_,ea,tv,rfl,_,.inr (SqT.of q1),?_⟩
     rw [qz r0 (List.getElem?_eq_getElem hr) l0] at q
     have hull:=Paired.length q2
     by_cases z:l < (ul.length:Int)
     ·rw [decide_eq_true z]
      rw [List.getElem?_eq_getElem (by omega)] at q
      exact q
     ·rw [decide_eq_false z]
      rw [List.getElem?_eq_none (by omega)] at q
      exact q
    ·rw [if_neg l0]
     rw [CK (fun z=>l0 z.2)] at q
     exact q
   ·rw [if_neg r1]
    rw [Eh (by omega)] at q
    exact q
  ·rw [if_neg r0]
   rw [CK (fun z=>r0 z.1)] at q
   exact q
noncomputable def FP (K:PySem.W.Frag) (ζ:Cs):Sp:=fun vs H Q _=>∃ (x pd ut:Addr) (d:Int) (hs:List Int) (ps:List Pst) (sums:List (List Lin)) (pns:List (List Key×V)) (uv:List V) (us:List Tri),vs=[.ref x,.ref pd,.ref ut]∧TermsAt ζ.b ζ.a H x d hs ps sums∧Ok d hs ps∧H pd=some (.dT pns)∧dX pns∧H ut=some (.tup uv)∧Tris H uv us∧uX us∧(∀ls∈sums,qm hs.length d.toNat (ps.length + 1) ls)∧∀H',Same H H'→Q (.bl (rQ sums us pns (fun h=>ch (hs[h]?.getD 0) ps) hs.length d.toNat)) H'
theorem Lz:aN ["terms","pins","uses"] ["terms","pins","uses"] (aq jz):=⟨rfl,rfl,rfl,k!,rfl,k!,k!⟩
theorem LC {ζ:Cs} {f:Addr} {fd:FuncData} (F:Fun K "ends" "ends" jz f fd) (T:Txt K mg ζ) (zdZ_:Cal P w K mg base "closes" ["ward","pins","pairs"] 4 (FJ K ζ)) (zdo_:Cal P w K mg base "is_there" ["terms","rule","line"] 1 (FN K ζ)):bA P w K mg base CX0 5 f fd ["terms","pins","uses"] (FP K ζ):=by
 refine F.ok Lz (fun vs H Q E h=>?_) (fun cdv A outer s H vs Q E hr h=>?_)
 ·obtain⟨x,pd,ut,d,hs,ps,sums,pns,uv,us,rfl,_⟩:=h
  rfl
 ·obtain⟨x,pd,ut,d,hs,ps,sums,pns,uv,us,rfl,hT,okw,hp,aip,eu,hU,uok,hf,q⟩:=h
  refine⟨_,(@au _ _ _ _ _ (@bF _ _ _ _ _ _ _ _ (fZ (dM (bx (xR rfl) (by rfl) T.all PyProof.Rows.boot_all (@aa _ _ _ _ _ (cB (own:=["rule","line","times"]) (fnames:=["terms"]) (fr:=[0]) (N':=["rule","line","times","terms"]) ⟨rfl,rfl,rfl,rfl,rfl,rfl,rfl⟩ rfl (nA (pv 2)) (fun s0 H0 fp0 C0=>⟨(jH (K:=K) (n:=3) rfl rfl (aO (aB (i:=0) (by show (["rule","line","times","terms"]:List Str).Nodup;decide +kernel) rfl (Or.inl rfl)) (aO (aB (i:=1) (by show (["rule","line","times","terms"]:List Str).Nodup;decide +kernel) rfl (Or.inl rfl)) (aO (aB (i:=2) (by show (["rule","line","times","terms"]:List Str).Nodup;decide +kernel) rfl (Or.inl rfl)) bV)))),cu,(cG (aM zdo_ (hr.mono (by decide)) rfl (@aa _ _ _ _ _ (pv 3) (@aa _ _ _ _ _ (pv 0) (@aa _ _ _ _ _ (pv 1) ak (by rfl)) (by rfl)) (by rfl))) (dq (cX lR (pv 2) ao (aR _))))⟩)) ak (by rfl))))) (@az _ _ _ (@aK _ _ _ _ oZ)) aX) (@az _ _ _ (@aK _ _ _ _ (aM zdZ_ (hr.mono (by decide)) rfl (@aa _ _ _ _ _ (aZ (pv 0) rfl) (@aa _ _ _ _ _ (pv 1) (@aa _ _ _ _ _ (cB (own:=["rule","line","times"]) (fnames:=["terms"]) (fr:=[0]) (N':=["rule","line","times","terms"]) ⟨rfl,rfl,rfl,rfl,rfl,rfl,rfl⟩ rfl (nA (pv 2)) (fun s0 H0 fp0 C0=>⟨(jH (K:=K) (n:=3) rfl rfl (aO (aB (i:=0) (by show (["rule","line","times","terms"]:List Str).Nodup;decide +kernel) rfl (Or.inl rfl)) (aO (aB (i:=1) (by show (["rule","line","times","terms"]:List Str).Nodup;decide +kernel) rfl (Or.inl rfl)) (aO (aB (i:=2) (by show (["rule","line","times","terms"]:List Str).Nodup;decide +kernel) rfl (Or.inl rfl)) bV)))),cu,(@aP _ _ _ _ _ (@aa _ _ _ _ _ (@bc _ _ _ _ _ _ _ (cP (K:=K) rfl) (@bc _ _ _ _ _ _ _ (cP (K:=K) rfl) (gU (K:=K) rfl (pv 3) rfl) (pv 0) (fun _ _=>rfl)) (pv 1) (fun _ _=>rfl)) (@aa _ _ _ _ _ (pv 2) ak (by rfl)) (by rfl)))⟩)) ak (by rfl)) (by rfl)) (by rfl)))))),?_⟩
  refine aA fun U1 u1=>?_
  walk_at "rd"
  have hvl:=Paired.length hU
  refine⟨⟨_,SqT.of eu⟩,fun D hD=>iJ (xs:=uv) (fun i σ H'=>Same H H'∧H' D=some (.lst (((us.take i).map (okU sums)).map V.bl))∧∃v0 v1 v2,σ=[v0,v1,v2,some (.ref x)]) ⟨same_new hD _,aj,none,none,none,rfl⟩ (fun i σ H' _ hh=>SqT.of (hh.1 _ _ eu)) ?_ ?_⟩
  ·rintro i v σ H' hx ⟨g,e,v0,v1,v2,rfl⟩
   obtain⟨u,hu,t,rfl,qt⟩:=Paired.get' hU hx
   have hi:=(List.getElem?_eq_some_iff.mp hu).1
   have u6:=uok.1
   walk_at "rd"
   refine⟨_,SqT.of (g _ _ qt),rfl,_,_,rfl,_,_,rfl,_,_,rfl,rfl,?_⟩
   refine⟨x,u.1,u.2.1,d,hs,ps,sums,rfl,hT.mono g,_,rfl,?_⟩
   have et:((us.take (i + 1)).map (okU sums)).map V.bl=((us.take i).map (okU sums)).map V.bl ++ [V.bl (okU sums u)]:=by
    rw [bh hu,List.map_append,List.map_append]
    rfl
   have hl:(((us.take i).map (okU sums)).map V.bl).length < sizeLine:=aW (by rw [List.length_map,List.length_map,List.length_take];lia)
   cases z:(cJ sums (u.1,u.2.1,0)).isSome with
   | true =>
    rw [if_pos rfl]
    have eo:okU sums u=decide (1≤u.2.2):=by
     show ((cJ sums (u.1,u.2.1,0)).isSome && _)=_
     rw [z]
     rfl
    exact⟨_,rfl,_,e,hl,aY hD g _,by rw [aj,et,eo]⟩
   | false =>
    rw [if_neg (by decide)]
    have eo:okU sums u=false:=by
     show ((cJ sums (u.1,u.2.1,0)).isSome && _)=_
     rw [z]
     rfl
    exact⟨_,e,hl,aY hD g _,by rw [aj,et,eo]⟩
  rintro σ H1 ⟨g1,e1,v0,v1,v2,rfl⟩
  rw [hvl,List.take_length] at e1
  refine⟨_,SqL.of e1,?_⟩
  have ea:(us.map (okU sums)).all id=us.all (okU sums):=by
   rw [List.all_map]
   rfl
  rw [ea]
  cases z:us.all (okU sums) with
  | false =>
   rw [if_pos rfl]
   have h1:=q H1 g1
   unfold rQ at h1
   rw [z] at h1
   exact h1
  | true =>
  rw [if_neg (by decide)]
  rw [u1];clear u1
  obtain⟨dx,y,rt,st,vr,vss,t1,t2,t3,t4,t5⟩:=(hT.mono g1).ex
  walk_at "rd"
  refine⟨_,_,_,t1,T.cl_Terms,T.n_Terms_ward,_,oE _ _ _,⟨_,SqT.of (g1 _ _ eu)⟩,fun E hE=>iJ (xs:=uv) (fun i σ H'=>PaG H1 E (usL sums us) i H'∧∃v0 v1 v2,σ=[v0,v1,v2,some (.ref x)]) ⟨PaG.start hE,none,none,none,rfl⟩ (fun i σ H' _ hh=>SqT.of ((g1.trans hh.1.same) _ _ eu)) ?_ ?_⟩
  ·rintro i v σ H' hx ⟨pg,v0,v1,v2,rfl⟩
   obtain⟨u,hu,t,rfl,qt⟩:=Paired.get' hU hx
   have hi:=(List.getElem?_eq_some_iff.mp hu).1
   have u6:=uok.1
   have g:=g1.trans pg.same
   have hok:okU sums u=true:=(List.all_eq_true.mp z) u (List.mem_of_getElem? hu)
   obtain⟨r0,r1,l0,m1,ls,ℓ,er,el,en⟩:=Bg hok
   obtain⟨v,ev,tv,ul,rfl,q1,q2⟩:=Paired.at t5 er
   obtain⟨w,ew,q3⟩:=Paired.at q2 el
   obtain⟨t',u',ts',rfl,w1,w2,w3⟩:=q3
   have ea:=cY ev
   rw [show ((u.1.toNat:Nat):Int)=u.1 by lia] at ea
   have eb:=cY ew
   rw [show ((u.2.1.toNat:Nat):Int)=u.2.1 by lia] at eb
   walk_at "rd"
   refine⟨_,SqT.of (g _ _ qt),rfl,_,_,rfl,_,_,rfl,_,_,rfl,rfl,?_⟩
   have h':=pg.same
   refine⟨_,_,_,h' _ _ t1,T.cl_Terms,T.n_Terms_sums,_,oF _ _ _,st,rfl,_,_,rfl,SqT.of (h' _ _ t4),_,ea,tv,rfl,_,_,rfl,SqT.of (h' _ _ q1),_,eb,by decide,fun p hp'=>?_⟩
   have hl:(usL sums us)[i]? = some (ℓ,u.2.2):=by
    unfold usL
    rw [List.getElem?_map,hu]
    show some ((cJ sums u).getD gQ,u.2.2)=_
    rw [en]
    rfl
   exact pg.step (l:=(ℓ,u.2.2)) hE (by lia) hl (LinV.mono (aF h') ⟨t',u',ts',rfl,w1,w2,w3⟩) hp'
  rintro σ H2 ⟨pg,v0,v1,v2,rfl⟩
  obtain⟨up,g2,eE,hPr⟩:=pg.ex
  rw [hvl,show us.length=(usL sums us).length from (List.length_map ..).symm,List.take_length] at hPr
  refine⟨y,pd,E,d,hs,ps,pns,up,usL sums us,rfl,t2.mono g2,okw,(g1.trans g2) _ _ hp,aip,eE,hPr,uh uok,?_,Eg hf us,fun H3 g3=>?_⟩
  ·have h1:=jw (sums:=sums) (fun ls hls ℓ hℓ=>((hf ls hls).2 ℓ hℓ).1) us
   have h2:=uok.1
   lia
  ·have h1:=q H3 (g1.trans (g2.trans g3))
   unfold rQ at h1
   rw [z,Bool.true_and] at h1
   exact h1
noncomputable def FQ (K:PySem.W.Frag) (ζ:Cs):Sp:=fun vs H Q _=>∃ (x pd:Addr) (sv:V) (st:Stp) (d:Int) (hs:List Int) (ps:List Pst) (sums:List (List Lin)) (pns:List (List Key×V)),vs=[.ref x,.ref pd,sv]∧TermsAt ζ.b ζ.a H x d hs ps sums∧Ok d hs ps∧(∀ls∈sums,qm hs.length d.toNat (ps.length + 1) ls)∧H pd=some (.dT pns)∧dX pns∧StpV H sv st∧lN st∧∀H',Same H H'→Q (.bl (isStep (iD sums hs ps d) pns st)) H'
theorem LK:aN ["terms","pins","step"] ["terms","pins","step"] (aq vQ):=⟨rfl,rfl,rfl,k!,rfl,k!,k!⟩
theorem LQ {ζ:Cs} {f:Addr} {fd:FuncData} (F:Fun K "is_step" "is_step" vQ f fd) (T:Txt K mg ζ) (zdA_:Cal P w K mg base "is_free" ["ward","pins","hand","day"] 2 (Fx K ζ)) (C_ends:Cal P w K mg base "ends" ["terms","pins","uses"] 5 (FP K ζ)):bA P w K mg base CX0 6 f fd ["terms","pins","step"] (FQ K ζ):=by
 refine F.ok LK (fun vs H Q E h=>?_) (fun cdv A outer s H vs Q E hr h=>?_)
 ·obtain⟨x,pd,sv,st,d,hs,ps,sums,pns,rfl,_⟩:=h
  rfl
 ·obtain⟨x,pd,sv,st,d,hs,ps,sums,pns,rfl,hT,okw,hf,ep,aip,hs0,hus,q⟩:=h
  refine⟨_,(@au _ _ _ _ _ (@bF _ _ _ _ _ _ _ _ (@aQ _ _ _ _ _ _ _ _ bZ (@bc _ _ _ _ _ _ _ bI (pv 2) ao (fun _ _=>rfl)) cO (aR _)) (@az _ _ _ (@aK _ _ _ _ (aM zdA_ (hr.mono (by decide)) rfl (@aa _ _ _ _ _ (aZ (pv 0) rfl) (@aa _ _ _ _ _ (pv 1) (@aa _ _ _ _ _ (@bc _ _ _ _ _ _ _ bI (pv 2) ao (fun _ _=>rfl)) (@aa _ _ _ _ _ (@bc _ _ _ _ _ _ _ bI (pv 2) ao (fun _ _=>rfl)) ak (by rfl)) (by rfl)) (by rfl)) (by rfl))))) aX) (@az _ _ _ (@aK _ _ _ _ (cG (cX bZ (@bc _ _ _ _ _ _ _ bI (pv 2) ao (fun _ _=>rfl)) cO (aR _)) (dq (aM C_ends (hr.mono (by decide)) rfl (@aa _ _ _ _ _ (pv 0) (@aa _ _ _ _ _ (pv 1) (@aa _ _ _ _ _ (@bc _ _ _ _ _ _ _ bI (pv 2) ao (fun _ _=>rfl)) ak (by rfl)) (by rfl)) (by rfl)))))))),?_⟩
  obtain⟨t,rfl⟩:=hs0.rf
  refine aA fun U1 u1=>?_
  walk_at "rd"
  obtain⟨dx,y,rt,stt,vr,vss,t1,t2,t3,t4,t5⟩:=hT.ex
  cases st with
  | part h d' =>
   obtain⟨t0,e0,et⟩:=part_of hs0
   cases e0
   refine⟨_,SqT.of et,_,rfl,rfl,?_⟩
   rw [if_pos rfl]
   exact⟨_,_,_,t1,T.cl_Terms,T.n_Terms_ward,_,oE _ _ _,_,SqT.of et,_,rfl,_,SqT.of et,_,rfl,y,pd,h,d',d,hs,ps,pns,rfl,t2,okw.d1,ep,q⟩
  | sum us =>
   obtain⟨t0,ut,uv,e0,et,eu,hU⟩:=rW hs0
   cases e0
   refine⟨_,SqT.of et,_,rfl,rfl,?_⟩
   rw [if_neg k!]
   rw [u1];clear u1
   walk_at "rd"
   refine⟨_,SqT.of et,_,rfl,rfl,?_⟩
   rw [if_pos rfl]
   exact⟨_,SqT.of et,_,rfl,x,pd,ut,d,hs,ps,sums,pns,uv,us,rfl,hT,okw,ep,aip,eu,hU,hus,hf,q⟩
  | oth s =>
   obtain⟨t0,vs,e0,et,n1,n2⟩:=yZ hs0
   cases e0
   refine⟨_,SqT.of et,_,at0 _ _,rfl,?_⟩
   rw [if_neg n1]
   rw [u1];clear u1
   walk_at "rd"
   refine⟨_,SqT.of et,_,at0 _ _,rfl,?_⟩
   rw [if_neg n2]
   exact q H (Same.refl _)
noncomputable def FT (K:PySem.W.Frag) (ζ:Cs):Sp:=fun vs H Q _=>∃ (x pd:Addr) (h d D:Int) (hs:List Int) (ps:List Pst) (pns:List (List Key×V)),vs=[.ref x,.ref pd,.int h,.int d]∧WardAt ζ.a H x D hs ps∧Ok D hs ps∧H pd=some (.dT pns)∧PinOk hs.length D.toNat 0 pns∧pns.length≤900∧0≤h∧h < (hs.length:Int)∧0≤d∧d < D∧∀r us H',Same H H'→H r=none→H' r=some (.lst us)→Dcts H' us (eF pns (ch (hs[h.toNat]?.getD 0) ps) h d)→Frs H us→Q (.ref r) H'
theorem zcX_:aN ["ward","pins","hand","day","cases","value","case"] ["ward","pins","hand","day"] (aq vU):=⟨rfl,rfl,rfl,k!,rfl,k!,k!⟩
theorem LR {ζ:Cs} {f:Addr} {fd:FuncData} (F:Fun K "parted" "parted" vU f fd) (T:Txt K mg ζ) (zM_:cU P w K mg base ζ.a "choices" ["self","hand"] 2 (Bo K ζ)):bA P w K mg base CX0 3 f fd ["ward","pins","hand","day"] (FT K ζ):=by
 refine F.ok zcX_ (fun vs H Q E h=>?_) (fun cdv A outer s H vs Q E hr h=>?_)
 ·obtain⟨x,pd,h,d,D,hs,ps,pns,rfl,_⟩:=h
  rfl
 ·obtain⟨x,pd,h,d,D,hs,ps,pns,rfl,hW,okw,ep,pok,pl,h0,h1,d0,d1,q⟩:=h
  refine⟨_,(@au _ _ _ _ _ (aV (i:=4) zcX_.nd rfl (Or.inl rfl) (@bw _ _ _ _ ak)) (@au _ _ _ _ _ (bN PassesOwn.never rfl (yW rfl T.reversed (bT zM_ (hr.mono (by decide)) (pv 0) (@aa _ _ _ _ _ (pv 2) ak (by rfl)))) (aB (i:=5) zcX_.nd rfl (Or.inl rfl))
   (@au _ _ _ _ _ (aV (i:=6) zcX_.nd rfl (Or.inl rfl) (bG kY (by rfl) T.dict PyProof.Rows.boot_dict (@aa _ _ _ _ _ (pv 1) ak (by rfl)))) (@au _ _ _ _ _ (iU (dU hr) (pv 6) (@aP _ _ _ _ _ (@aa _ _ _ _ _ (pv 2) (@aa _ _ _ _ _ (pv 3) ak (by rfl)) (by rfl))) (pv 5) rfl) (@az _ _ _ (bY (d7 PySem.F.plainAttrs_list PySem.F.slot_list_append PySem.F.type_list_append cj (pv 4) (@aa _ _ _ _ _ (pv 6) ak (by rfl)))))))) (@az _ _ _ (@aK _ _ _ _ (pv 4))))),?_⟩
  refine aA fun U1 u1=>?_
  walk_at "rd"
  refine⟨Nat.zero_le _,fun L hL=>?_⟩
  have g0:=same_new hL (.lst [])
  rw [u1];clear u1
  refine aA fun U1 u1=>bU fun B1 b1=>?_
  walk_at "rd"
  obtain⟨dx,ha,pa,ts,w1,w2,w3,w4⟩:=hW.ex
  have hh:h.toNat < hs.length:=by lia
  have eh:hs[h.toNat]? = some hs[h.toNat]:=List.getElem?_eq_getElem hh
  refine⟨_,_,g0 _ _ w1,rfl,x,D,hs,ps,h.toNat,hs[h.toNat],by rw [Int.toNat_of_nonneg h0],hW.mono g0,eh,okw.pl,fun rc H1 nw=>⟨rc,rfl,_,SqL.of nw.2.2,?_⟩⟩
  obtain⟨g1,f1,e1⟩:=nw
  rw [eh,Option.getD_some] at q
  have owl:(ch hs[h.toNat] ps).length≤9:=by
   have h2:=j5 hs[h.toNat] ps
   have h3:=okw.pl
   lia
  generalize ch hs[h.toNat] ps=ow at e1 q owl
  have lf0:LfI H L [] H1:=⟨[],g0.trans g1,g1 _ _ aj,.nil⟩
  have nrc:rc≠L:=(aH (aj (H:=H) (a:=L) (o:=.lst [])) f1).symm
  refine qF (xs:=ow.map V.int) (fun i σ H'=>(LfI H L ((ow.reverse.take i).map fun v=>putK pns (k2 h d) (.int v)) H'∧H' rc=some (.lst (ow.map V.int))∧FrL H L H')∧∃v5 v6,σ=[some (.ref x),some (.ref pd),some (.int h),some (.int d),some (.ref L),v5,v6]) ⟨⟨lf0,e1,⟨[],g1 _ _ aj,fun d z=>by cases z⟩⟩,none,none,rfl⟩ (fun i σ H' _ hh=>SqL.of hh.1.2.1) ?_ ?_
  ·rintro i v σ H' hx ⟨⟨lf,er,fr⟩,v5,v6,rfl⟩
   rw [← List.map_reverse] at hx
   obtain⟨z,hz,rfl⟩:=eU hx
   have hi:=(List.getElem?_eq_some_iff.mp hz).1
   rw [List.length_reverse] at hi
   rw [b1]
   refine aA fun U2 u2=>?_
   walk_at "rd"
   refine⟨pns,lf.same _ _ ep,pok.hash okw.hl (by have:=okw.d2;lia) _ _,fun p hp=>?_⟩
   rw [u2];clear u2
   refine aA fun U2 u2=>?_
   walk_at "rd"
   refine⟨by decide,fun pk hpk=>?_⟩
   have y1:=same_new hp (.dT pns)
   have y2:=same_new hpk (.tup [.int h,.int d])
   have ep2:=y2 _ _ (aj (H:=H') (a:=p) (o:=.dT pns))
   refine⟨_,DPut.t (k:=k2 h d) ep2 aj (aW (by lia)),?_⟩
   have gN:Same H' (upd (upd (upd H' p (.dT pns)) pk (.tup [.int h,.int d])) p (.dT (putK pns (k2 h d) (.int z)))):=aY hp (y1.trans y2) _
   have epN:=aj (H:=upd (upd H' p (.dT pns)) pk (.tup [.int h,.int d])) (a:=p) (o:=.dT (putK pns (k2 h d) (.int z)))
   generalize upd (upd (upd H' p (.dT pns)) pk (.tup [.int h,.int d])) p (.dT (putK pns (k2 h d) (.int z)))=H3 at gN epN ⊢
   have lf3:=lf.mono gN
   obtain⟨us3,g3,eL3,hD3⟩:=lf3.ex
   have hl3:=Paired.length hD3
   rw [List.length_map,List.length_take,List.length_reverse] at hl3
   rw [u2];clear u2
   walk_at "rd"
   refine⟨.inl ⟨rfl,_,SqL.of eL3⟩,_,eL3,aW (by lia),?_,?_,?_⟩
   ·rw [bh hz,List.map_append]
    exact lf3.put hL (bz hD3 ⟨p,rfl,epN,(pok.plain2 h0 h1 d0 (by lia) z).plain⟩)
   ·rw [aG nrc]
    exact gN _ _ er
   ·obtain⟨usf,ef,hf⟩:=fr
    have ef3:=gN _ _ ef
    rw [eL3] at ef3
    cases ef3
    exact⟨_,aj,hf.snoc (lf.same.free hp)⟩
  rintro σ H' ⟨⟨lf,er,fr⟩,v5,v6,rfl⟩
  rw [u1];clear u1
  walk_at "rd"
  obtain⟨us,g,eL,hD⟩:=lf.ex
  rw [List.length_map,show ow.length=ow.reverse.length from (List.length_reverse ..).symm,List.take_length] at hD
  obtain⟨usf,ef,hf⟩:=fr
  rw [eL] at ef
  cases ef
  exact q L us H' g hL eL hD hf
noncomputable def Bp (K:PySem.W.Frag) (ζ:Cs):Sp:=fun vs H Q _=>∃ (x pl:Addr) (d:Int) (hs:List Int) (ps:List Pst) (sums:List (List Lin)) (uv:List V) (sts:List Stp),vs=[.ref x,.ref pl]∧TermsAt ζ.b ζ.a H x d hs ps sums∧Ok d hs ps∧(∀ls∈sums,qm hs.length d.toNat (ps.length + 1) ls)∧H pl=some (.lst uv)∧Stps H uv sts∧(∀st∈sts,lN st)∧sts.length≤20∧(cV (iD sums hs ps d) sts=none→∀H',Same H H'→Q .non H')∧∀cs,cV (iD sums hs ps d) sts=some cs→∀r us H',Same H H'→H r=none→H' r=some (.lst us)→Dcts H' us cs→CsOk hs.length d.toNat 20 cs→Frs H us→Q (.ref r) H'
theorem zdH_:aN ["terms","paper","cases","step","pins"] ["terms","paper"] (aq jA):=⟨rfl,rfl,rfl,k!,rfl,k!,k!⟩
theorem Ma {ζ:Cs} {f:Addr} {fd:FuncData} (F:Fun K "left" "left" jA f fd) (T:Txt K mg ζ) (zdC_:Cal P w K mg base "is_step" ["terms","pins","step"] 6 (FQ K ζ)) (zea_:Cal P w K mg base "parted" ["ward","pins","hand","day"] 3 (FT K ζ)):bA P w K mg base CX0 7 f fd ["terms","paper"] (Bp K ζ):=by
 refine F.ok zdH_ (fun vs H Q E h=>?_) (fun cdv A outer s H vs Q E hr h=>?_)
 ·obtain⟨x,pl,d,hs,ps,sums,uv,sts,rfl,_⟩:=h
  rfl
 ·obtain⟨x,pl,d,hs,ps,sums,uv,sts,rfl,hT,okw,hf,epl,hSt,hus,s20,q1,q2⟩:=h
  refine⟨_,(@au _ _ _ _ _ (aV (i:=2) zdH_.nd rfl (Or.inl rfl) (@bw _ _ _ _ (@aa _ _ _ _ _ iV ak (by rfl)))) (@au _ _ _ _ _ (bN PassesOwn.never rfl (bQ (pv 1)) (aB (i:=3) zdH_.nd rfl (Or.inl rfl))
   (@au _ _ _ _ _ (@bF _ _ _ _ _ _ _ _ (PW.pt (dR (@aQ _ _ _ _ _ _ _ _ (jx hr) (pv 2) (@bw _ _ _ _ ak) (aR _)) (dN (fZ (dM (aM zdC_ (hr.mono (by decide)) rfl (@aa _ _ _ _ _ (pv 0) (@aa _ _ _ _ _ (@bc _ _ _ _ _ _ _ cD (pv 2) (@cW _ _ _ _ _ _ cz ao) (fun _ _=>rfl)) (@aa _ _ _ _ _ (pv 3) ak (by rfl)) (by rfl)) (by rfl)))))))) (@az _ _ _ (@aK _ _ _ _ dm)) aX) (@au _ _ _ _ _ (aV (i:=4) zdH_.nd rfl (Or.inl rfl) (qW PySem.F.plainAttrs_list PySem.F.slot_list_pop PySem.F.type_list_pop Dq (pv 2))) (@az _ _ _ (@bF _ _ _ _ _ _ _ _ (@aQ _ _ _ _ _ _ _ _ bZ (@bc _ _ _ _ _ _ _ bI (pv 3) ao (fun _ _=>rfl)) cO (aR _)) (@az _ _ _ (bY (d7 PySem.F.plainAttrs_list PySem.F.slot_list_extend PySem.F.type_list_extend jm (pv 2) (@aa _ _ _ _ _ (aM zea_ (hr.mono (by decide)) rfl (@aa _ _ _ _ _ (aZ (pv 0) rfl) (@aa _ _ _ _ _ (pv 4) (@aa _ _ _ _ _ (@bc _ _ _ _ _ _ _ bI (pv 3) ao (fun _ _=>rfl)) (@aa _ _ _ _ _ (@bc _ _ _ _ _ _ _ bI (pv 3) ao (fun _ _=>rfl)) ak (by rfl)) (by rfl)) (by rfl)) (by rfl))) ak (by rfl))))) aX))))) (@az _ _ _ (@aK _ _ _ _ (pv 2))))),?_⟩
  refine aA fun U1 u1=>?_
  walk_at "rd"
  intro p hp
  refine⟨by decide,fun L hL=>?_⟩
  have y1:=same_new hp (.dT [])
  have y2:=same_new hL (.lst [.ref p])
  have hL0:=y1.free hL
  have lf:LfI H L [[]] (upd (upd H p (.dT [])) L (.lst [.ref p])):=⟨[.ref p],y1.trans y2,aj,.cons ⟨p,rfl,y2 _ _ aj,fun kv z=>by cases z⟩ .nil⟩
  have frl:FrL H L (upd (upd H p (.dT [])) L (.lst [.ref p])):=⟨_,aj,fun d z=>by rw [V.ref.inj (List.mem_singleton.mp z)];exact hp⟩
  generalize upd (upd H p (.dT [])) L (.lst [.ref p])=H1 at lf frl ⊢
  rw [u1];clear u1
  refine aA fun U1 u1=>bU fun B1 b1=>?_
  walk_at "rd"
  have hul:=Paired.length hSt
  refine⟨⟨_,SqL.of (lf.same _ _ epl)⟩,bB (xs:=uv) (fun i σ H'=>(∃cs,cV (iD sums hs ps d) (sts.take i)=some cs∧LfI H L cs H'∧CsOk hs.length d.toNat i cs∧FrL H L H')∧∃v3 v4,σ=[some (.ref x),some (.ref pl),some (.ref L),v3,v4]) ⟨⟨[[]],rfl,lf,CsOk.init,frl⟩,none,none,rfl⟩ (fun i σ H' _ hh=>by obtain⟨⟨cs,_,lf,_⟩,_⟩:=hh;exact SqL.of (lf.same _ _ epl)) ?_ ?_⟩
  ·clear lf
   rintro i v σ H' hx ⟨⟨cs,hc,lf,cok,fr⟩,v3,v4,rfl⟩
   obtain⟨st,hst,hsv⟩:=Paired.get' hSt hx
   have hi:=(List.getElem?_eq_some_iff.mp hst).1
   have hsnoc:cV (iD sums hs ps d) (sts.take (i + 1))=il (iD sums hs ps d) cs st:=by
    rw [bh hst,fQ,hc]
    rfl
   obtain⟨tv,rfl⟩:=hsv.rf
   rw [b1]
   refine aA fun U2 u2=>?_
   obtain⟨us,g,eL,hD⟩:=lf.ex
   obtain⟨usf,ef,hfr⟩:=fr
   rw [eL] at ef
   cases ef
   walk_at "rd"
   refine⟨Nat.zero_le _,fun e he=>?_⟩
   have ge:=same_new he (.lst [])
   refine⟨e,rfl,SqL.of aj,.inr ⟨L,us,rfl,SqL.of (ge _ _ eL),_,rfl,?_⟩⟩
   replace g:=g.trans ge
   replace eL:=ge _ _ eL
   replace hD:=Dcts.mono ge hD
   replace lf:=lf.mono ge
   clear ge he
   generalize upd H' e (.lst [])=H2 at g eL hD lf ⊢
   rcases oR cs with rfl | ⟨cs',pns,rfl⟩
   ·cases hD
    rw [if_pos (by rw [decide_eq_true rfl])]
    exact q1 (qH (i:=i + 1) hsnoc) H2 g
   obtain⟨us',w,rfl,hD',hw⟩:=Paired.split hD
   obtain⟨pd,rfl,epd,ppl⟩:=hw
   have hfr':Frs H us':=fun d z=>hfr d (List.mem_append_left _ z)
   rw [if_neg (by simp)]
   have pok:=cok.2 pns (List.mem_append_right _ (List.mem_singleton.mpr rfl))
   refine⟨_,SqL.of eL,_,yX _ _,x,pd,.ref tv,st,d,hs,ps,sums,pns,rfl,hT.mono g,okw,hf,epd,pok.1.ai,hsv.tmono (aF g),hus st (List.mem_of_getElem? hst),fun H3 g3=>⟨_,rfl,?_⟩⟩
   rw [fU] at hsnoc
   cases z:isStep (iD sums hs ps d) pns st with
   | false =>
    rw [if_pos rfl]
    rw [z,if_neg (by decide)] at hsnoc
    exact q1 (qH (i:=i + 1) hsnoc) H3 (g.trans g3)
   | true =>
   rw [if_neg (by decide)]
   rw [z,if_pos rfl] at hsnoc
   have cok2:=cok.step (c:=iD sums hs ps d) (fun h _=>by have:=j5 (hs[h]?.getD 0) ps;have:=okw.pl;show (ch (hs[h]?.getD 0) ps).length≤9;lia) z
   replace g:=g.trans g3
   replace eL:=g3 _ _ eL
   replace hD':=Dcts.mono g3 hD'
   replace epd:=g3 _ _ epd
   replace lf:=lf.mono g3
   rw [u2];clear u2
   refine aA fun U2 u2=>?_
   walk_at "rd"
   refine⟨.inl ⟨rfl,_,SqL.of eL⟩,L,us' ++ [.ref pd],.ref pd,rfl,rfl,eL,by simp,?_⟩
   rw [List.dropLast_concat]
   have lf2:=lf.put hL0 hD'
   have npL:pd≠L:=fun y=>by rw [y,eL] at epd;cases epd
   have epd2:upd H3 L (.lst us') pd=some (.dT pns):=by rw [aG npL];exact epd
   have eL4':=aj (H:=H3) (a:=L) (o:=.lst us')
   generalize upd H3 L (.lst us')=H4 at lf2 epd2 eL4' ⊢
   have g4:=lf2.same
   have hT4:=hT.mono g4
   have hsv4:=hsv.tmono (aF g4)
   obtain⟨us4,_,eL4,hD4⟩:=lf2.ex
   rw [eL4'] at eL4
   cases eL4
   have eL4:=eL4'
   rw [u2];clear u2
   walk_at "rd"
   cases st with
   | part h d' =>
    obtain⟨t0,e0,et⟩:=part_of hsv4
    cases e0
    obtain⟨dx,y,rt,stt,vr,vss,t1,t2,t3,t4,t5⟩:=hT4.ex
    obtain⟨f0,f1,f2,f3,fv⟩:=oO (show isFree hs.length d.toNat pns h d'=true from z)
    refine⟨_,SqT.of et,_,rfl,rfl,?_⟩
    rw [if_pos rfl]
    refine⟨.inl ⟨rfl,_,SqL.of eL4⟩,_,_,_,t1,T.cl_Terms,T.n_Terms_ward,_,oE _ _ _,_,SqT.of et,_,rfl,_,SqT.of et,_,rfl,y,pd,h,d',d,hs,ps,pns,rfl,t2,okw,epd2,pok.1,by have:=pok.2;lia,f0,f1,f2,by lia,fun r ur H5 g5 hr er hDr hfu=>?_⟩
    have hl1:=Paired.length hD4
    have hl2:=Paired.length hDr
    have hl3:=cok2.1
    rw [List.length_append,show (qG (iD sums hs ps d) pns (.part h d')).length=ur.length from hl2.symm] at hl3
    refine⟨r,rfl,us',g5 _ _ eL4,ur,er,dO (by lia),_,hsnoc,(lf2.mono g5).put hL0 (Paired.app (Dcts.mono g5 hD4) hDr),cok2,_,aj,hfr'.app (hfu.back g4)⟩
   | sum us0 =>
    obtain⟨t0,ut,uv0,e0,et,eu,hU⟩:=rW hsv4
    cases e0
    refine⟨_,SqT.of et,_,rfl,rfl,?_⟩
    rw [if_neg k!]
    have e:cs' ++ qG (iD sums hs ps d) pns (.sum us0)=cs':=List.append_nil _
    rw [e] at hsnoc cok2
    exact⟨cs',hsnoc,lf2,cok2,us',eL4,hfr'⟩
   | oth s =>
    have z:false=true:=z
    cases z
  clear lf
  rintro σ H' ⟨⟨cs,hc,lf,cok,fr⟩,v3,v4,rfl⟩
  rw [u1];clear u1
  walk_at "rd"
  rw [hul,List.take_length] at hc
  obtain⟨us,g,eL,hD⟩:=lf.ex
  obtain⟨usf,ef,hfr⟩:=fr
  rw [eL] at ef
  cases ef
  exact q2 cs hc L us H' g hL0 eL hD (CsOk.mono cok (by lia)) hfr
noncomputable def FW (_:PySem.W.Frag) (ζ:Cs):Sp:=fun vs H Q _=>∃d:Int,vs=[.int d]∧1≤d∧d≤31∧Q .non H
theorem Mf:aN ["days"] ["days"] (aq wu):=⟨rfl,rfl,rfl,k!,rfl,k!,k!⟩
theorem Mg {ζ:Cs} {f:Addr} {fd:FuncData} (F:Fun K "need_month" "need_month" wu f fd) (T:Txt K mg ζ) :bA P w K mg base CX0 1 f fd ["days"] (FW K ζ):=by
 refine F.ok Mf (fun vs H Q E h=>?_) (fun cdv A outer s H vs Q E hr h=>?_)
 ·obtain⟨n,rfl,_⟩:=h
  rfl
 ·obtain⟨n,rfl,n0,n1,q⟩:=h
  refine⟨_,(@az _ _ _ (@bF _ _ _ _ _ _ _ _ (PW.pt (dR (@aQ _ _ _ _ _ _ _ _ dZ (pv 0) ao (aR _)) (dN (@aQ _ _ _ _ _ _ _ _ jQ (pv 0) (gm rfl T.g_MOST_DAYS) (aR _))))) (@az _ _ _ iH) aX)),?_⟩
  walk_at "rd"
  rw [if_neg (by lia),if_neg (by lia)]
  exact q
noncomputable def Bq (_:PySem.W.Frag) (ζ:Cs):Sp:=fun vs H Q _=>∃n:Int,vs=[.int n]∧okH n∧Q (.bl true) H
theorem Mh:aN ["number"] ["number"] (aq wz):=⟨rfl,rfl,rfl,k!,rfl,k!,k!⟩
theorem Mi {ζ:Cs} {f:Addr} {fd:FuncData} (F:Fun K "is_skills" "is_skills" wz f fd) (T:Txt K mg ζ) :bA P w K mg base CX0 1 f fd ["number"] (Bq K ζ):=by
 refine F.ok Mh (fun vs H Q E h=>?_) (fun cdv A outer s H vs Q E hr h=>?_)
 ·obtain⟨n,rfl,_⟩:=h
  rfl
 ·obtain⟨n,rfl,hn,q⟩:=h
  refine⟨_,(@az _ _ _ (@aK _ _ _ _ (cT dh dZ ao (pv 0) (@aD _ _ _ _ _ _ _ _ fj ao ao)))),?_⟩
  walk_at "rd"
  rw [if_pos hn.1]
  refine⟨⟨by decide,by decide,by decide⟩,?_⟩
  rw [show (2:Int) ^ Int.toNat 30=1073741824 by decide,decide_eq_true hn.2]
  exact q
noncomputable def FZ (K:PySem.W.Frag) (ζ:Cs):Sp:=fun vs H Q _=>∃ (a:Addr) (hs:List Int),vs=[.ref a]∧SqL K H a (hs.map V.int)∧(∀x∈hs,okH x)∧hs.length≤8∧∀H',Same H H'→Q .non H'
theorem zco_:aN ["hands","number","skills"] ["hands"] (aq ww):=⟨rfl,rfl,rfl,k!,rfl,k!,k!⟩
theorem Mj {ζ:Cs} {f:Addr} {fd:FuncData} (F:Fun K "need_hands" "need_hands" ww f fd) (T:Txt K mg ζ) (zaL_:Cal P w K mg base "is_skills" ["number"] 1 (Bq K ζ)):bA P w K mg base CX0 2 f fd ["hands"] (FZ K ζ):=by
 refine F.ok zco_ (fun vs H Q E h=>?_) (fun cdv A outer s H vs Q E hr h=>?_)
 ·obtain⟨a,hs,rfl,_⟩:=h
  rfl
 ·obtain⟨a,hs,rfl,hS,hh,hl,q⟩:=h
  refine⟨_,(@az _ _ _ (bN PassesOwn.never rfl (dg rfl T.enumerate (pv 0)) (cL (n:=2) rfl (aO (aB (i:=1) zco_.nd rfl (Or.inl rfl)) (aO (aB (i:=2) zco_.nd rfl (Or.inl rfl)) bV)))
   (@az _ _ _ (@bF _ _ _ _ _ _ _ _ (PW.pt (dR (@aQ _ _ _ _ _ _ _ _ lR (pv 1) (gm rfl T.g_MOST_HANDS) (aR _)) (dN (fZ (dM (aM zaL_ (hr.mono (by decide)) rfl (@aa _ _ _ _ _ (pv 2) ak (by rfl)))))))) (@az _ _ _ iH) aX)))),?_⟩
  walk_at "rd"
  refine⟨⟨_,hS⟩,dD (xs:=hs.map V.int) (fun i σ H'=>Same H H'∧∃v1 v2,σ=[some (.ref a),v1,v2]) ⟨Same.refl H,none,none,rfl⟩ (fun i σ H' _ hh=>hh.1.seq hS) ?_ ?_⟩
  ·rintro i x σ H' t hx ⟨g,v1,v2,rfl⟩ ht
   rw [List.getElem?_map] at hx
   obtain⟨p,hpi,rfl⟩:=Option.map_eq_some_iff.mp hx
   have hi:i < hs.length:=(List.getElem?_eq_some_iff.mp hpi).1
   walk_at "rd"
   refine⟨_,SqT.of aj,rfl,_,_,rfl,_,_,rfl,rfl,?_⟩
   walk_at "rd"
   rw [if_neg (by lia)]
   refine⟨p,rfl,hh p (List.mem_of_getElem? hpi),?_⟩
   walk_at "rd"
   first | exact⟨g.trans (same_new ht _),_,_,rfl⟩ | exact⟨g.trans (same_new ht _),_,rfl⟩ | exact g.trans (same_new ht _)
  ·rintro σ H' ⟨g,_⟩
   exact q H' g
noncomputable def Ga (_:PySem.W.Frag) (ζ:Cs):Sp:=fun vs H Q _=>∃ (t:Addr) (q:Pst),vs=[.ref t]∧H t=some (.tup [.int q.1,.int q.2.1,.int q.2.2])∧okP q∧Q (.bl true) H
theorem Ml:aN ["post"] ["post"] (aq wA):=⟨rfl,rfl,rfl,k!,rfl,k!,k!⟩
theorem Mm {ζ:Cs} {f:Addr} {fd:FuncData} (F:Fun K "is_post" "is_post" wA f fd) (T:Txt K mg ζ) (zaL_:Cal P w K mg base "is_skills" ["number"] 1 (Bq K ζ)):bA P w K mg base CX0 2 f fd ["post"] (Ga K ζ):=by
 refine F.ok Ml (fun vs H Q E h=>?_) (fun cdv A outer s H vs Q E hr h=>?_)
 ·obtain⟨t,p,rfl,_⟩:=h
  rfl
 ·obtain⟨t,p,rfl,ht,hp,q⟩:=h
  refine⟨_,(@az _ _ _ (@aK _ _ _ _ (cG (aM zaL_ (hr.mono (by decide)) rfl (@aa _ _ _ _ _ (@bc _ _ _ _ _ _ _ bI (pv 0) ao (fun _ _=>rfl)) ak (by rfl))) (cG (cT dh dh ao (@bc _ _ _ _ _ _ _ bI (pv 0) ao (fun _ _=>rfl)) (@aD _ _ _ _ _ _ _ _ fj ao ao)) (dq (cT dh dh ao (@bc _ _ _ _ _ _ _ bI (pv 0) ao (fun _ _=>rfl)) ao)))))),?_⟩
  walk_at "rd"
  refine⟨_,SqT.of ht,_,rfl,_,rfl,hp.1,?_⟩
  walk_at "rd"
  refine⟨_,SqT.of ht,_,rfl,?_⟩
  walk_at "rd"
  rw [if_pos hp.2.1.1]
  refine⟨⟨by decide,by decide,by decide⟩,?_⟩
  rw [show (10:Int) ^ Int.toNat 9=1000000000 by decide,if_pos hp.2.1.2]
  refine⟨_,SqT.of ht,_,rfl,?_⟩
  walk_at "rd"
  rw [if_pos hp.2.2.1,decide_eq_true hp.2.2.2]
  exact q
noncomputable def Gb (K:PySem.W.Frag) (ζ:Cs):Sp:=fun vs H Q _=>∃ (a:Addr) (ts:List V) (ps:List Pst),vs=[.ref a]∧SqL K H a ts∧Posts H ts ps∧(∀q∈ps,okP q)∧ps.length≤6∧∀H',Same H H'→Q .non H'
theorem zcq_:aN ["posts","number","post"] ["posts"] (aq wy):=⟨rfl,rfl,rfl,k!,rfl,k!,k!⟩
theorem Mp {ζ:Cs} {f:Addr} {fd:FuncData} (F:Fun K "need_posts" "need_posts" wy f fd) (T:Txt K mg ζ) (zdD_:Cal P w K mg base "is_post" ["post"] 2 (Ga K ζ)):bA P w K mg base CX0 3 f fd ["posts"] (Gb K ζ):=by
 refine F.ok zcq_ (fun vs H Q E h=>?_) (fun cdv A outer s H vs Q E hr h=>?_)
 ·obtain⟨a,ts,ps,rfl,_⟩:=h
  rfl
 ·obtain⟨a,ts,ps,rfl,hS,hT,hp,hl,q⟩:=h
  refine⟨_,(@az _ _ _ (bN PassesOwn.never rfl (lH rfl T.enumerate (pv 0)) (cL (n:=2) rfl (aO (aB (i:=1) zcq_.nd rfl (Or.inl rfl)) (aO (aB (i:=2) zcq_.nd rfl (Or.inl rfl)) bV)))
   (@az _ _ _ (@bF _ _ _ _ _ _ _ _ (PW.pt (dR (@aQ _ _ _ _ _ _ _ _ jQ (pv 1) (gm rfl T.g_MOST_POSTS) (aR _)) (dN (fZ (dM (aM zdD_ (hr.mono (by decide)) rfl (@aa _ _ _ _ _ (pv 2) ak (by rfl)))))))) (@az _ _ _ iH) aX)))),?_⟩
  walk_at "rd"
  refine⟨⟨_,hS⟩,dD (xs:=ts) (fun i σ H'=>Same H H'∧∃v1 v2,σ=[some (.ref a),v1,v2]) ⟨Same.refl H,none,none,rfl⟩ (fun i σ H' _ hh=>hh.1.seq hS) ?_ ?_⟩
  ·rintro i x σ H' t hx ⟨g,v1,v2,rfl⟩ ht
   obtain⟨p,hpi,t',rfl,ht'⟩:=hT.at' hx
   have hi:i < ps.length:=(List.getElem?_eq_some_iff.mp hpi).1
   have g2:=g.trans (same_new ht (.tup [.int (((1 + i:Nat)):Int),.ref t']))
   walk_at "rd"
   refine⟨_,SqT.of aj,rfl,_,_,rfl,_,_,rfl,rfl,?_⟩
   walk_at "rd"
   rw [if_neg (by lia)]
   refine⟨t',p,rfl,g2 _ _ ht',hp p (List.mem_of_getElem? hpi),?_⟩
   walk_at "rd"
   first | exact⟨g2,_,_,rfl⟩ | exact⟨g2,_,rfl⟩ | exact g2
  ·rintro σ H' ⟨g,_⟩
   exact q H' g
noncomputable def Gd (K:PySem.W.Frag) (ζ:Cs):Sp:=fun vs H Q _=>∃ (x dx a b:Addr) (d:Int) (hs:List Int) (ts:List V) (ps:List Pst),vs=[.ref x,.int d,.ref a,.ref b]∧H x=some (.ins ζ.a dx [])∧SqL K H a (hs.map V.int)∧SqL K H b ts∧Posts H ts ps∧Ok d hs ps ∧
 ∀H',(∀c o,H c=some o→c≠x→H' c=some o)→WardAt ζ.a H' x d hs ps→Q .non H'
theorem Mq:aN ["self","days","hands","posts"] ["self","days","hands","posts"] (aq zD_):=⟨rfl,rfl,rfl,k!,rfl,k!,k!⟩
theorem Mr {ζ:Cs} {f:Addr} {fd:FuncData} (F:Fun K "__init__" "Ward.__init__" zD_ f fd) (T:Txt K mg ζ) (zcK_:Cal P w K mg base "need_month" ["days"] 1 (FW K ζ)) (zcL_:Cal P w K mg base "need_hands" ["hands"] 2 (FZ K ζ)) (zcM_:Cal P w K mg base "need_posts" ["posts"] 3 (Gb K ζ)):bA P w K mg base CX0 4 f fd ["self","days","hands","posts"] (Gd K ζ):=by
 refine F.ok Mq (fun vs H Q E h=>?_) (fun cdv A outer s H vs Q E hr h=>?_)
 ·obtain⟨x,dx,a,b,d,hs,ts,ps,rfl,_⟩:=h
  rfl
 ·obtain⟨x,dx,a,b,d,hs,ts,ps,rfl,hx,hA,hB,hT,ok,q⟩:=h
  refine⟨_,(@au _ _ _ _ _ (bY (aM zcK_ (hr.mono (by decide)) rfl (@aa _ _ _ _ _ (pv 1) ak (by rfl)))) (@au _ _ _ _ _ (bY (aM zcL_ (hr.mono (by decide)) rfl (@aa _ _ _ _ _ (pv 2) ak (by rfl)))) (@au _ _ _ _ _ (bY (aM zcM_ (hr.mono (by decide)) rfl (@aa _ _ _ _ _ (pv 3) ak (by rfl)))) (@au _ _ _ _ _ (cA (pv 0) (pv 1) rfl) (@au _ _ _ _ _ (cA (pv 0) (bG (cQ (K:=K) rfl) (by rfl) T.tuple PyProof.Rows.boot_tuple (@aa _ _ _ _ _ (pv 2) ak (by rfl))) rfl) (@az _ _ _ (cA (pv 0) (bG (cQ (K:=K) rfl) (by rfl) T.tuple PyProof.Rows.boot_tuple (@aa _ _ _ _ _ (pv 3) ak (by rfl))) rfl))))))),?_⟩
  walk_at "rd"
  refine⟨d,rfl,ok.d1,ok.d2,a,hs,rfl,hA,ok.h,ok.hl,fun H1 g1=>⟨b,ts,ps,rfl,g1.seq hB,hT.mono g1,ok.p,ok.pl,fun H2 g2=>?_⟩⟩
  have g:=g1.trans g2
  have hx2:=g _ _ hx
  walk_at "rd"
  refine⟨ζ.a,dx,[],hx2,T.cl_Ward,T.n_Ward_days,by decide,_,(g.seq hA).off (by intro ys z;rw [hx2] at z;cases z) (by intro v u z;rw [hx2] at z;cases z),fun l1 hl1=>?_⟩
  have n1:x≠l1:=fun z=>by rw [← z,aj] at hl1;cases hl1
  have e1:H2 l1=none:=by rw [aG n1.symm] at hl1;exact hl1
  refine⟨ζ.a,dx,bR "days" (.int d) [],by rw [aG n1,aj],T.cl_Ward,T.n_Ward_hands,Nat.lt_of_le_of_lt (bf _ _ _) (by show 1 < 1000;decide),ts,?_,fun l2 hl2=>?_⟩
  ·refine SqL.off ((same_new (by rw [aG n1.symm];exact e1) _).seq ((g.seq hB).off ?_ ?_)) ?_ ?_
   ·intro ys z;rw [hx2] at z;cases z
   ·intro v u z;rw [hx2] at z;cases z
   ·intro ys z;rw [aG n1,aj] at z;cases z
   ·intro v u z;rw [aG n1,aj] at z;cases z
  have n2:x≠l2:=fun z=>by rw [← z,aj] at hl2;cases hl2
  have n3:l1≠l2:=fun z=>by rw [← z,aG n1.symm,aj] at hl2;cases hl2
  have e2:H2 l2=none:=by rw [aG n2.symm,aG n3.symm,aG n2.symm] at hl2;exact hl2
  refine⟨ζ.a,dx,bR "hands" (.ref l1) (bR "days" (.int d) []),by rw [aG n2,aj],T.cl_Ward,T.n_Ward_posts,Nat.lt_of_le_of_lt (Nat.le_trans (bf _ _ _) (Nat.succ_le_succ (bf _ _ _))) (by show 2 < 1000;decide),?_⟩
  have fr:∀c o,H2 c=some o→c≠x→upd (upd (upd (upd (upd H2 x (.ins ζ.a dx (bR "days" (.int d) []))) l1 (.tup (hs.map V.int))) x (.ins ζ.a dx (bR "hands" (.ref l1) (bR "days" (.int d) [])))) l2 (.tup ts)) x (.ins ζ.a dx (wf d l1 l2)) c=some o:=fun c o hc ne=>by
   rw [aG ne,aG (aH hc e2),aG ne,aG (aH hc e1),aG ne]
   exact hc
  refine q _ (fun c o hc ne=>fr c o (g _ _ hc) ne) ⟨dx,l1,l2,ts,aj,?_,?_,?_⟩
  ·rw [aG n1.symm,aG n3,aG n1.symm,aj]
  ·rw [aG n2.symm,aj]
  ·exact Paired.mapP hT fun v p ⟨t,e,ht⟩=>⟨t,e,fr _ _ (g _ _ ht) (fun z=>by subst z;rw [hx] at ht;cases ht)⟩
noncomputable def Ge (K:PySem.W.Frag) (ζ:Cs):Sp:=fun vs H Q _=>∃ (x dx:Addr) (h m:Int),vs=[.ref x,.int h,.int m]∧H x=some (.ins ζ.h dx [])∧Q .non (upd H x (.ins ζ.h dx (ho h m)))
theorem Ms:aN ["self","hand","other"] ["self","hand","other"] (aq zu_):=⟨rfl,rfl,rfl,k!,rfl,k!,k!⟩
theorem Mt {ζ:Cs} {f:Addr} {fd:FuncData} (F:Fun K "__init__" "Apart.__init__" zu_ f fd) (T:Txt K mg ζ) :bA P w K mg base CX0 1 f fd ["self","hand","other"] (Ge K ζ):=by
 refine F.ok Ms (fun vs H Q E h=>?_) (fun cdv A outer s H vs Q E hr h=>?_)
 ·obtain⟨x,dx,h,m,rfl,_⟩:=h
  rfl
 ·obtain⟨x,dx,h,m,rfl,hx,q⟩:=h
  refine⟨_,(@au _ _ _ _ _ (cA (pv 0) (pv 1) rfl) (@az _ _ _ (cA (pv 0) (pv 2) rfl))),?_⟩
  walk_at "rd"
  refine⟨_,_,_,hx,T.cl_Apart,T.n_Apart_hand,by decide,?_⟩
  refine⟨_,_,_,aj,T.cl_Apart,T.n_Apart_other,Nat.lt_of_le_of_lt (bf _ _ _) (by show 1 < 1000;decide),?_⟩
  rw [cg]
  exact q
noncomputable def Gf (K:PySem.W.Frag) (ζ:Cs):Sp:=fun vs H Q _=>∃ (x dx:Addr) (d p m:Int),vs=[.ref x,.int d,.int p,.int m]∧H x=some (.ins ζ.c dx [])∧Q .non (upd H x (.ins ζ.c dx (wf3 d p m)))
theorem Mu:aN ["self","day","post","many"] ["self","day","post","many"] (aq zz_):=⟨rfl,rfl,rfl,k!,rfl,k!,k!⟩
theorem Mv {ζ:Cs} {f:Addr} {fd:FuncData} (F:Fun K "__init__" "Want.__init__" zz_ f fd) (T:Txt K mg ζ) :bA P w K mg base CX0 1 f fd ["self","day","post","many"] (Gf K ζ):=by
 refine F.ok Mu (fun vs H Q E h=>?_) (fun cdv A outer s H vs Q E hr h=>?_)
 ·obtain⟨x,dx,d,p,m,rfl,_⟩:=h
  rfl
 ·obtain⟨x,dx,d,p,m,rfl,hx,q⟩:=h
  refine⟨_,(@au _ _ _ _ _ (cA (pv 0) (pv 1) rfl) (@au _ _ _ _ _ (cA (pv 0) (pv 2) rfl) (@az _ _ _ (cA (pv 0) (pv 3) rfl)))),?_⟩
  walk_at "rd"
  refine⟨_,_,_,hx,T.cl_Want,T.n_Want_day,by decide,?_⟩
  refine⟨_,_,_,aj,T.cl_Want,T.n_Want_post,Nat.lt_of_le_of_lt (bf _ _ _) (by show 1 < 1000;decide),?_⟩
  refine⟨_,_,_,aj,T.cl_Want,T.n_Want_many,Nat.lt_of_le_of_lt (Nat.le_trans (bf _ _ _) (Nat.succ_le_succ (bf _ _ _))) (by show 2 < 1000;decide),?_⟩
  rw [cg,cg]
  exact q
noncomputable def Gg (K:PySem.W.Frag) (ζ:Cs):Sp:=fun vs H Q _=>∃ (x dx:Addr) (d p m:Int),vs=[.ref x,.int d,.int p,.int m]∧H x=some (.ins ζ.d dx [])∧Q .non (upd H x (.ins ζ.d dx (mf3 d p m)))
theorem Mw:aN ["self","hand","days","many"] ["self","hand","days","many"] (aq zA_):=⟨rfl,rfl,rfl,k!,rfl,k!,k!⟩
theorem Mx {ζ:Cs} {f:Addr} {fd:FuncData} (F:Fun K "__init__" "Most.__init__" zA_ f fd) (T:Txt K mg ζ) :bA P w K mg base CX0 1 f fd ["self","hand","days","many"] (Gg K ζ):=by
 refine F.ok Mw (fun vs H Q E h=>?_) (fun cdv A outer s H vs Q E hr h=>?_)
 ·obtain⟨x,dx,d,p,m,rfl,_⟩:=h
  rfl
 ·obtain⟨x,dx,d,p,m,rfl,hx,q⟩:=h
  refine⟨_,(@au _ _ _ _ _ (cA (pv 0) (pv 1) rfl) (@au _ _ _ _ _ (cA (pv 0) (pv 2) rfl) (@az _ _ _ (cA (pv 0) (pv 3) rfl)))),?_⟩
  walk_at "rd"
  refine⟨_,_,_,hx,T.cl_Most,T.n_Most_hand,by decide,?_⟩
  refine⟨_,_,_,aj,T.cl_Most,T.n_Most_days,Nat.lt_of_le_of_lt (bf _ _ _) (by show 1 < 1000;decide),?_⟩
  refine⟨_,_,_,aj,T.cl_Most,T.n_Most_many,Nat.lt_of_le_of_lt (Nat.le_trans (bf _ _ _) (Nat.succ_le_succ (bf _ _ _))) (by show 2 < 1000;decide),?_⟩
  rw [cg,cg]
  exact q
noncomputable def Gh (K:PySem.W.Frag) (ζ:Cs):Sp:=fun vs H Q _=>∃ (x dx:Addr) (d p m:Int),vs=[.ref x,.int d,.int p,.int m]∧H x=some (.ins ζ.e dx [])∧Q .non (upd H x (.ins ζ.e dx (mf3 d p m)))
theorem Mz:aN ["self","hand","days","many"] ["self","hand","days","many"] (aq zr_):=⟨rfl,rfl,rfl,k!,rfl,k!,k!⟩
theorem MF {ζ:Cs} {f:Addr} {fd:FuncData} (F:Fun K "__init__" "Least.__init__" zr_ f fd) (T:Txt K mg ζ) :bA P w K mg base CX0 1 f fd ["self","hand","days","many"] (Gh K ζ):=by
 refine F.ok Mz (fun vs H Q E h=>?_) (fun cdv A outer s H vs Q E hr h=>?_)
 ·obtain⟨x,dx,d,p,m,rfl,_⟩:=h
  rfl
 ·obtain⟨x,dx,d,p,m,rfl,hx,q⟩:=h
  refine⟨_,(@au _ _ _ _ _ (cA (pv 0) (pv 1) rfl) (@au _ _ _ _ _ (cA (pv 0) (pv 2) rfl) (@az _ _ _ (cA (pv 0) (pv 3) rfl)))),?_⟩
  walk_at "rd"
  refine⟨_,_,_,hx,T.cl_Least,T.n_Least_hand,by decide,?_⟩
  refine⟨_,_,_,aj,T.cl_Least,T.n_Least_days,Nat.lt_of_le_of_lt (bf _ _ _) (by show 1 < 1000;decide),?_⟩
  refine⟨_,_,_,aj,T.cl_Least,T.n_Least_many,Nat.lt_of_le_of_lt (Nat.le_trans (bf _ _ _) (Nat.succ_le_succ (bf _ _ _))) (by show 2 < 1000;decide),?_⟩
  rw [cg,cg]
  exact q
noncomputable def Gi (K:PySem.W.Frag) (ζ:Cs):Sp:=fun vs H Q _=>∃ (x dx:Addr) (h s:Int),vs=[.ref x,.int h,.int s]∧H x=some (.ins ζ.g dx [])∧Q .non (upd H x (.ins ζ.g dx (af2 h s)))
theorem MJ:aN ["self","hand","days"] ["self","hand","days"] (aq zB_):=⟨rfl,rfl,rfl,k!,rfl,k!,k!⟩
theorem MK {ζ:Cs} {f:Addr} {fd:FuncData} (F:Fun K "__init__" "Away.__init__" zB_ f fd) (T:Txt K mg ζ) :bA P w K mg base CX0 1 f fd ["self","hand","days"] (Gi K ζ):=by
 refine F.ok MJ (fun vs H Q E h=>?_) (fun cdv A outer s H vs Q E hr h=>?_)
 ·obtain⟨x,dx,h,m,rfl,_⟩:=h
  rfl
 ·obtain⟨x,dx,h,m,rfl,hx,q⟩:=h
  refine⟨_,(@au _ _ _ _ _ (cA (pv 0) (pv 1) rfl) (@az _ _ _ (cA (pv 0) (pv 2) rfl))),?_⟩
  walk_at "rd"
  refine⟨_,_,_,hx,T.cl_Away,T.n_Away_hand,by decide,?_⟩
  refine⟨_,_,_,aj,T.cl_Away,T.n_Away_days,Nat.lt_of_le_of_lt (bf _ _ _) (by show 1 < 1000;decide),?_⟩
  rw [cg]
  exact q
noncomputable def Gj (K:PySem.W.Frag) (ζ:Cs):Sp:=fun vs H Q _=>∃ (x dx:Addr) (h m:Int),vs=[.ref x,.int h,.int m]∧H x=some (.ins ζ.i dx [])∧Q .non (upd H x (.ins ζ.i dx (hm h m)))
theorem MN:aN ["self","hand","many"] ["self","hand","many"] (aq zn_):=⟨rfl,rfl,rfl,k!,rfl,k!,k!⟩
theorem MP {ζ:Cs} {f:Addr} {fd:FuncData} (F:Fun K "__init__" "Nights.__init__" zn_ f fd) (T:Txt K mg ζ) :bA P w K mg base CX0 1 f fd ["self","hand","many"] (Gj K ζ):=by
 refine F.ok MN (fun vs H Q E h=>?_) (fun cdv A outer s H vs Q E hr h=>?_)
 ·obtain⟨x,dx,h,m,rfl,_⟩:=h
  rfl
 ·obtain⟨x,dx,h,m,rfl,hx,q⟩:=h
  refine⟨_,(@au _ _ _ _ _ (cA (pv 0) (pv 1) rfl) (@az _ _ _ (cA (pv 0) (pv 2) rfl))),?_⟩
  walk_at "rd"
  refine⟨_,_,_,hx,T.cl_Nights,T.n_Nights_hand,by decide,?_⟩
  refine⟨_,_,_,aj,T.cl_Nights,T.n_Nights_many,Nat.lt_of_le_of_lt (bf _ _ _) (by show 1 < 1000;decide),?_⟩
  rw [cg]
  exact q
noncomputable def Gk (K:PySem.W.Frag) (ζ:Cs):Sp:=fun vs H Q _=>∃ (x dx:Addr) (d p m:Int),vs=[.ref x,.int d,.int p,.int m]∧H x=some (.ins ζ.f dx [])∧Q .non (upd H x (.ins ζ.f dx (qf3 d p m)))
theorem MT:aN ["self","hand","least","most"] ["self","hand","least","most"] (aq zs_):=⟨rfl,rfl,rfl,k!,rfl,k!,k!⟩
theorem M3 {ζ:Cs} {f:Addr} {fd:FuncData} (F:Fun K "__init__" "Hours.__init__" zs_ f fd) (T:Txt K mg ζ) :bA P w K mg base CX0 1 f fd ["self","hand","least","most"] (Gk K ζ):=by
 refine F.ok MT (fun vs H Q E h=>?_) (fun cdv A outer s H vs Q E hr h=>?_)
 ·obtain⟨x,dx,d,p,m,rfl,_⟩:=h
  rfl
 ·obtain⟨x,dx,d,p,m,rfl,hx,q⟩:=h
  refine⟨_,(@au _ _ _ _ _ (cA (pv 0) (pv 1) rfl) (@au _ _ _ _ _ (cA (pv 0) (pv 2) rfl) (@az _ _ _ (cA (pv 0) (pv 3) rfl)))),?_⟩
  walk_at "rd"
  refine⟨_,_,_,hx,T.cl_Hours,T.n_Hours_hand,by decide,?_⟩
  refine⟨_,_,_,aj,T.cl_Hours,T.n_Hours_least,Nat.lt_of_le_of_lt (bf _ _ _) (by show 1 < 1000;decide),?_⟩
  refine⟨_,_,_,aj,T.cl_Hours,T.n_Hours_most,Nat.lt_of_le_of_lt (Nat.le_trans (bf _ _ _) (Nat.succ_le_succ (bf _ _ _))) (by show 2 < 1000;decide),?_⟩
  rw [cg,cg]
  exact q
noncomputable def Gm (K:PySem.W.Frag) (ζ:Cs):Sp:=fun vs H Q _=>∃ (x pl:Addr) (d:Int) (hs:List Int) (ps:List Pst) (sums:List (List Lin)) (uv:List V) (sts:List Stp),vs=[.ref x,.ref pl]∧TermsAt ζ.b ζ.a H x d hs ps sums∧Ok d hs ps∧(∀ls∈sums,qm hs.length d.toNat (ps.length + 1) ls)∧H pl=some (.lst uv)∧Stps H uv sts∧(∀st∈sts,lN st)∧sts.length≤20∧∀H',Same H H'→Q (.bl (za (cV (iD sums hs ps d) sts))) H'
theorem M4:aN ["terms","paper"] ["terms","paper"] (aq vV):=⟨rfl,rfl,rfl,k!,rfl,k!,k!⟩
theorem M5 {ζ:Cs} {f:Addr} {fd:FuncData} (F:Fun K "is_paper" "is_paper" vV f fd) (T:Txt K mg ζ) (C_left:Cal P w K mg base "left" ["terms","paper"] 7 (Bp K ζ)):bA P w K mg base CX0 8 f fd ["terms","paper"] (Gm K ζ):=by
 refine F.ok M4 (fun vs H Q E h=>?_) (fun cdv A outer s H vs Q E hr h=>?_)
 ·obtain⟨x,pl,d,hs,ps,sums,uv,sts,rfl,_⟩:=h
  rfl
 ·obtain⟨x,pl,d,hs,ps,sums,uv,sts,rfl,hT,okw,hf,epl,hSt,hus,s20,q⟩:=h
  refine⟨_,(@az _ _ _ (@aK _ _ _ _ (cX (jx hr) (aM C_left (hr.mono (by decide)) rfl (@aa _ _ _ _ _ (pv 0) (@aa _ _ _ _ _ (pv 1) ak (by rfl)) (by rfl))) (@bw _ _ _ _ ak) (aR _)))),?_⟩
  walk_at "rd"
  refine⟨x,pl,d,hs,ps,sums,uv,sts,rfl,hT,okw,hf,epl,hSt,hus,s20,(fun hz H1 g1=>⟨Nat.zero_le _,fun e he=>?_⟩),fun cs hz r us H1 g1 hr er hD hok _=>⟨Nat.zero_le _,fun e he=>?_⟩⟩
  ·have ge:=same_new he (.lst [])
   have h1:=q _ (g1.trans ge)
   rw [hz] at h1
   exact⟨e,rfl,SqL.of aj,.inl ⟨rfl,h1⟩⟩
  ·have ge:=same_new he (.lst [])
   have h1:=q _ (g1.trans ge)
   rw [hz] at h1
   refine⟨e,rfl,SqL.of aj,.inr ⟨r,us,rfl,SqL.of (ge _ _ er),?_⟩⟩
   have hl:=Paired.length hD
   have e1:decide (us=[])=za (some cs):=by
    cases us with
    | nil =>
     cases cs with
     | nil=>rfl
     | cons=>cases hl
    | cons =>
     cases cs with
     | nil=>cases hl
     | cons=>rfl
   rw [e1]
   exact h1
noncomputable def zP_ (K:PySem.W.Frag) (ζ:Cs):Sp:=fun vs H Q _=>∃ (a:Addr) (ns:List Int) (k:Int),vs=[.ref a,.int k]∧SqL K H a (ns.map V.int)∧ns.length≤63∧0≤k∧k≤100000∧∀v:Int,0≤v→v < 2147483587→Q (.int v) H
theorem zbB_:aN ["_law_script","_law_k","_law_number"] ["_law_script","_law_k"] (aq wB):=⟨rfl,rfl,rfl,k!,rfl,k!,k!⟩
theorem M6 {ζ:Cs} {f:Addr} {fd:FuncData} (F:Fun K "_law_cell" "_law_cell" wB f fd) (T:Txt K mg ζ) :bA P w K mg base CX0 1 f fd ["_law_script","_law_k"] (zP_ K ζ):=by
 refine F.ok zbB_ (fun vs H Q E h=>?_) (fun cdv A outer s H vs Q E hr h=>?_)
 ·obtain⟨a,ns,k,rfl,_⟩:=h
  rfl
 ·obtain⟨a,ns,k,rfl,hS,hl,k0,k1,q⟩:=h
  refine⟨_,(@au _ _ _ _ _ (aV (i:=2) zbB_.nd rfl (Or.inl rfl) (@aD _ _ _ _ _ _ _ _ bj (@aD _ _ _ _ _ _ _ _ bj (@aD _ _ _ _ _ _ _ _ cZ (@aD _ _ _ _ _ _ _ _ cZ (pv 1) (pv 1)) ao) (@aD _ _ _ _ _ _ _ _ cZ ao (pv 1))) ao)) (gR (@bF _ _ _ _ _ _ _ _ (@aQ _ _ _ _ _ _ _ _ jQ (bx (bC (K:=K) rfl) (by rfl) T.len PySem.boot_len (@aa _ _ _ _ _ (pv 0) ak (by rfl))) ao (aR _)) (@az _ _ _ (aV (i:=2) zbB_.nd rfl (Or.inl rfl) (@aD _ _ _ _ _ _ _ _ bj (pv 2) (@aD _ _ _ _ _ _ _ _ cZ (@aD _ _ _ _ _ _ _ _ bu (@bc _ _ _ _ _ _ _ cD (pv 0) (@aD _ _ _ _ _ _ _ _ bu (pv 1) (bx (bC (K:=K) rfl) (by rfl) T.len PySem.boot_len (@aa _ _ _ _ _ (pv 0) ak (by rfl)))) (fun _ _=>rfl)) ao) (@aD _ _ _ _ _ _ _ _ bj ao (@aD _ _ _ _ _ _ _ _ cZ ao (pv 1))))))) aX)
  (@au _ _ _ _ _ (aV (i:=2) zbB_.nd rfl (Or.inl rfl) (@aD _ _ _ _ _ _ _ _ bu (pv 2) ao)) (@az _ _ _ (@aK _ _ _ _ (@aD _ _ _ _ _ _ _ _ bu (@aD _ _ _ _ _ _ _ _ cZ (pv 2) (@aD _ _ _ _ _ _ _ _ bj (pv 2) (pv 1))) ao)))))),?_⟩
  have hlen:((List.map V.int ns).length:Int)=ns.length:=by simp
  have kk1:k * k≤100000 * 100000:=Int.mul_le_mul k1 k1 k0 (by omega)
  have kk0:0≤k * k:=Int.mul_nonneg k0 k0
  refine aA fun U1 u1=>?_
  walk_at "rd"
  refine⟨.inl ⟨by omega,by omega⟩,.inr ⟨by decide,by decide⟩,.inl ⟨by decide,by decide⟩,?_⟩
  rw [u1];clear u1
  refine jn (fun σ H'=>∃z:Int,H'=H∧σ=[some (.ref a),some (.int k),some (.int z)]) ?_ ?_
  ·walk_at "rd"
   refine⟨_,.inl hS,?_⟩
   rw [hlen]
   split
   ·rename_i hp
    obtain⟨v,hv⟩:=Ah (ns:=ns) (k:=k % ns.length) (Int.emod_nonneg _ (by omega)) (Int.emod_lt_of_pos _ hp)
    have w0:=Int.emod_nonneg v (b:=2147483647) (by decide)
    have w1:=Int.emod_lt_of_pos v (b:=2147483647) (by decide)
    exact⟨_,.inl hS,by omega,_,hS,_,by rw [hlen];exact hv,v,rfl,by decide,.inl ⟨by decide,by decide⟩,.inl ⟨by omega,by omega⟩⟩
   ·trivial
  rintro σ H' ⟨z,rfl,rfl⟩
  have z0:=Int.emod_nonneg z (b:=2147483629) (by decide)
  have z1:=Int.emod_lt_of_pos z (b:=2147483629) (by decide)
  walk_at "rd"
  exact⟨by decide,.inl ⟨by omega,by omega⟩,by decide,q _ (Int.emod_nonneg _ (by decide)) (Int.emod_lt_of_pos _ (by decide))⟩
noncomputable def Gn (K:PySem.W.Frag) (ζ:Cs):Sp:=fun vs H Q _=>∃ (o:Addr) (uo:List V) (rows:List (List Int)) (d:Int),vs=[.ref o,.int d]∧H o=some (.lst uo)∧Rows H uo rows∧rows.length≤8∧(∀r∈rows,r.length≤7)∧0≤d∧d≤31∧∀v:Int,Q (.int v) H
theorem zav_:aN ["_law_options_here","_law_days","_law_many","_law_some","_law_day"] ["_law_options_here","_law_days"] (aq zW_):=⟨rfl,rfl,rfl,k!,rfl,k!,k!⟩
theorem M7 {ζ:Cs} {f:Addr} {fd:FuncData} (F:Fun K "_law_tables" "_law_tables" zW_ f fd) (T:Txt K mg ζ) :bA P w K mg base CX0 1 f fd ["_law_options_here","_law_days"] (Gn K ζ):=by
 refine F.ok zav_ (fun vs H Q E h=>?_) (fun cdv A outer s H vs Q E hr h=>?_)
 ·obtain⟨o,uo,rows,d,rfl,_⟩:=h
  rfl
 ·obtain⟨o,uo,rows,d,rfl,eo,hR,h8,h7,d0,d1,q⟩:=h
  refine⟨_,(@au _ _ _ _ _ (aV (i:=2) zav_.nd rfl (Or.inl rfl) ao) (@au _ _ _ _ _ (bN PassesOwn.never rfl (bQ (pv 0)) (aB (i:=3) zav_.nd rfl (Or.inl rfl))
   (@az _ _ _ (bN PassesOwn.never rfl (bM rfl T.range (@aa _ _ _ _ _ (pv 1) ak (by rfl))) (aB (i:=4) zav_.nd rfl (Or.inl rfl))
     (@az _ _ _ (aV (i:=2) zav_.nd rfl (Or.inl rfl) (@aD _ _ _ _ _ _ _ _ cZ (pv 2) (bx (bC (K:=K) rfl) (by rfl) T.len PySem.boot_len (@aa _ _ _ _ _ (pv 3) ak (by rfl))))))))) (@az _ _ _ (@aK _ _ _ _ (pv 2))))),?_⟩
  refine aA fun U1 u1=>?_
  walk_at "rd"
  rw [u1];clear u1
  refine aA fun U1 u1=>bU fun B1 b1=>?_
  walk_at "rd"
  refine⟨⟨_,SqL.of eo⟩,bB (xs:=uo) (fun i σ H'=>H'=H∧∃ (z:Int) (v3 v4:Option V),σ=[some (.ref o),some (.int d),some (.int z),v3,v4]) ⟨rfl,1,none,none,rfl⟩ (fun i σ H' _ hh=>by rw [hh.1];exact SqL.of eo) ?_ ?_⟩
  ·rintro i v σ H' hx ⟨rfl,z,v3,v4,rfl⟩
   obtain⟨row,hrow,t',rfl,ht'⟩:=Rows.at' hR hx
   have hr7:=h7 row (List.mem_of_getElem? hrow)
   rw [b1]
   refine bU fun B2 b2=>?_
   walk_at "rd"
   refine⟨by omega,by omega,bH (fun j σ H2=>H2=H'∧∃ (z:Int) (v4:Option V),σ=[some (.ref o),some (.int d),some (.int z),some (.ref t'),v4]) ⟨rfl,z,v4,rfl⟩ ?_ ?_⟩
   ·rintro j σ H2 hj ⟨rfl,z,v4,rfl⟩
    rw [b2]
    walk_at "rd"
    exact⟨_,.inl (SqL.of ht'),.inr ⟨by omega,by rw [List.length_map];omega⟩⟩
   ·rintro σ H2 ⟨rfl,z,v4,rfl⟩
    exact⟨rfl,z,_,_,rfl⟩
  rintro σ H' ⟨rfl,z,v3,v4,rfl⟩
  rw [u1];clear u1
  walk_at "rd"
  exact q z
noncomputable def Br (K:PySem.W.Frag) (ζ:Cs):Sp:=fun vs H Q _=>∃ (ha pa:Addr) (hs:List Int) (ts:List V) (ps:List Pst),vs=[.ref ha,.ref pa]∧H ha=some (.lst (hs.map V.int))∧H pa=some (.lst ts)∧Posts H ts ps∧hs.length≤8∧ps.length≤6∧(∀x∈hs,okH x)∧(∀q∈ps,okP q)∧∀r uo H',Same H H'→H r=none→H' r=some (.lst uo)→Rows H' uo (hs.map fun h=>ch h ps)→Q (.ref r) H'
theorem zF_:aN ["_law_hands","_law_posts","_law_found","_law_skills","_law_some","_law_k","_law_post_here"] ["_law_hands","_law_posts"] (aq zJ_):=⟨rfl,rfl,rfl,k!,rfl,k!,k!⟩
theorem M8 {ζ:Cs} {f:Addr} {fd:FuncData} (F:Fun K "_law_options" "_law_options" zJ_ f fd) (T:Txt K mg ζ) :bA P w K mg base CX0 1 f fd ["_law_hands","_law_posts"] (Br K ζ):=by
 refine F.ok zF_ (fun vs H Q E h=>?_) (fun cdv A outer s H vs Q E hr h=>?_)
 ·obtain⟨ha,pa,hs,ts,ps,rfl,_⟩:=h
  rfl
 ·obtain⟨ha,pa,hs,ts,ps,rfl,eh,ep,hP,h8,p6,okh,okp,q⟩:=h
  refine⟨_,(@au _ _ _ _ _ (aV (i:=2) zF_.nd rfl (Or.inl rfl) (@bw _ _ _ _ ak)) (@au _ _ _ _ _ (bN PassesOwn.never rfl (bQ (pv 0)) (aB (i:=3) zF_.nd rfl (Or.inl rfl))
   (@au _ _ _ _ _ (aV (i:=4) zF_.nd rfl (Or.inl rfl) (@bw _ _ _ _ (@aa _ _ _ _ _ ao ak (by rfl)))) (@au _ _ _ _ _ (bN PassesOwn.never rfl (dg rfl T.enumerate (pv 1)) (cL (n:=2) rfl (aO (aB (i:=5) zF_.nd rfl (Or.inl rfl)) (aO (aB (i:=6) zF_.nd rfl (Or.inl rfl)) bV)))
     (@az _ _ _ (@bF _ _ _ _ _ _ _ _ (@aQ _ _ _ _ _ _ _ _ bZ (@aD _ _ _ _ _ _ _ _ nD (@bc _ _ _ _ _ _ _ bI (pv 6) ao (fun _ _=>rfl)) (pv 3)) (@bc _ _ _ _ _ _ _ bI (pv 6) ao (fun _ _=>rfl)) (aR _)) (@az _ _ _ (bY (d7 PySem.F.plainAttrs_list PySem.F.slot_list_append PySem.F.type_list_append cj (pv 4) (@aa _ _ _ _ _ (@aD _ _ _ _ _ _ _ _ bj (pv 5) ao) ak (by rfl))))) aX))) (@az _ _ _ (bY (d7 PySem.F.plainAttrs_list PySem.F.slot_list_append PySem.F.type_list_append cj (pv 2) (@aa _ _ _ _ _ (pv 4) ak (by rfl)))))))) (@az _ _ _ (@aK _ _ _ _ (pv 2))))),?_⟩
  refine aA fun U1 u1=>?_
  walk_at "rd"
  refine⟨Nat.zero_le _,fun p hp=>?_⟩
  rw [u1];clear u1
  refine aA fun U1 u1=>bU fun B1 b1=>?_
  walk_at "rd"
  have hpl:=hP.len
  refine⟨⟨_,SqL.of ((same_new hp _) _ _ eh)⟩,bB (xs:=hs.map V.int) (fun i σ H'=>MpI H p (hs.map fun h=>ch h ps) i H'∧∃v3 v4 v5 v6,σ=[some (.ref ha),some (.ref pa),some (.ref p),v3,v4,v5,v6]) ⟨MpI.start hp,none,none,none,none,rfl⟩ (fun i σ H' _ hh=>SqL.of (hh.1.same _ _ eh)) ?_ ?_⟩
  ·rintro i v σ H' hx ⟨mI,v3,v4,v5,v6,rfl⟩
   obtain⟨x,hx1,rfl⟩:=eU hx
   have hi:=(List.getElem?_eq_some_iff.mp hx1).1
   have okx:=okh x (List.mem_of_getElem? hx1)
   rw [b1]
   refine aA fun U2 u2=>?_
   walk_at "rd"
   refine⟨by decide,fun s hs0=>?_⟩
   have gs:=same_new hs0 (.lst [.int 0])
   rw [u2];clear u2
   refine aA fun U2 u2=>bU fun B2 b2=>?_
   walk_at "rd"
   refine⟨⟨_,SqL.of ((mI.same.trans gs) _ _ ep)⟩,dD (xs:=ts) (fun j σ H2=>Same H' H2∧H2 s=some (.lst ((0 :: chI x ps j).map V.int))∧∃v5 v6,σ=[some (.ref ha),some (.ref pa),some (.ref p),some (.int x),some (.ref s),v5,v6]) ⟨gs,aj,v5,v6,rfl⟩ (fun j σ H2 _ hh=>SqL.of ((mI.same.trans hh.1) _ _ ep)) ?_ ?_⟩
   ·rintro j v σ H2 tt hv ⟨g2,e2,v5,v6,rfl⟩ htt
    obtain⟨pq,hpq,t,rfl,qt⟩:=Paired.get' hP hv
    have hj:=(List.getElem?_eq_some_iff.mp hpq).1
    have okq:=okp pq (List.mem_of_getElem? hpq)
    rw [Nat.zero_add]
    have gt:=same_new htt (.tup [.int (j:Int),.ref t])
    have et:=aj (H:=H2) (a:=tt) (o:=.tup [.int (j:Int),.ref t])
    generalize upd H2 tt (.tup [.int (j:Int),.ref t])=H3 at gt et ⊢
    have qt3:=((mI.same.trans g2).trans gt) _ _ qt
    have e3:=gt _ _ e2
    have hcl:=jJ x ps j
    rw [pA,hpq,Option.getD_some]
    walk_at "rd"
    refine⟨_,SqT.of et,rfl,_,_,rfl,_,_,rfl,rfl,?_⟩
    rw [b2]
    walk_at "rd"
    refine⟨_,SqT.of qt3,_,rfl,_,rfl,_,SqT.of qt3,_,rfl,rfl,?_⟩
    have ecv:(V.int (Builtin.bitAnd pq.1 x)=V.int pq.1)↔cv x pq.1=true:=by
     rw [yp okx.1 okq.1.1]
     unfold cv
     rw [decide_eq_true_eq]
     exact⟨fun z=>V.int.inj z,fun z=>by rw [z]⟩
    by_cases z:cv x pq.1=true
    ·rw [if_pos (ecv.mpr z)]
     refine⟨.inl ⟨rfl,_,SqL.of e3⟩,_,e3,aW (by rw [List.length_map,List.length_cons];lia),aY hs0 (g2.trans gt) _,?_⟩
     rw [aj,if_pos z,List.map_append]
     rfl
    ·rw [if_neg (fun y=>z (ecv.mp y)),if_neg z,List.append_nil]
     exact⟨g2.trans gt,e3⟩
   ·rintro σ H2 ⟨g2,e2,v5,v6,rfl⟩
    rw [u2];clear u2
    rw [hpl] at e2
    walk_at "rd"
    obtain⟨up,_,ep0,_⟩:=mI.ex
    refine⟨.inl ⟨rfl,_,SqL.of (g2 _ _ ep0)⟩,?_⟩
    exact mI.step hp (by lia) (by rw [List.getElem?_map,hx1];rfl) g2 hs0 e2
  rintro σ H' ⟨mI,v3,v4,v5,v6,rfl⟩
  rw [u1];clear u1
  walk_at "rd"
  rw [List.length_map] at mI
  obtain⟨uo,g,e,hR,_⟩:=mI.ex
  rw [List.take_of_length_le (by rw [List.length_map];exact Nat.le_refl _)] at hR
  exact q p uo H' g hp e hR
noncomputable def Gp (K:PySem.W.Frag) (ζ:Cs):Sp:=fun vs H Q _=>∃ (a:Addr) (ns:List Int) (mo:Int),vs=[.ref a,.int mo]∧SqL K H a (ns.map V.int)∧ns.length≤63∧∀ (t ha pa:Addr) (d:Int) (hs:List Int) (ts:List V) (ps:List Pst) (H':Hp),Same H H'→H' t=some (.tup [.int d,.ref ha,.ref pa])→H' ha=some (.lst (hs.map V.int))→H' pa=some (.lst ts)→Posts H' ts ps→Ok d hs ps→hs.length≤3→1≤ps.length→ps.length≤3→d≤4→Q (.ref t) H'
theorem zj_:aN ["_law_script","_law_most","_law_first","_law_other","_law_sets","_law_hands","_law_posts","_law_k","_law_long","_law_days"] ["_law_script","_law_most"] (aq wC):=⟨rfl,rfl,rfl,k!,rfl,k!,k!⟩
theorem M9 {ζ:Cs} {f:Addr} {fd:FuncData} (F:Fun K "_law_ward" "_law_ward" wC f fd) (T:Txt K mg ζ) (za_:Cal P w K mg base "_law_cell" ["_law_script","_law_k"] 1 (zP_ K ζ)) (zcr_:Cal P w K mg base "_law_tables" ["_law_options_here","_law_days"] 1 (Gn K ζ)) (zN_:Cal P w K mg base "_law_options" ["_law_hands","_law_posts"] 1 (Br K ζ)):bA P w K mg base CX0 2 f fd ["_law_script","_law_most"] (Gp K ζ):=by
 refine F.ok zj_ (fun vs H Q E h=>?_) (fun cdv A outer s H vs Q E hr h=>?_)
 ·obtain⟨a,ns,mo,rfl,_⟩:=h
  rfl
 ·obtain⟨a,ns,mo,rfl,hS,hl,q⟩:=h
  refine⟨_,(@au _ _ _ _ _ (aV (i:=2) zj_.nd rfl (Or.inl rfl) (@aD _ _ _ _ _ _ _ _ nC ao (@aD _ _ _ _ _ _ _ _ bu (aM za_ (hr.mono (by decide)) rfl (@aa _ _ _ _ _ (pv 0) (@aa _ _ _ _ _ ao ak (by rfl)) (by rfl))) ao))) (@au _ _ _ _ _ (aV (i:=3) zj_.nd rfl (Or.inl rfl) (@aD _ _ _ _ _ _ _ _ nC ao (@aD _ _ _ _ _ _ _ _ bj ao (@aD _ _ _ _ _ _ _ _ bu (aM za_ (hr.mono (by decide)) rfl (@aa _ _ _ _ _ (pv 0) (@aa _ _ _ _ _ ao ak (by rfl)) (by rfl))) ao)))) (@au _ _ _ _ _ (aV (i:=4) zj_.nd rfl (Or.inr rfl) (@bw _ _ _ _ (@aa _ _ _ _ _ ao (@aa _ _ _ _ _ (pv 2) (@aa _ _ _ _ _ (pv 3) (@aa _ _ _ _ _ (@aD _ _ _ _ _ _ _ _ bj (pv 2) (pv 3)) ak (by rfl)) (by rfl)) (by rfl)) (by rfl)))) (@au _ _ _ _ _ (eY (i:=5) zj_.nd rfl rfl (own:=["_law_k"]) (fnames:=["_law_script","_law_sets"]) (fr:=[0,4]) (N':=["_law_k","_law_script","_law_sets"]) ⟨rfl,rfl,rfl,rfl,rfl,rfl,rfl⟩ rfl (bM rfl T.range (@aa _ _ _ _ _ (@aD _ _ _ _ _ _ _ _ bu (aM za_ (hr.mono (by decide)) rfl (@aa _ _ _ _ _ (pv 0) (@aa _ _ _ _ _ ao ak (by rfl)) (by rfl))) ao) ak (by rfl))) (fun s0 H0 fp0 C0=>⟨(aB (i:=0) (by show (["_law_k","_law_script","_law_sets"]:List Str).Nodup;decide +kernel) rfl (Or.inl rfl)),cu,(@bc _ _ _ _ _ _ _ (iK (K:=K) rfl) (pv 2) (@bc _ _ _ _ _ _ _ (iK (K:=K) rfl) (@bw _ _ _ _ (@aa _ _ _ _ _ ao (@aa _ _ _ _ _ ao (@aa _ _ _ _ _ ao (@aa _ _ _ _ _ ao (@aa _ _ _ _ _ ao ak (by rfl)) (by rfl)) (by rfl)) (by rfl)) (by rfl))) (@aD _ _ _ _ _ _ _ _ bu (aM za_ (hr.mono (by decide)) rfl (@aa _ _ _ _ _ (pv 1) (@aa _ _ _ _ _ (@aD _ _ _ _ _ _ _ _ bj ao (pv 0)) ak (by rfl)) (by rfl))) ao) (fun _ _=>rfl)) (fun _ _=>rfl))⟩)) (@au _ _ _ _ _ (aV (i:=6) zj_.nd rfl (Or.inl rfl) (@bw _ _ _ _ ak)) (@au _ _ _ _ _ (bN PassesOwn.never rfl (bM rfl T.range (@aa _ _ _ _ _ (@aD _ _ _ _ _ _ _ _ bj ao (@aD _ _ _ _ _ _ _ _ bu (aM za_ (hr.mono (by decide)) rfl (@aa _ _ _ _ _ (pv 0) (@aa _ _ _ _ _ ao ak (by rfl)) (by rfl))) ao)) ak (by rfl))) (aB (i:=7) zj_.nd rfl (Or.inl rfl))
   (@au _ _ _ _ _ (aV (i:=8) zj_.nd rfl (Or.inl rfl) (@bc _ _ _ _ _ _ _ cD (@bw _ _ _ _ (@aa _ _ _ _ _ (@aD _ _ _ _ _ _ _ _ bu (aM za_ (hr.mono (by decide)) rfl (@aa _ _ _ _ _ (pv 0) (@aa _ _ _ _ _ (@aD _ _ _ _ _ _ _ _ bj ao (pv 7)) ak (by rfl)) (by rfl))) (@aD _ _ _ _ _ _ _ _ bj (@aD _ _ _ _ _ _ _ _ fj ao ao) ao)) (@aa _ _ _ _ _ (@aD _ _ _ _ _ _ _ _ fj ao ao) (@aa _ _ _ _ _ ao ak (by rfl)) (by rfl)) (by rfl))) (@aD _ _ _ _ _ _ _ _ bu (@aD _ _ _ _ _ _ _ _ d9 (aM za_ (hr.mono (by decide)) rfl (@aa _ _ _ _ _ (pv 0) (@aa _ _ _ _ _ (@aD _ _ _ _ _ _ _ _ bj ao (pv 7)) ak (by rfl)) (by rfl))) ao) ao) (fun _ _=>rfl))) (@az _ _ _ (bY (d7 PySem.F.plainAttrs_list PySem.F.slot_list_append PySem.F.type_list_append cj (pv 6) (@aa _ _ _ _ _ (@aP _ _ _ _ _ (@aa _ _ _ _ _ (@bc _ _ _ _ _ _ _ cD (pv 4) (@aD _ _ _ _ _ _ _ _ bu (aM za_ (hr.mono (by decide)) rfl (@aa _ _ _ _ _ (pv 0) (@aa _ _ _ _ _ (@aD _ _ _ _ _ _ _ _ bj ao (pv 7)) ak (by rfl)) (by rfl))) ao) (fun _ _=>rfl)) (@aa _ _ _ _ _ (pv 8) (@aa _ _ _ _ _ (@aD _ _ _ _ _ _ _ _ bu (aM za_ (hr.mono (by decide)) rfl (@aa _ _ _ _ _ (pv 0) (@aa _ _ _ _ _ (@aD _ _ _ _ _ _ _ _ bj ao (pv 7)) ak (by rfl)) (by rfl))) ao) ak (by rfl)) (by rfl)) (by rfl))) ak (by rfl))))))) (@au _ _ _ _ _ (aV (i:=9) zj_.nd rfl (Or.inl rfl) (@aD _ _ _ _ _ _ _ _ bj ao (@aD _ _ _ _ _ _ _ _ bu (aM za_ (hr.mono (by decide)) rfl (@aa _ _ _ _ _ (pv 0) (@aa _ _ _ _ _ ao ak (by rfl)) (by rfl))) ao))) (@au _ _ _ _ _ (wR PassesOwn.never (PW.pt (jO (@aQ _ _ _ _ _ _ _ _ jQ (pv 9) ao (aR _)) (iG (@aQ _ _ _ _ _ _ _ _ jQ (aM zcr_ (hr.mono (by decide)) rfl (@aa _ _ _ _ _ (aM zN_ (hr.mono (by decide)) rfl (@aa _ _ _ _ _ (pv 5) (@aa _ _ _ _ _ (pv 6) ak (by rfl)) (by rfl))) (@aa _ _ _ _ _ (pv 9) ak (by rfl)) (by rfl))) (pv 1) (aR _)))))
   (@az _ _ _ (aV (i:=9) zj_.nd rfl (Or.inl rfl) (@aD _ _ _ _ _ _ _ _ dz (pv 9) ao)))) (@az _ _ _ (@aK _ _ _ _ (@aP _ _ _ _ _ (@aa _ _ _ _ _ (pv 9) (@aa _ _ _ _ _ (pv 5) (@aa _ _ _ _ _ (pv 6) ak (by rfl)) (by rfl)) (by rfl))))))))))))),?_⟩
  refine aA fun U1 u1=>?_
  walk_at "rd"
  refine⟨a,ns,_,rfl,hS,hl,by decide,by decide,fun v0 v00 v01=>?_⟩
  refine⟨v0,rfl,by decide,⟨by lia,by lia,by decide⟩,?_⟩
  obtain⟨f0,f1⟩:=CG (m:=(v0 % 14).toNat) (k:=13) (by lia)
  generalize (1:Int) * 2 ^ (v0 % 14).toNat=fi at f0 f1 ⊢
  rw [u1];clear u1 v00 v01
  refine aA fun U1 u1=>?_
  walk_at "rd"
  refine⟨a,ns,_,rfl,hS,hl,by decide,by decide,fun v0 v00 v01=>?_⟩
  refine⟨v0,rfl,by decide,⟨by lia,by lia,by decide⟩,?_⟩
  obtain⟨o0,o1⟩:=CG (m:=(14 + v0 % 16).toNat) (k:=29) (by lia)
  generalize (1:Int) * 2 ^ (14 + v0 % 16).toNat=ot at o0 o1 ⊢
  rw [u1];clear u1 v00 v01
  refine aA fun U1 u1=>?_
  walk_at "rd"
  refine⟨by decide,fun sa hsa=>?_⟩
  have gA:=same_new hsa (.lst [.int 0,.int fi,.int ot,.int (fi + ot)])
  have eA:=aj (H:=H) (a:=sa) (o:=.lst [.int 0,.int fi,.int ot,.int (fi + ot)])
  generalize upd H sa (.lst [.int 0,.int fi,.int ot,.int (fi + ot)])=HA at gA eA ⊢
  rw [u1];clear u1
  refine aA fun U1 u1=>?_
  walk_at "rd"
  refine⟨a,ns,_,rfl,gA.seq hS,hl,by decide,by decide,fun n z0 z1=>⟨n,rfl,by decide,by lia,by lia,fun h0 hh0=>bH (fun i σ H'=>(∃hs:List Int,Same HA H'∧H' h0=some (.lst (hs.map V.int))∧hs.length=i∧∀x∈hs,okH x)∧∃v0,σ=[v0,some (.ref a),some (.ref sa)]) ⟨⟨[],same_new hh0 _,aj,rfl,fun x z=>by cases z⟩,none,rfl⟩ ?_ ?_⟩⟩
  ·rintro i σ H' hi ⟨⟨hs,g,e,hl5,hok⟩,v0,rfl⟩
   rw [show (0 + (i:Int))=i by lia]
   walk_at "rd"
   refine⟨by decide,fun p hp=>?_⟩
   have gp:=same_new hp (.lst [.int 3,.int 1,.int 2,.int 3,.int 0])
   refine⟨a,ns,_,rfl,((gA.trans g).trans gp).seq hS,hl,by lia,by lia,fun v y0 y1=>?_⟩
   obtain⟨w,hw,w0,w4⟩:=Ij (z:=v % 5) (Int.emod_nonneg _ (by decide)) (Int.emod_lt_of_pos _ (by decide))
   obtain⟨h1,hh1,okh⟩:=CJ (z:=w) f0 f1 o0 o1 w0 w4
   refine⟨v,rfl,by decide,_,SqL.of aj,_,hw,_,w,rfl,SqL.of ((g.trans gp) _ _ eA),.int h1,hh1,_,gp _ _ e,aW (by rw [List.length_map];lia),aY hh0 (g.trans gp) _,hs ++ [h1],by rw [aj,List.map_append];rfl,by rw [List.length_append,hl5];rfl,fun x hx=>?_⟩
   rcases List.mem_append.mp hx with z | z
   ·exact hok x z
   ·rw [List.mem_singleton.mp z];exact okh
  rintro σ HB ⟨⟨hs,gB,eB,hl5,hok⟩,v0,rfl⟩
  have GB:=gA.trans gB
  have eA2:=gB _ _ eA
  have h3:hs.length≤3:=by lia
  clear hh0 gA eA gB hl5
  rw [u1];clear u1
  refine aA fun U1 u1=>?_
  walk_at "rd"
  refine⟨Nat.zero_le _,fun p0 hp0=>?_⟩
  rw [u1];clear u1
  refine aA fun U1 u1=>bU fun B1 b1=>?_
  walk_at "rd"
  have gC:=same_new hp0 (.lst [])
  refine⟨a,ns,_,rfl,(GB.trans gC).seq hS,hl,by decide,by decide,fun n2 n20 n24=>⟨n2,rfl,by decide,by lia,by lia,bH (fun i σ H'=>PsG HB p0 i H'∧∃v7 v8,σ=[some (.ref a),some (.int mo),some (.int fi),some (.int ot),some (.ref sa),some (.ref h0),some (.ref p0),v7,v8,none]) ⟨PsG.start hp0,none,none,rfl⟩ ?_ ?_⟩⟩
  ·rintro i σ H' hi ⟨pg,v7,v8,rfl⟩
   rw [show (0 + (i:Int))=i by lia]
   rw [b1]
   refine aA fun U2 u2=>?_
   walk_at "rd"
   refine⟨a,ns,_,rfl,(GB.trans pg.same).seq hS,hl,by lia,by lia,fun y y0 y1=>⟨⟨by decide,by decide,by decide⟩,y,rfl,by decide,⟨by decide,by decide,by decide⟩,by decide,fun p hp=>?_⟩⟩
   have gp:=same_new hp (.lst [.int (y % (10 ^ Int.toNat 9 + 1)),.int (10 ^ Int.toNat 9),.int 8])
   have pg2:=pg.mono gp
   refine⟨a,ns,_,rfl,(GB.trans pg2.same).seq hS,hl,by lia,by lia,fun c c0 c1=>?_⟩
   obtain⟨lo,hlo,lo0,lo1⟩:=Ea (x:=y % (10 ^ Int.toNat 9 + 1)) (z:=c / 4 % 3) (Int.emod_nonneg _ (by decide)) (by have:=Int.emod_lt_of_pos y (b:=10 ^ Int.toNat 9 + 1) (by decide);have e:(10:Int) ^ Int.toNat 9=1000000000:=(by decide);lia) (Int.emod_nonneg _ (by decide)) (Int.emod_lt_of_pos _ (by decide))
   refine⟨c,rfl,⟨by decide,by decide⟩,by decide,_,SqL.of aj,_,hlo,?_⟩
   generalize upd H' p (.lst [.int (y % (10 ^ Int.toNat 9 + 1)),.int (10 ^ Int.toNat 9),.int 8])=H2 at gp pg2 ⊢
   rw [u2];clear u2
   obtain⟨ts6,ps6,pl6,gg6,e6,_⟩:=pg2.ex
   have S2:=(GB.trans pg2.same).seq hS
   walk_at "rd"
   refine⟨.inl ⟨rfl,_,SqL.of e6⟩,a,ns,_,rfl,S2,hl,by lia,by lia,fun c2 c20 c21=>?_⟩
   obtain⟨h1,hh1,okh⟩:=CJ (z:=c2 % 4) f0 f1 o0 o1 (Int.emod_nonneg _ (by decide)) (Int.emod_lt_of_pos _ (by decide))
   refine⟨c2,rfl,by decide,_,SqL.of (pg2.same _ _ eA2),.int h1,hh1,a,ns,_,rfl,S2,hl,by lia,by lia,fun nt nt0 nt1=>⟨nt,rfl,by decide,by decide,fun t ht=>?_⟩⟩
   exact pg2.step (q:=(h1,lo,nt % 2)) hp0 (by lia) ht ⟨okh,⟨lo0,lo1⟩,⟨Int.emod_nonneg _ (by decide),by show nt % 2≤1;lia⟩⟩
  rintro σ HD ⟨pg,v7,v8,rfl⟩
  obtain⟨ts,ps,pl,gD,eD,hP,okp⟩:=pg.ex
  rw [u1];clear u1
  refine aA fun U1 u1=>?_
  walk_at "rd"
  refine⟨a,ns,_,rfl,(GB.trans gD).seq hS,hl,by decide,by decide,fun dd dd0 dd6=>?_⟩
  refine⟨_,rfl,by decide,?_⟩
  rw [u1];clear u1
  refine aA fun U1 u1=>Ar fun B1 b1=>?_
  walk_at "rd"
  refine⟨Ih H h0 p0 hs ts ps (fun d=>[some (.ref a),some (.int mo),some (.int fi),some (.int ot),some (.ref sa),some (.ref h0),some (.ref p0),v7,v8,some (.int d)]),⟨_,1 + dd % 4,rfl,GB.trans gD,gD _ _ eB,eD,hP,by lia,by lia,rfl⟩,?_⟩
  rintro m σ H' ⟨d,rfl,g,e1,e2,hP',d1,d4,rfl⟩
  have n3:ps.length≤3:=by lia
  have n1:1≤ps.length:=by lia
  refine⟨_,rfl,_,rfl,?_⟩
  have fin:∀H2:Hp,Same H' H2→U1 { nx:=fun x H'=>Q V.non H',rt:=Q } [some (.ref a),some (.int mo),some (.int fi),some (.int ot),some (.ref sa),some (.ref h0),some (.ref p0),v7,v8,some (.int d)] H2:=fun H2 g2=>by
   rw [u1];clear u1
   walk_at "rd"
   refine⟨by decide,fun t ht=>?_⟩
   have gt:=g2.trans (same_new ht (.tup [.int d,.ref h0,.ref p0]))
   exact q t h0 p0 d hs ts ps _ (g.trans gt) aj (gt _ _ e1) (gt _ _ e2) (hP'.mono gt) ⟨d1,by lia,hok,by lia,okp,by lia⟩ h3 n1 n3 d4
  by_cases hd1:1 < d
  ·rw [if_pos hd1]
   refine⟨_,rfl,_,rfl,h0,p0,hs,ts,ps,rfl,e1,e2,hP',by lia,by lia,hok,okp,fun r uo H2 g2 hr er hRo=>?_⟩
   refine⟨_,rfl,r,uo,hs.map (fun h=>ch h ps),d,rfl,er,hRo,by rw [List.length_map];lia,(fun row hrow=>by obtain⟨x,_,rfl⟩:=List.mem_map.mp hrow;have:=j5 x ps;lia),by lia,by lia,fun v=>?_⟩
   have g2':=g2
   refine⟨_,rfl,v,rfl,mo,rfl,?_⟩
   split
   ·refine⟨fun σ' H3=>∃m',m' < d.toNat∧Ih H h0 p0 hs ts ps (fun d=>[some (.ref a),some (.int mo),some (.int fi),some (.int ot),some (.ref sa),some (.ref h0),some (.ref p0),v7,v8,some (.int d)]) m' σ' H3,fun σ' H3 z=>z,?_⟩
    rw [b1]
    walk_at "rd"
    exact⟨(d - 1).toNat,by lia,d - 1,rfl,g.trans g2,g2 _ _ e1,g2 _ _ e2,hP'.mono g2,by lia,by lia,rfl⟩
   ·exact fin _ g2
  ·rw [if_neg hd1]
   exact fin _ (Same.refl _)
noncomputable def Gq (K:PySem.W.Frag) (ζ:Cs):Sp:=fun vs H Q _=>∃ (a:Addr) (us:List V) (ls:List (Lin×Int)),vs=[.ref a]∧H a=some (.lst us)∧Bf H us ls∧(∀l∈ls,-(2 ^ 40) < l.2∧l.2 < 2 ^ 40)∧bL ls≤900∧∀t d H',Same H H'→H d=none→H' t=some (.tup [.ref d,.int (dW ls)])→H' d=some (.dT (bJ ls))→Q (.ref t) H'
theorem ze_:aN ["_law_pairs","_law_numbers_here","_law_bound","_law_line","_law_times","_law_hand","_law_day","_law_post_here","_law_number"] ["_law_pairs"] (aq zK_):=⟨rfl,rfl,rfl,k!,rfl,k!,k!⟩
theorem Nb {ζ:Cs} {f:Addr} {fd:FuncData} (F:Fun K "_law_numbers" "_law_numbers" zK_ f fd) (T:Txt K mg ζ) :bA P w K mg base CX0 1 f fd ["_law_pairs"] (Gq K ζ):=by
 refine F.ok ze_ (fun vs H Q E h=>?_) (fun cdv A outer s H vs Q E hr h=>?_)
 ·obtain⟨a,us,ls,rfl,_⟩:=h
  rfl
 ·obtain⟨a,us,ls,rfl,hA,hP,ht,hn,q⟩:=h
  refine⟨_,(@au _ _ _ _ _ (aV (i:=1) ze_.nd rfl (Or.inl rfl) iV) (@au _ _ _ _ _ (aV (i:=2) ze_.nd rfl (Or.inl rfl) ao) (@au _ _ _ _ _ (bN PassesOwn.never rfl (bQ (pv 0)) (cL (n:=2) rfl (aO (aB (i:=3) ze_.nd rfl (Or.inl rfl)) (aO (aB (i:=4) ze_.nd rfl (Or.inl rfl)) bV)))
   (@au _ _ _ _ _ (bN PassesOwn.never rfl (bQ (@bc _ _ _ _ _ _ _ bI (pv 3) ao (fun _ _=>rfl))) (cL (n:=4) rfl (aO (aB (i:=5) ze_.nd rfl (Or.inl rfl)) (aO (aB (i:=6) ze_.nd rfl (Or.inl rfl)) (aO (aB (i:=7) ze_.nd rfl (Or.inl rfl)) (aO (aB (i:=8) ze_.nd rfl (Or.inl rfl)) bV)))))
     (@az _ _ _ (iU (dU hr) (pv 1) (@aP _ _ _ _ _ (@aa _ _ _ _ _ (pv 5) (@aa _ _ _ _ _ (pv 6) (@aa _ _ _ _ _ (pv 7) ak (by rfl)) (by rfl)) (by rfl))) (@aD _ _ _ _ _ _ _ _ bj (gw (dU hr) (pv 1) (@aP _ _ _ _ _ (@aa _ _ _ _ _ (pv 5) (@aa _ _ _ _ _ (pv 6) (@aa _ _ _ _ _ (pv 7) ak (by rfl)) (by rfl)) (by rfl))) ao ⟨rfl,rfl,rfl,rfl⟩) (@aD _ _ _ _ _ _ _ _ cZ (pv 8) (pv 4))) rfl))) (@az _ _ _ (aV (i:=2) ze_.nd rfl (Or.inl rfl) (@aD _ _ _ _ _ _ _ _ bj (pv 2) (@aD _ _ _ _ _ _ _ _ cZ (@bc _ _ _ _ _ _ _ bI (pv 3) ao (fun _ _=>rfl)) (pv 4))))))) (@az _ _ _ (@aK _ _ _ _ (@aP _ _ _ _ _ (@aa _ _ _ _ _ (pv 1) (@aa _ _ _ _ _ (pv 2) ak (by rfl)) (by rfl)))))))),?_⟩
  refine aA fun U1 u1=>?_
  walk_at "rd"
  intro d hd
  have g0:=same_new hd (.dT [])
  rw [u1];clear u1
  refine aA fun U1 u1=>?_
  walk_at "rd"
  rw [u1];clear u1
  refine aA fun U1 u1=>bU fun B1 b1=>?_
  walk_at "rd"
  have hul:=Paired.length hP
  refine⟨⟨_,SqL.of (g0 _ _ hA)⟩,bB (xs:=us) (fun i σ H'=>∃ (v3 v4 v5 v6 v7 v8:Option V),Same H H'∧H' d=some (.dT (bJ (ls.take i)))∧σ=[some (.ref a),some (.ref d),some (.int (dW (ls.take i))),v3,v4,v5,v6,v7,v8]) ⟨none,none,none,none,none,none,g0,aj,rfl⟩ (fun i σ H' _ ⟨_,_,_,_,_,_,g,_⟩=>SqL.of (g _ _ hA)) ?_ ?_⟩
  ·rintro i v σ H' hx ⟨v3,v4,v5,v6,v7,v8,g,e,rfl⟩
   obtain⟨l,hli,t,u,rfl,w1,tu,pt,ts,eu,w2,w3,w4⟩:=Paired.get' hP hx
   cases eu
   obtain⟨lt1,lt2⟩:=ht l (List.mem_of_getElem? hli)
   have hlen:(bJ (ls.take i)).length + l.1.ps.length≤900:=by
    have z1:(bJ (ls.take i)).length≤0 + bL (ls.take i):=gY
    have z2:bL (ls.take (i + 1))=bL (ls.take i) + l.1.ps.length:=by
     rw [bh hli]
     unfold bL
     rw [List.map_append,List.sum_append]
     simp
    have z3:bL (ls.take (i + 1))≤bL ls:=by
     have:bL ls=bL (ls.take (i + 1)) + bL (ls.drop (i + 1)):=by
      unfold bL
      rw [← List.sum_append,← List.map_append,List.take_append_drop]
     lia
    lia
   have hok:dX (bJ (ls.take i)):=iZ gM
   walk_at "rd"
   refine⟨_,SqT.of (g _ _ w1),rfl,_,_,rfl,_,_,rfl,rfl,?_⟩
   rw [b1]
   refine aA fun U2 u2=>bU fun B2 b2=>?_
   walk_at "rd"
   refine⟨_,SqT.of (g _ _ w2),_,rfl,pt,rfl,⟨_,SqL.of (g _ _ w3)⟩,bB (xs:=ts) (fun j σ H2=>∃ (v5 v6 v7 v8:Option V),Same H H2∧H2 d=some (.dT ((l.1.ps.take j).foldl (dj l.2) (bJ (ls.take i))))∧σ=[some (.ref a),some (.ref d),some (.int (dW (ls.take i))),some (.ref u),some (.int l.2),v5,v6,v7,v8]) ⟨v5,v6,v7,v8,g,e,rfl⟩ (fun j σ H2 _ ⟨_,_,_,_,g2,_⟩=>SqL.of (g2 _ _ w3)) ?_ ?_⟩
   ·rintro j v σ H2 hx2 ⟨v5,v6,v7,v8,g2,e2,rfl⟩
    obtain⟨pq,hpq,tq,rfl,htq⟩:=Paired.get' w4 hx2
    have hj:j < l.1.ps.length:=(List.getElem?_eq_some_iff.mp hpq).1
    have hlj:((l.1.ps.take j).foldl (dj l.2) (bJ (ls.take i))).length < 901:=by
     have:((l.1.ps.take j).foldl (dj l.2) (bJ (ls.take i))).length≤(bJ (ls.take i)).length + (l.1.ps.take j).length:=gW
     rw [List.length_take] at this
     lia
    have hokj:dX ((l.1.ps.take j).foldl (dj l.2) (bJ (ls.take i))):=iY hok
    have est:(l.1.ps.take (j + 1)).foldl (dj l.2) (bJ (ls.take i))=dj l.2 ((l.1.ps.take j).foldl (dj l.2) (bJ (ls.take i))) pq:=by
     rw [bh hpq,List.foldl_append]
     rfl
    rw [est]
    generalize (l.1.ps.take j).foldl (dj l.2) (bJ (ls.take i))=kvs at e2 hlj hokj
    walk_at "rd"
    refine⟨_,SqT.of (g2 _ _ htq),rfl,_,_,rfl,_,_,rfl,_,_,rfl,_,_,rfl,rfl,?_⟩
    rw [b2]
    walk_at "rd"
    refine⟨.inr ⟨_,.inl e2⟩,by decide,fun t1 ht1=>?_⟩
    have y1:=same_new ht1 (.tup [.int pq.h,.int pq.d,.int pq.p])
    refine⟨_,DGet.t (k:=kk pq.h pq.d pq.p) (y1 _ _ e2) aj,.inr ⟨by lia,by lia⟩,_,rF hokj _,by decide,fun t2 ht2=>?_⟩
    have y2:=y1.trans (same_new ht2 (.tup [.int pq.h,.int pq.d,.int pq.p]))
    exact⟨_,DPut.t (k:=kk pq.h pq.d pq.p) (y2 _ _ e2) aj (aW (by lia)),aY hd (g2.trans y2) _,by rw [aj];rfl⟩
   ·rintro σ H2 ⟨v5,v6,v7,v8,g2,e2,rfl⟩
    rw [Paired.length w4,List.take_length] at e2
    rw [u2];clear u2
    walk_at "rd"
    have e3:bJ (ls.take (i + 1))=l.1.ps.foldl (dj l.2) (bJ (ls.take i)):=by
     unfold bJ
     rw [bh hli,List.foldl_append]
     rfl
    have e4:dW (ls.take (i + 1))=dW (ls.take i) + l.1.b * l.2:=by
     unfold dW
     rw [bh hli,List.map_append,List.sum_append]
     simp
    refine⟨_,SqT.of (g2 _ _ w2),.int l.1.b,rfl,_,rfl,.inr ⟨by lia,by lia⟩,?_⟩
    rw [e3,e4]
    exact⟨g2,e2,rfl⟩
  rintro σ H' ⟨v3,v4,v5,v6,v7,v8,g,e,rfl⟩
  rw [hul,List.take_length] at e ⊢
  rw [u1];clear u1
  walk_at "rd"
  refine⟨by decide,fun t ht'=>?_⟩
  have g1:=same_new ht' (.tup [.ref d,.int (dW ls)])
  exact q t d _ (g.trans g1) hd aj (g1 _ _ e)
noncomputable def Bs (K:PySem.W.Frag) (ζ:Cs):Sp:=fun vs H Q _=>∃ (a pd o:Addr) (D:Nat) (us uo:List V) (ls:List (Lin×Int)) (pns:List (List Key×V)) (rows:List (List Int)),vs=[.ref a,.ref pd,.ref o,.int D]∧H a=some (.lst us)∧Bf H us ls∧(∀l∈ls,-(2 ^ 40) < l.2∧l.2 < 2 ^ 40)∧bL ls≤900∧H pd=some (.dT pns)∧dX pns∧H o=some (.lst uo)∧Rows H uo rows∧(∀r∈rows,0 < r.length∧r.length≤9)∧rows.length≤8∧D≤31∧∀H',Same H H'→Q (.bl (decide (d8 pns (bJ ls) (fun h=>rows[h]?.getD []) rows.length D < dW ls))) H'
theorem zg_:aN ["_law_pairs","_law_pins","_law_options_here","_law_days","_law_numbers_here","_law_bound","_law_top","_law_hand","_law_some","_law_day"] ["_law_pairs","_law_pins","_law_options_here","_law_days"] (aq zY_):=⟨rfl,rfl,rfl,k!,rfl,k!,k!⟩
theorem Nf {ζ:Cs} {f:Addr} {fd:FuncData} (F:Fun K "_law_closes" "_law_closes" zY_ f fd) (T:Txt K mg ζ) (zbU_:Cal P w K mg base "_law_numbers" ["_law_pairs"] 1 (Gq K ζ)):bA P w K mg base CX0 2 f fd ["_law_pairs","_law_pins","_law_options_here","_law_days"] (Bs K ζ):=by
 refine F.ok zg_ (fun vs H Q E h=>?_) (fun cdv A outer s H vs Q E hr h=>?_)
 ·obtain⟨a,pd,o,D,us,uo,ls,pns,rows,rfl,_⟩:=h
  rfl
 ·obtain⟨a,pd,o,D,us,uo,ls,pns,rows,rfl,ea,hP,hl,hn,ep,aip,eo,hR,r9,h8,D31,q⟩:=h
  refine⟨_,(@au _ _ _ _ _ (ji (aM zbU_ (hr.mono (by decide)) rfl (@aa _ _ _ _ _ (pv 0) ak (by rfl))) (cL (n:=2) rfl (aO (aB (i:=4) zg_.nd rfl (Or.inr rfl)) (aO (aB (i:=5) zg_.nd rfl (Or.inl rfl)) bV)))) (@au _ _ _ _ _ (aV (i:=6) zg_.nd rfl (Or.inl rfl) ao) (@au _ _ _ _ _ (bN PassesOwn.never rfl (dg rfl T.enumerate (pv 2)) (cL (n:=2) rfl (aO (aB (i:=7) zg_.nd rfl (Or.inr rfl)) (aO (aB (i:=8) zg_.nd rfl (Or.inl rfl)) bV)))
   (@az _ _ _ (bN PassesOwn.never rfl (bM rfl T.range (@aa _ _ _ _ _ (pv 3) ak (by rfl))) (aB (i:=9) zg_.nd rfl (Or.inr rfl))
     (@az _ _ _ (@bF _ _ _ _ _ _ _ _ (nq (rD (dU hr) (@aP _ _ _ _ _ (@aa _ _ _ _ _ (pv 7) (@aa _ _ _ _ _ (pv 9) ak (by rfl)) (by rfl))) (pv 1))) (@az _ _ _ (aV (i:=6) zg_.nd rfl (Or.inl rfl) (@aD _ _ _ _ _ _ _ _ bj (pv 6) (gw (dU hr) (pv 4) (@aP _ _ _ _ _ (@aa _ _ _ _ _ (pv 7) (@aa _ _ _ _ _ (pv 9) (@aa _ _ _ _ _ (tO (dU hr) (pv 1) (@aP _ _ _ _ _ (@aa _ _ _ _ _ (pv 7) (@aa _ _ _ _ _ (pv 9) ak (by rfl)) (by rfl))) (fun _ _=>rfl)) ak (by rfl)) (by rfl)) (by rfl))) ao ⟨rfl,rfl,rfl,rfl⟩)))) (@az _ _ _ (aV (i:=6) zg_.nd rfl (Or.inl rfl) (@aD _ _ _ _ _ _ _ _ bj (pv 6) (bx (mR rfl) (by rfl) T.max PyProof.Rows.boot_max (@aa _ _ _ _ _ (cB (own:=["_law_value"]) (fnames:=["_law_numbers_here","_law_hand","_law_day"]) (fr:=[4,7,9]) (N':=["_law_value","_law_numbers_here","_law_hand","_law_day"]) ⟨rfl,rfl,rfl,rfl,rfl,rfl,rfl⟩ rfl (bQ (pv 8)) (fun s0 H0 fp0 C0=>⟨(aB (i:=0) (by show (["_law_value","_law_numbers_here","_law_hand","_law_day"]:List Str).Nodup;decide +kernel) rfl (Or.inl rfl)),cu,(gw (dU hr) (pv 1) (@aP _ _ _ _ _ (@aa _ _ _ _ _ (pv 2) (@aa _ _ _ _ _ (pv 3) (@aa _ _ _ _ _ (pv 0) ak (by rfl)) (by rfl)) (by rfl))) ao ⟨rfl,rfl,rfl,rfl⟩)⟩)) ak (by rfl))))))))))) (@az _ _ _ (@aK _ _ _ _ (cX dZ (pv 6) (pv 5) (aR _))))))),?_⟩
  refine aA fun U1 u1=>?_
  walk_at "rd"
  refine⟨a,us,ls,rfl,ea,hP,hl,hn,fun t nd H1 g1 fn et en=>⟨_,rfl,_,SqT.of et,rfl,_,_,rfl,_,_,rfl,rfl,?_⟩⟩
  have aik:dX (bJ ls):=iZ gM
  generalize bJ ls=kvs at en aik q ⊢
  have np:pd≠nd:=aH ep fn
  rw [u1];clear u1
  refine aA fun U1 u1=>?_
  walk_at "rd"
  rw [u1];clear u1
  refine aA fun U1 u1=>bU fun B1 b1=>?_
  walk_at "rd"
  have hul:=hR.len
  have hf:∀i row,rows[i]? = some row→∀j:Nat,mxC pns kvs (fun h=>rows[h]?.getD []) i j=mxL ((oH pns row i j).map fun p=>nO kvs i j p):=fun i row e j=>by
   unfold mxC
   show mxL ((oH pns (rows[i]?.getD []) i j).map _)=_
   rw [e]
   rfl
  rw [← yP] at q
  generalize mxC pns kvs (fun h=>rows[h]?.getD [])=f at hf q
  refine⟨⟨_,SqL.of (g1 _ _ eo)⟩,dD (xs:=uo) (fun i σ H'=>Same H1 H'∧∃v7 v8 v9,σ=[some (.ref a),some (.ref pd),some (.ref o),some (.int D),some (.ref nd),some (.int (dW ls)),some (.int (Im f D i)),v7,v8,v9]) ⟨Same.refl _,none,none,none,rfl⟩ (fun i σ H' _ hh=>SqL.of ((g1.trans hh.1) _ _ eo)) ?_ ?_⟩
  ·rintro i v σ H' tt hx ⟨g,v7,v8,v9,rfl⟩ htt
   obtain⟨row,hrow,tr,rfl,qr⟩:=Rows.at' hR hx
   have hi:=(List.getElem?_eq_some_iff.mp hrow).1
   rw [Nat.zero_add]
   have gt:=same_new htt (.tup [.int (i:Int),.ref tr])
   have et:=aj (H:=H') (a:=tt) (o:=.tup [.int (i:Int),.ref tr])
   have g:=g.trans gt
   clear gt
   generalize upd H' tt (.tup [.int (i:Int),.ref tr])=H2 at g et ⊢
   walk_at "rd"
   refine⟨_,SqT.of et,rfl,_,_,rfl,_,_,rfl,rfl,?_⟩
   rw [b1]
   refine bU fun B2 b2=>?_
   walk_at "rd"
   refine⟨by lia,by lia,bH (fun j σ H'=>Same H1 H'∧∃v9,σ=[some (.ref a),some (.ref pd),some (.ref o),some (.int D),some (.ref nd),some (.int (dW ls)),some (.int (lC f D i j)),some (.int i),some (.ref tr),v9]) ⟨g,v9,rfl⟩ ?_ ?_⟩
   ·rintro j σ H3 hj ⟨g3,v9,rfl⟩
    rw [show (0 + (j:Int))=j by lia]
    rw [b2]
    rw [uY,hf i row hrow j]
    have ep3:=(g1.trans g3) _ _ ep
    have en3:=g3 _ _ en
    have qr3:=(g1.trans g3) _ _ qr
    have hr9:=r9 row (List.mem_of_getElem? hrow)
    walk_at "rd"
    refine⟨by decide,fun t2 ht2=>?_⟩
    have gt2:=same_new ht2 (.tup [.int i,.int j])
    refine⟨_,DGet.t (k:=k2 i j) (gt2 _ _ ep3) aj,?_⟩
    unfold oH
    cases ev:bW pns (k2 i j) with
    | some v =>
     obtain⟨pv,rfl⟩:=aip _ v ev
     rw [if_pos (show (some (V.int pv)).isSome=true from rfl)]
     refine⟨.inr ⟨_,.inl (gt2 _ _ en3)⟩,by decide,fun t3 ht3=>?_⟩
     have gt3:=same_new ht3 (.tup [.int i,.int j])
     refine⟨.int pv,.inr ⟨pns,k2 i j,t3,.inl ((gt2.trans gt3) _ _ ep3),rfl,aj,ev.symm⟩,by decide,fun t4 ht4=>?_⟩
     have gt4:=same_new ht4 (.tup [.int i,.int j,.int pv])
     have G4:=gt2.trans (gt3.trans gt4)
     exact⟨_,DGet.t (k:=kk i j pv) (G4 _ _ en3) aj,_,oM aik _ _ _,g3.trans G4,rfl⟩
    | none =>
     rw [if_neg (by simp)]
     have qr4:=gt2 _ _ qr3
     have en4:=gt2 _ _ en3
     generalize upd H3 t2 (.tup [.int i,.int j])=H4 at gt2 qr4 en4 ⊢
     refine⟨⟨_,SqL.of qr4⟩,fun D5 hD5=>bB (xs:=row.map V.int) (fun k σ H5=>Same H4 H5∧H5 D5=some (.lst (((row.take k).map fun p=>nO kvs i j p).map V.int))∧∃v0,σ=[v0,some (.ref nd),some (.int i),some (.int j)]) ⟨same_new hD5 _,aj,none,rfl⟩ (fun k σ H5 _ hh=>SqL.of (hh.1 _ _ qr4)) ?_ ?_⟩
     ·rintro k v σ H5 hx2 ⟨g5,e5,v0,rfl⟩
      obtain⟨z,hz,rfl⟩:=eU hx2
      have hk:=(List.getElem?_eq_some_iff.mp hz).1
      have en5:=g5 _ _ en4
      walk_at "rd"
      refine⟨.inr ⟨_,.inl en5⟩,by decide,fun t6 ht6=>?_⟩
      have g6:=same_new ht6 (.tup [.int i,.int j,.int z])
      refine⟨_,.inr ⟨kvs,kk i j z,t6,.inl (g6 _ _ en5),rfl,aj,rfl⟩,_,g6 _ _ e5,aW (by rw [List.length_map,List.length_map,List.length_take];lia),aY hD5 (g5.trans g6) _,?_⟩
      rw [aj,oM aik,bh hz,List.map_append,List.map_append]
      rfl
     rintro σ H5 ⟨g5,e5,v0,rfl⟩
     rw [List.length_map,List.take_length] at e5
     refine⟨_,SqL.of e5,by rw [List.length_map];exact hr9.1,fun M hM1 hM2=>⟨g3.trans (gt2.trans g5),?_⟩⟩
     rw [rO hM1 hM2]
   ·rintro σ H3 ⟨g3,v9,rfl⟩
    rw [show Im f D (i + 1)=lC f D i D from yO f D i]
    exact⟨g3,_,_,_,rfl⟩
  rintro σ H2 ⟨g2,v7,v8,v9,rfl⟩
  rw [u1];clear u1
  walk_at "rd"
  rw [hul]
  exact q H2 (g1.trans g2)
noncomputable def Gr (K:PySem.W.Frag) (ζ:Cs):Sp:=fun vs H Q _=>∃ (tl pd o:Addr) (D:Nat) (vt uo:List V) (lls:List (List Lin)) (pns:List (List Key×V)) (rows:List (List Int)),vs=[.ref tl,.ref pd,.ref o,.int D]∧H tl=some (.lst vt)∧Told H vt lls∧lls.length≤6∧(∀ls∈lls,ls.length≤40∧∀ℓ∈ls,ℓ.ps.length≤100)∧H pd=some (.dT pns)∧dX pns∧H o=some (.lst uo)∧Rows H uo rows∧(∀r∈rows,0 < r.length∧r.length≤9)∧rows.length≤8∧D≤31∧(∀H',Same H H'→Q .non H')∧∀ (t:Addr) (i j:Nat) H',Same H H'→H' t=some (.tup [.int i,.int j,.int 1])→i < lls.length→Q (.ref t) H'
theorem zae_:aN ["_law_told","_law_pins","_law_options_here","_law_days","_law_rule_here","_law_lines_here","_law_number","_law_line"] ["_law_told","_law_pins","_law_options_here","_law_days"] (aq zL_):=⟨rfl,rfl,rfl,k!,rfl,k!,k!⟩
theorem Ng {ζ:Cs} {f:Addr} {fd:FuncData} (F:Fun K "_law_closing" "_law_closing" zL_ f fd) (T:Txt K mg ζ) (zaa_:Cal P w K mg base "_law_closes" ["_law_pairs","_law_pins","_law_options_here","_law_days"] 2 (Bs K ζ)):bA P w K mg base CX0 3 f fd ["_law_told","_law_pins","_law_options_here","_law_days"] (Gr K ζ):=by
 refine F.ok zae_ (fun vs H Q E h=>?_) (fun cdv A outer s H vs Q E hr h=>?_)
 ·obtain⟨tl,pd,o,D,vt,uo,lls,pns,rows,rfl,_⟩:=h
  rfl
 ·obtain⟨tl,pd,o,D,vt,uo,lls,pns,rows,rfl,etl,hT,l6,l40,ep,aip,eo,hR,r9,h8,D31,q1,q2⟩:=h
  refine⟨_,(@au _ _ _ _ _ (bN PassesOwn.never rfl (dg rfl T.enumerate (pv 0)) (cL (n:=2) rfl (aO (aB (i:=4) zae_.nd rfl (Or.inl rfl)) (aO (aB (i:=5) zae_.nd rfl (Or.inl rfl)) bV)))
   (@az _ _ _ (bN PassesOwn.never rfl (dg rfl T.enumerate (pv 5)) (cL (n:=2) rfl (aO (aB (i:=6) zae_.nd rfl (Or.inl rfl)) (aO (aB (i:=7) zae_.nd rfl (Or.inl rfl)) bV)))
     (@az _ _ _ (@bF _ _ _ _ _ _ _ _ (dM (aM zaa_ (hr.mono (by decide)) rfl (@aa _ _ _ _ _ (@bw _ _ _ _ (@aa _ _ _ _ _ (@aP _ _ _ _ _ (@aa _ _ _ _ _ (pv 7) (@aa _ _ _ _ _ ao ak (by rfl)) (by rfl))) ak (by rfl))) (@aa _ _ _ _ _ (pv 1) (@aa _ _ _ _ _ (pv 2) (@aa _ _ _ _ _ (pv 3) ak (by rfl)) (by rfl)) (by rfl)) (by rfl)))) (@az _ _ _ (@aK _ _ _ _ (@aP _ _ _ _ _ (@aa _ _ _ _ _ (pv 4) (@aa _ _ _ _ _ (pv 6) (@aa _ _ _ _ _ ao ak (by rfl)) (by rfl)) (by rfl))))) aX))))) (@az _ _ _ (@aK _ _ _ _ dm))),?_⟩
  refine aA fun U1 u1=>bU fun B1 b1=>?_
  walk_at "rd"
  refine⟨⟨_,SqL.of etl⟩,dD (xs:=vt) (fun i σ H'=>Same H H'∧∃v4 v5 v6 v7,σ=[some (.ref tl),some (.ref pd),some (.ref o),some (.int D),v4,v5,v6,v7]) ⟨Same.refl _,none,none,none,none,rfl⟩ (fun i σ H' _ hh=>SqL.of (hh.1 _ _ etl)) ?_ ?_⟩
  ·rintro i v σ H' tt hx ⟨g,v4,v5,v6,v7,rfl⟩ htt
   obtain⟨ls,hls,tv,ul,rfl,w1',w2'⟩:=Paired.get' hT hx
   have hi:=(List.getElem?_eq_some_iff.mp hls).1
   rw [Nat.zero_add]
   have gt:=same_new htt (.tup [.int (i:Int),.ref tv])
   have et:=aj (H:=H') (a:=tt) (o:=.tup [.int (i:Int),.ref tv])
   replace g:=g.trans gt
   clear gt
   generalize upd H' tt (.tup [.int (i:Int),.ref tv])=H2 at g et ⊢
   walk_at "rd"
   refine⟨_,SqT.of et,rfl,_,_,rfl,_,_,rfl,rfl,?_⟩
   rw [b1]
   refine bU fun B2 b2=>?_
   walk_at "rd"
   obtain⟨l4,lp⟩:=l40 ls (List.mem_of_getElem? hls)
   refine⟨⟨_,SqL.of (g _ _ w1')⟩,dD (xs:=ul) (fun j σ H'=>Same H H'∧∃v6 v7,σ=[some (.ref tl),some (.ref pd),some (.ref o),some (.int D),some (.int i),some (.ref tv),v6,v7]) ⟨g,v6,v7,rfl⟩ (fun j σ H' _ hh=>SqL.of (hh.1 _ _ w1')) ?_ ?_⟩
   ·rintro j v σ H3 t3 hv ⟨g3,v6,v7,rfl⟩ ht3
    obtain⟨ℓ,hℓ,hv4⟩:=Paired.get' w2' hv
    have hv4':=hv4
    obtain⟨t4,l5,ts4,rfl,w1,w2,w3⟩:=hv4
    rw [Nat.zero_add]
    have gt:=same_new ht3 (.tup [.int (j:Int),.ref t4])
    have et3:=aj (H:=H3) (a:=t3) (o:=.tup [.int (j:Int),.ref t4])
    replace g3:=g3.trans gt
    clear gt
    generalize upd H3 t3 (.tup [.int (j:Int),.ref t4])=H4 at g3 et3 ⊢
    walk_at "rd"
    refine⟨_,SqT.of et3,rfl,_,_,rfl,_,_,rfl,rfl,?_⟩
    rw [b2]
    walk_at "rd"
    refine⟨by decide,fun pa hpa=>⟨by decide,fun pb hpb=>?_⟩⟩
    have ga:=same_new hpa (.tup [.ref t4,.int 1])
    have gb:=same_new hpb (.lst [.ref pa])
    have gab:=ga.trans gb
    have hpr:Bf (upd (upd H4 pa (.tup [.ref t4,.int 1])) pb (.lst [.ref pa])) [.ref pa] [(ℓ,1)]:=.cons ⟨pa,t4,rfl,gb _ _ aj,hv4'.mono (g3.trans gab)⟩ .nil
    have epb:=aj (H:=upd H4 pa (.tup [.ref t4,.int 1])) (a:=pb) (o:=.lst [.ref pa])
    have g5:=g3.trans gab
    clear gab ga gb
    generalize upd (upd H4 pa (.tup [.ref t4,.int 1])) pb (.lst [.ref pa])=H5 at g5 hpr epb ⊢
    have hp9:bL [(ℓ,(1:Int))]≤900:=by
     have h1:=lp ℓ (List.mem_of_getElem? hℓ)
     show ℓ.ps.length + 0≤900
     lia
    refine⟨pb,pd,o,D,_,uo,[(ℓ,1)],pns,rows,rfl,epb,hpr,(fun l hl=>by rw [List.mem_singleton.mp hl];exact⟨by show -(2 ^ 40) < (1:Int);decide,by show (1:Int) < 2 ^ 40;decide⟩),hp9,g5 _ _ ep,aip,g5 _ _ eo,hR.mono g5,r9,h8,D31,fun H6 g6=>⟨_,rfl,?_⟩⟩
    split
    ·refine⟨by decide,fun t ht=>?_⟩
     exact q2 t i j _ (g5.trans (g6.trans (same_new ht _))) aj hi
    ·exact g5.trans g6
   ·rintro σ H3 ⟨g3,v6,v7,rfl⟩
    exact⟨g3,_,_,_,_,rfl⟩
  rintro σ H' ⟨g,v4,v5,v6,v7,rfl⟩
  rw [u1];clear u1
  walk_at "rd"
  exact q1 H' g
noncomputable def Gs (K:PySem.W.Frag) (ζ:Cs):Sp:=fun vs H Q _=>∃ (c:Int) (tl:Addr) (D n:Nat) (uv:V) (vt:List V),vs=[.int c,.ref tl,.int D,.int n,uv]∧0≤c∧H tl=some (.lst vt)∧0 < vt.length∧(uv=.non∨∃u,uv=.ref u)∧∀v st H',Same H H'→StpV H' v st→lN st→Em vt.length st→Q v H'
theorem Nh:aN ["_law_cell_here","_law_told","_law_days","_law_hands","_law_use"] ["_law_cell_here","_law_told","_law_days","_law_hands","_law_use"] (aq wJ):=⟨rfl,rfl,rfl,k!,rfl,k!,k!⟩
theorem Ni {ζ:Cs} {f:Addr} {fd:FuncData} (F:Fun K "_law_odd" "_law_odd" wJ f fd) (T:Txt K mg ζ) :bA P w K mg base CX0 1 f fd ["_law_cell_here","_law_told","_law_days","_law_hands","_law_use"] (Gs K ζ):=by
 refine F.ok Nh (fun vs H Q E h=>?_) (fun cdv A outer s H vs Q E hr h=>?_)
 ·obtain⟨c,tl,D,n,uv,vt,rfl,_⟩:=h
  rfl
 ·obtain⟨c,tl,D,n,uv,vt,rfl,c0,etl,v0,hu,q⟩:=h
  refine⟨_,(@au _ _ _ _ _ (@bF _ _ _ _ _ _ _ _ (@aQ _ _ _ _ _ _ _ _ bZ (@aD _ _ _ _ _ _ _ _ bu (pv 0) ao) ao (aR _)) (@az _ _ _ (@aK _ _ _ _ (@aP _ _ _ _ _ (@aa _ _ _ _ _ cO (@aa _ _ _ _ _ (@bc _ _ _ _ _ _ _ cD (@bw _ _ _ _ (@aa _ _ _ _ _ (pv 3) (@aa _ _ _ _ _ (@cW _ _ _ _ _ _ cz ao) ak (by rfl)) (by rfl))) (@aD _ _ _ _ _ _ _ _ bu (@aD _ _ _ _ _ _ _ _ d9 (pv 0) ao) ao) (fun _ _=>rfl)) (@aa _ _ _ _ _ ao ak (by rfl)) (by rfl)) (by rfl))))) aX) (@au _ _ _ _ _ (@bF _ _ _ _ _ _ _ _ (@aQ _ _ _ _ _ _ _ _ bZ (@aD _ _ _ _ _ _ _ _ bu (pv 0) ao) ao (aR _)) (@az _ _ _ (@aK _ _ _ _ (@aP _ _ _ _ _ (@aa _ _ _ _ _ cO (@aa _ _ _ _ _ ao (@aa _ _ _ _ _ (@bc _ _ _ _ _ _ _ cD (@bw _ _ _ _ (@aa _ _ _ _ _ (pv 2) (@aa _ _ _ _ _ (@cW _ _ _ _ _ _ cz ao) ak (by rfl)) (by rfl))) (@aD _ _ _ _ _ _ _ _ bu (@aD _ _ _ _ _ _ _ _ d9 (pv 0) ao) ao) (fun _ _=>rfl)) ak (by rfl)) (by rfl)) (by rfl))))) aX) (@au _ _ _ _ _ (@bF _ _ _ _ _ _ _ _ (@aQ _ _ _ _ _ _ _ _ bZ (@aD _ _ _ _ _ _ _ _ bu (pv 0) ao) ao (aR _)) (@az _ _ _ (@aK _ _ _ _ (@aP _ _ _ _ _ (@aa _ _ _ _ _ cO (@aa _ _ _ _ _ (@aP _ _ _ _ _ (@aa _ _ _ _ _ (@aP _ _ _ _ _ (@aa _ _ _ _ _ (@aD _ _ _ _ _ _ _ _ bu (@aD _ _ _ _ _ _ _ _ d9 (pv 0) ao) (bx (bC (K:=K) rfl) (by rfl) T.len PySem.boot_len (@aa _ _ _ _ _ (pv 1) ak (by rfl)))) (@aa _ _ _ _ _ ao (@aa _ _ _ _ _ ao ak (by rfl)) (by rfl)) (by rfl))) ak (by rfl))) ak (by rfl)) (by rfl))))) aX) (@au _ _ _ _ _ (@bF _ _ _ _ _ _ _ _ (@aQ _ _ _ _ _ _ _ _ bZ (@aD _ _ _ _ _ _ _ _ bu (pv 0) ao) ao (aR _)) (@az _ _ _ (@aK _ _ _ _ (@aP _ _ _ _ _ (@aa _ _ _ _ _ cO (@aa _ _ _ _ _ (@aP _ _ _ _ _ ak) ak (by rfl)) (by rfl))))) aX) (@au _ _ _ _ _ (@bF _ _ _ _ _ _ _ _ (@aQ _ _ _ _ _ _ _ _ nF (pv 4) dm (aR _)) (@az _ _ _ (@aK _ _ _ _ (@aP _ _ _ _ _ (@aa _ _ _ _ _ cO (@aa _ _ _ _ _ (@aD _ _ _ _ _ _ _ _ bu (@aD _ _ _ _ _ _ _ _ d9 (pv 0) ao) (bx (uz rfl) (by rfl) T.max PyProof.Rows.boot_max (@aa _ _ _ _ _ ao (@aa _ _ _ _ _ (pv 3) ak (by rfl)) (by rfl)))) (@aa _ _ _ _ _ ao ak (by rfl)) (by rfl)) (by rfl))))) aX) (@az _ _ _ (@aK _ _ _ _ (@aP _ _ _ _ _ (@aa _ _ _ _ _ (@bc _ _ _ _ _ _ _ cD (@bw _ _ _ _ (@aa _ _ _ _ _ cO (@aa _ _ _ _ _ cO (@aa _ _ _ _ _ cO (@aa _ _ _ _ _ cO ak (by rfl)) (by rfl)) (by rfl)) (by rfl))) (@aD _ _ _ _ _ _ _ _ bu (@aD _ _ _ _ _ _ _ _ d9 (pv 0) ao) ao) (fun _ _=>rfl)) (@aa _ _ _ _ _ (@aP _ _ _ _ _ (@aa _ _ _ _ _ (pv 4) ak (by rfl))) ak (by rfl)) (by rfl)))))))))),?_⟩
  refine aA fun U1 u1=>?_
  walk_at "rd"
  refine⟨by decide,?_⟩
  by_cases k0:c % 6=0
  ·rw [if_pos k0]
   refine⟨by decide,fun p hp=>⟨⟨by decide,by decide⟩,by decide,_,SqL.of aj,?_⟩⟩
   have gp:=same_new hp (.lst [.int n,.int (-1)])
   obtain⟨w,ew⟩:=twoI (a:=n) (b:=-1) (z:=c / 6 % 2) (by lia) (by lia)
   refine⟨_,ew,by decide,fun t ht=>?_⟩
   exact q (.ref t) (.part w 0) _ (gp.trans (same_new ht _)) ⟨t,rfl,aj⟩ trivial trivial
  rw [if_neg k0]
  rw [u1];clear u1
  refine aA fun U1 u1=>?_
  walk_at "rd"
  refine⟨by decide,?_⟩
  by_cases k1:c % 6=1
  ·rw [if_pos k1]
   refine⟨by decide,fun p hp=>⟨⟨by decide,by decide⟩,by decide,_,SqL.of aj,?_⟩⟩
   have gp:=same_new hp (.lst [.int D,.int (-1)])
   obtain⟨w,ew⟩:=twoI (a:=D) (b:=-1) (z:=c / 6 % 2) (by lia) (by lia)
   refine⟨_,ew,by decide,fun t ht=>?_⟩
   exact q (.ref t) (.part 0 w) _ (gp.trans (same_new ht _)) ⟨t,rfl,aj⟩ trivial trivial
  rw [if_neg k1]
  rw [u1];clear u1
  refine aA fun U1 u1=>?_
  walk_at "rd"
  refine⟨by decide,?_⟩
  by_cases k2:c % 6=2
  ·rw [if_pos k2]
   refine⟨⟨by decide,by decide⟩,_,.inl (SqL.of etl),by lia,by decide,fun p hp=>⟨by decide,fun p1 hp1=>⟨by decide,fun t ht=>?_⟩⟩⟩
   obtain⟨g,sv⟩:=jN hp hp1 ht
   have m0:=Int.emod_nonneg (c / 6) (b:=(vt.length:Int)) (by lia)
   have m1:=Int.emod_lt_of_pos (c / 6) (b:=(vt.length:Int)) (by lia)
   exact q _ _ _ g sv (lD (by decide) (by decide)) (fun u hu=>by rw [List.mem_singleton.mp hu];exact⟨m0,m1,Int.le_refl 0⟩)
  rw [if_neg k2]
  rw [u1];clear u1
  refine aA fun U1 u1=>?_
  walk_at "rd"
  refine⟨by decide,?_⟩
  by_cases k3:c % 6=3
  ·rw [if_pos k3]
   exact⟨Nat.zero_le _,fun p hp=>⟨by decide,fun t ht=>q (.ref t) (.sum []) _ ((same_new hp _).trans (same_new ht _)) ⟨t,p,[],rfl,aj,(same_new ht _) _ _ aj,.nil⟩ ⟨Nat.zero_le _,fun u z=>by cases z⟩ (fun u z=>by cases z)⟩⟩
  rw [if_neg k3]
  rw [u1];clear u1
  refine aA fun U1 u1=>?_
  walk_at "rd"
  rcases hu with rfl | ⟨u,rfl⟩
  ·rw [if_pos rfl]
   refine⟨⟨by decide,by decide⟩,by split <;> lia,by decide,fun t ht=>?_⟩
   exact q (.ref t) (.oth "Part") _ (same_new ht _) ⟨t,_,rfl,aj,k!,k!⟩ trivial trivial
  rw [if_neg (by simp)]
  rw [u1];clear u1
  walk_at "rd"
  refine⟨by decide,fun p hp=>⟨⟨by decide,by decide⟩,by decide,_,SqL.of aj,?_⟩⟩
  obtain⟨s,es,n1,n2⟩:=Ir (z:=c / 6 % 4) (by lia) (by lia)
  refine⟨_,es,by decide,fun p1 hp1=>⟨by decide,fun t ht=>?_⟩⟩
  exact q (.ref t) (.oth s) _ ((same_new hp _).trans ((same_new hp1 _).trans (same_new ht _))) ⟨t,_,rfl,aj,n1,n2⟩ trivial trivial
noncomputable def Gu (K:PySem.W.Frag) (ζ:Cs):Sp:=fun vs H Q _=>∃ (a tl pd o:Addr) (k:Nat) (ns:List Int) (D:Nat) (vt uo:List V) (lls:List (List Lin)) (pns:List (List Key×V)) (rows:List (List Int)),vs=[.ref a,.int k,.ref tl,.ref pd,.ref o,.int D]∧SqL K H a (ns.map V.int)∧ns.length≤63∧k≤20∧H tl=some (.lst vt)∧Told H vt lls∧1≤lls.length∧lls.length≤6∧(∀ls∈lls,ls.length≤40∧∀ℓ∈ls,ℓ.ps.length≤100)∧H pd=some (.dT pns)∧dX pns∧H o=some (.lst uo)∧Rows H uo rows∧(∀r∈rows,0 < r.length∧r.length≤9)∧rows.length≤8∧1≤D∧D≤31∧∀v st H',Same H H'→StpV H' v st→lN st→Em lls.length st→Q v H'
theorem zQ_:aN ["_law_script","_law_k","_law_told","_law_pins","_law_options_here","_law_days","_law_cell_here","_law_spot","_law_use","_law_free","_law_day","_law_hand"] ["_law_script","_law_k","_law_told","_law_pins","_law_options_here","_law_days"] (aq wK):=⟨rfl,rfl,rfl,k!,rfl,k!,k!⟩
theorem Nj {ζ:Cs} {f:Addr} {fd:FuncData} (F:Fun K "_law_step" "_law_step" wK f fd) (T:Txt K mg ζ) (za_:Cal P w K mg base "_law_cell" ["_law_script","_law_k"] 1 (zP_ K ζ)) (zbV_:Cal P w K mg base "_law_closing" ["_law_told","_law_pins","_law_options_here","_law_days"] 3 (Gr K ζ)) (zdr_:Cal P w K mg base "_law_odd" ["_law_cell_here","_law_told","_law_days","_law_hands","_law_use"] 1 (Gs K ζ)):bA P w K mg base CX0 4 f fd ["_law_script","_law_k","_law_told","_law_pins","_law_options_here","_law_days"] (Gu K ζ):=by
 refine F.ok zQ_ (fun vs H Q E h=>?_) (fun cdv A outer s H vs Q E hr h=>?_)
 ·obtain⟨a,tl,pd,o,k,ns,D,vt,uo,lls,pns,rows,rfl,_⟩:=h
  rfl
 ·obtain⟨a,tl,pd,o,k,ns,D,vt,uo,lls,pns,rows,rfl,hS,hn,k20,etl,hT,l1,l6,l40,ep,aip,eo,hR,r9,h8,D1,D31,q⟩:=h
  refine⟨_,(@au _ _ _ _ _ (aV (i:=6) zQ_.nd rfl (Or.inl rfl) (aM za_ (hr.mono (by decide)) rfl (@aa _ _ _ _ _ (pv 0) (@aa _ _ _ _ _ (@aD _ _ _ _ _ _ _ _ bj ao (@aD _ _ _ _ _ _ _ _ cZ ao (pv 1))) ak (by rfl)) (by rfl)))) (@au _ _ _ _ _ (aV (i:=7) zQ_.nd rfl (Or.inl rfl) (aM za_ (hr.mono (by decide)) rfl (@aa _ _ _ _ _ (pv 0) (@aa _ _ _ _ _ (@aD _ _ _ _ _ _ _ _ bj ao (@aD _ _ _ _ _ _ _ _ cZ ao (pv 1))) ak (by rfl)) (by rfl)))) (@au _ _ _ _ _ (aV (i:=8) zQ_.nd rfl (Or.inl rfl) (aM zbV_ (hr.mono (by decide)) rfl (@aa _ _ _ _ _ (pv 2) (@aa _ _ _ _ _ (pv 3) (@aa _ _ _ _ _ (pv 4) (@aa _ _ _ _ _ (pv 5) ak (by rfl)) (by rfl)) (by rfl)) (by rfl)))) (@au _ _ _ _ _ (@bF _ _ _ _ _ _ _ _ (@aQ _ _ _ _ _ _ _ _ bZ (@aD _ _ _ _ _ _ _ _ bu (pv 6) ao) ao (aR _)) (@az _ _ _ (@aK _ _ _ _ (aM zdr_ (hr.mono (by decide)) rfl (@aa _ _ _ _ _ (@aD _ _ _ _ _ _ _ _ d9 (pv 6) ao) (@aa _ _ _ _ _ (pv 2) (@aa _ _ _ _ _ (pv 5) (@aa _ _ _ _ _ (bx (bC (K:=K) rfl) (by rfl) T.len PySem.boot_len (@aa _ _ _ _ _ (pv 4) ak (by rfl))) (@aa _ _ _ _ _ (pv 8) ak (by rfl)) (by rfl)) (by rfl)) (by rfl)) (by rfl))))) aX) (gR (@bF _ _ _ _ _ _ _ _ (PW.pt (jO (@aQ _ _ _ _ _ _ _ _ nG (pv 8) dm (aR _)) (iG (@aQ _ _ _ _ _ _ _ _ jQ (@aD _ _ _ _ _ _ _ _ bu (pv 6) ao) ao (aR _))))) (@az _ _ _ (@aK _ _ _ _ (@aP _ _ _ _ _ (@aa _ _ _ _ _ cO (@aa _ _ _ _ _ (o6 Bk (@aP _ _ _ _ _ (@aa _ _ _ _ _ (pv 8) (@aa _ _ _ _ _ (pv 8) ak (by rfl)) (by rfl))) sO (sS (@aD _ _ _ _ _ _ _ _ bj ao (@aD _ _ _ _ _ _ _ _ bu (pv 7) ao)))) ak (by rfl)) (by rfl))))) aX)
  (gR (@bF _ _ _ _ _ _ _ _ (@aQ _ _ _ _ _ _ _ _ (jx hr) (pv 4) (@bw _ _ _ _ ak) (aR _)) (@az _ _ _ (@aK _ _ _ _ (@aP _ _ _ _ _ (@aa _ _ _ _ _ cO (@aa _ _ _ _ _ (@aP _ _ _ _ _ (@aa _ _ _ _ _ (@aP _ _ _ _ _ (@aa _ _ _ _ _ ao (@aa _ _ _ _ _ ao (@aa _ _ _ _ _ (@aD _ _ _ _ _ _ _ _ bj ao (@aD _ _ _ _ _ _ _ _ bu (pv 7) ao)) ak (by rfl)) (by rfl)) (by rfl))) ak (by rfl))) ak (by rfl)) (by rfl))))) aX)
  (@au _ _ _ _ _ (aV (i:=9) zQ_.nd rfl (Or.inl rfl) (@bw _ _ _ _ ak)) (@au _ _ _ _ _ (bN PassesOwn.never rfl (bM rfl T.range (@aa _ _ _ _ _ (pv 5) ak (by rfl))) (aB (i:=10) zQ_.nd rfl (Or.inl rfl))
   (@az _ _ _ (bN PassesOwn.never rfl (bM rfl T.range (@aa _ _ _ _ _ (bx (bC (K:=K) rfl) (by rfl) T.len PySem.boot_len (@aa _ _ _ _ _ (pv 4) ak (by rfl))) ak (by rfl))) (aB (i:=11) zQ_.nd rfl (Or.inl rfl))
     (@az _ _ _ (@bF _ _ _ _ _ _ _ _ (nq (mz (dU hr) (@aP _ _ _ _ _ (@aa _ _ _ _ _ (pv 11) (@aa _ _ _ _ _ (pv 10) ak (by rfl)) (by rfl))) (pv 3))) (@az _ _ _ (bY (d7 PySem.F.plainAttrs_list PySem.F.slot_list_append PySem.F.type_list_append cj (pv 9) (@aa _ _ _ _ _ (@aP _ _ _ _ _ (@aa _ _ _ _ _ (pv 11) (@aa _ _ _ _ _ (pv 10) ak (by rfl)) (by rfl))) ak (by rfl))))) aX))))) (gR (@bF _ _ _ _ _ _ _ _ (PW.pt (dR (@aQ _ _ _ _ _ _ _ _ (jx hr) (pv 9) (@bw _ _ _ _ ak) (aR _)) (dN (@aQ _ _ _ _ _ _ _ _ bZ (@aD _ _ _ _ _ _ _ _ bu (pv 6) ao) ao (aR _))))) (@az _ _ _ (@aK _ _ _ _ (@aP _ _ _ _ _ (@aa _ _ _ _ _ cO (@aa _ _ _ _ _ (@aD _ _ _ _ _ _ _ _ bu (pv 7) (bx (bC (K:=K) rfl) (by rfl) T.len PySem.boot_len (@aa _ _ _ _ _ (pv 4) ak (by rfl)))) (@aa _ _ _ _ _ (@aD _ _ _ _ _ _ _ _ bu (@aD _ _ _ _ _ _ _ _ d9 (pv 7) ao) (pv 5)) ak (by rfl)) (by rfl)) (by rfl))))) aX)
  (@az _ _ _ (@aK _ _ _ _ (@aP _ _ _ _ _ (@aa _ _ _ _ _ cO (@aa _ _ _ _ _ (@bc _ _ _ _ _ _ _ bI (@bc _ _ _ _ _ _ _ cD (pv 9) (@aD _ _ _ _ _ _ _ _ bu (pv 7) (bx (bC (K:=K) rfl) (by rfl) T.len PySem.boot_len (@aa _ _ _ _ _ (pv 9) ak (by rfl)))) (fun _ _=>rfl)) ao (fun _ _=>rfl)) (@aa _ _ _ _ _ (@bc _ _ _ _ _ _ _ bI (@bc _ _ _ _ _ _ _ cD (pv 9) (@aD _ _ _ _ _ _ _ _ bu (pv 7) (bx (bC (K:=K) rfl) (by rfl) T.len PySem.boot_len (@aa _ _ _ _ _ (pv 9) ak (by rfl)))) (fun _ _=>rfl)) ao (fun _ _=>rfl)) ak (by rfl)) (by rfl)) (by rfl)))))))))))))),?_⟩
  refine aA fun U1 u1=>?_
  walk_at "rd"
  refine⟨.inl ⟨by decide,by decide⟩,a,ns,_,rfl,hS,hn,by lia,by lia,fun c c0 c1=>?_⟩
  rw [u1];clear u1
  refine aA fun U1 u1=>?_
  walk_at "rd"
  refine⟨.inl ⟨by decide,by decide⟩,a,ns,_,rfl,hS,hn,by lia,by lia,fun sp sp0 sp1=>?_⟩
  rw [u1];clear u1
  refine aA fun U1 u1=>?_
  walk_at "rd"
  have htl:=Paired.length hT
  have hrl:=hR.len
  have key:∀ (uv:V) (H1:Hp),Same H H1→(uv=.non∨∃ (tu:Addr) (i j:Nat),uv=.ref tu∧H1 tu=some (.tup [.int i,.int j,.int 1])∧i < lls.length)→U1 { nx:=fun _ H'=>Q .non H',rt:=Q } [some (.ref a),some (.int k),some (.ref tl),some (.ref pd),some (.ref o),some (.int D),some (.int c),some (.int sp),some uv,none,none,none] H1:=by
   intro uv H1 g1 huv
   rw [u1];clear u1
   refine aA fun U1 u1=>?_
   walk_at "rd"
   refine⟨by decide,?_⟩
   by_cases k0:c % 9=0
   ·rw [if_pos k0]
    refine⟨⟨by decide,by decide⟩,_,.inl (SqL.of (g1 _ _ eo)),c / 9,tl,D,uo.length,uv,vt,rfl,by lia,g1 _ _ etl,by lia,?_,fun v st H' g hsv h1 h2=>q v st H' (g1.trans g) hsv h1 (by rw [← htl];exact h2)⟩
    rcases huv with h | ⟨tu,i,j,h,_⟩
    ·exact .inl h
    ·exact .inr ⟨tu,h⟩
   rw [if_neg k0]
   rw [u1];clear u1
   refine jn (fun σ H'=>Same H1 H'∧σ=[some (.ref a),some (.int k),some (.ref tl),some (.ref pd),some (.ref o),some (.int D),some (.int c),some (.int sp),some uv,none,none,none]) ?_ ?_
   ·walk_at "rd"
    rcases huv with rfl | ⟨tu,i,j,rfl,etu,hi⟩
    ·rw [if_neg (fun z=>z rfl)]
     exact Same.refl _
    ·rw [if_pos (by simp)]
     refine⟨by decide,?_⟩
     by_cases k1:1 < c % 9
     ·rw [if_pos k1]
      refine⟨by decide,fun p hp=>⟨by decide,?_⟩⟩
      have gp:=same_new hp (.tup [.ref tu,.ref tu])
      have uone:uX [((i:Int),(j:Int),(1:Int))]:=lD (by decide) (by decide)
      have ugo:∀u:Tri,u=((i:Int),(j:Int),(1:Int))→0≤u.1∧u.1 < (lls.length:Int)∧0≤u.2.1:=fun u hu=>by
       rw [hu]
       exact⟨Int.natCast_nonneg _,by show (i:Int) < _;lia,Int.natCast_nonneg _⟩
      obtain z | z:sp % 2=0∨sp % 2=1:=by lia
      ·rw [z]
       refine⟨p,_,rfl,SqT.of aj,.inr ⟨by show ¬ (HT.sIx 2 0 none=0∧HT.sIx 2 2 (some (1 + 0))=2);decide,fun p1 hp1=>⟨by decide,fun t ht=>?_⟩⟩⟩
       have gp1:=same_new hp1 (.tup (lE [.ref tu,.ref tu] none (some (1 + 0))))
       have gt:=same_new ht (.tup [.str "sum",.ref p1])
       exact q (.ref t) (.sum [((i:Int),(j:Int),1)]) _ (g1.trans (gp.trans (gp1.trans gt))) ⟨t,p1,[.ref tu],rfl,aj,gt _ _ aj,.cons ⟨tu,rfl,(gp.trans (gp1.trans gt)) _ _ etu⟩ .nil⟩ uone (fun u hu=>ugo u (List.mem_singleton.mp hu))
      ·rw [z]
       refine⟨p,_,rfl,SqT.of aj,.inl ⟨rfl,rfl,by decide,fun t ht=>?_⟩⟩
       have gt:=same_new ht (.tup [.str "sum",.ref p])
       refine q (.ref t) (.sum [((i:Int),(j:Int),1),((i:Int),(j:Int),1)]) _ (g1.trans (gp.trans gt)) ⟨t,p,[.ref tu,.ref tu],rfl,aj,gt _ _ aj,.cons ⟨tu,rfl,(gp.trans gt) _ _ etu⟩ (.cons ⟨tu,rfl,(gp.trans gt) _ _ etu⟩ .nil)⟩ ⟨by show 2≤6;decide,fun u hu=>?_⟩ (fun u hu=>?_)
       ·rcases List.mem_cons.mp hu with r | r
        ·exact uone.2 u (List.mem_singleton.mpr r)
        ·exact uone.2 u r
       ·rcases List.mem_cons.mp hu with r | r
        ·exact ugo u r
        ·exact ugo u (List.mem_singleton.mp r)
     ·rw [if_neg k1]
      exact Same.refl _
   rintro σ H2 ⟨g2,rfl⟩
   refine jn (fun σ H'=>(Same H2 H'∧0 < rows.length)∧σ=[some (.ref a),some (.int k),some (.ref tl),some (.ref pd),some (.ref o),some (.int D),some (.int c),some (.int sp),some uv,none,none,none]) ?_ ?_
   ·walk_at "rd"
    refine⟨Nat.zero_le _,fun e he=>?_⟩
    have ge:=same_new he (.lst [])
    have G:=g1.trans (g2.trans ge)
    refine⟨e,rfl,SqL.of aj,.inr ⟨o,uo,rfl,SqL.of (G _ _ eo),_,rfl,?_⟩⟩
    by_cases z:uo=[]
    ·rw [if_pos (decide_eq_true z)]
     refine⟨by decide,by decide,fun p hp=>⟨by decide,fun p1 hp1=>⟨by decide,fun t ht=>?_⟩⟩⟩
     obtain⟨g4,sv4⟩:=jN hp hp1 ht
     exact q _ _ _ (G.trans g4) sv4 (lD (by lia) (by lia)) (fun u hu=>by rw [List.mem_singleton.mp hu];exact⟨Int.le_refl 0,by show (0:Int) < _;lia,Int.le_refl 0⟩)
    ·rw [if_neg (by simp [z])]
     exact⟨ge,by have:=List.length_pos_iff.mpr z;lia⟩
   rintro σ H3 ⟨⟨g3,r0⟩,rfl⟩
   have G3:=g1.trans (g2.trans g3)
   refine aA fun U1 u1=>?_
   walk_at "rd"
   refine⟨Nat.zero_le _,fun L hL=>?_⟩
   have tw0:DuI H3 L [] (upd H3 L (.lst [])):=DuI.start hL
   generalize upd H3 L (.lst [])=H4 at tw0 ⊢
   rw [u1];clear u1
   refine aA fun U1 u1=>bU fun B1 b1=>?_
   walk_at "rd"
   refine⟨by lia,by lia,bH (fun i σ H'=>(∃fr,DuI H3 L fr H'∧fr.length≤i * 8)∧∃v10 v11,σ=[some (.ref a),some (.int k),some (.ref tl),some (.ref pd),some (.ref o),some (.int D),some (.int c),some (.int sp),some uv,some (.ref L),v10,v11]) ⟨⟨[],tw0,Nat.zero_le _⟩,none,none,rfl⟩ ?_ ?_⟩
   ·rintro i σ H' hi ⟨⟨fr,du,frl⟩,v10,v11,rfl⟩
    rw [show (0 + (i:Int))=i by lia]
    rw [b1]
    refine bU fun B2 b2=>?_
    walk_at "rd"
    have G5:=G3.trans du.same
    refine⟨_,.inl (SqL.of (G5 _ _ eo)),by lia,by lia,bH (fun j σ H'=>(∃fr,DuI H3 L fr H'∧fr.length≤i * 8 + j)∧∃v11,σ=[some (.ref a),some (.int k),some (.ref tl),some (.ref pd),some (.ref o),some (.int D),some (.int c),some (.int sp),some uv,some (.ref L),some (.int i),v11]) ⟨⟨fr,du,by omega⟩,v11,rfl⟩ ?_ ?_⟩
    ·rintro j σ H' hj ⟨⟨fr,du,frl⟩,v11,rfl⟩
     rw [show (0 + (j:Int))=j by lia]
     rw [b2]
     walk_at "rd"
     refine⟨by decide,fun p hp=>?_⟩
     have gp:=same_new hp (.tup [.int j,.int i])
     have du2:=du.mono gp
     refine⟨_,DGet.t (k:=k2 j i) (((G3.trans du.same).trans gp) _ _ ep) aj,?_⟩
     obtain⟨uf,_,ef,_⟩:=du2.ex
     cases bW pns (k2 j i) with
     | none =>
      rw [if_pos (show (none:Option V).isSome=false from rfl)]
      refine⟨.inl ⟨rfl,_,SqL.of ef⟩,by decide,fun p1 hp1=>?_⟩
      obtain⟨xs,x1,x2,x3⟩:=du2.step (a:=j) (b:=i) hL (by lia) hp1
      exact⟨xs,x1,x2,_,x3,by rw [List.length_append,List.length_singleton];lia⟩
     | some v =>
      rw [if_neg (by simp)]
      exact⟨fr,du2,by lia⟩
    ·rintro σ H' ⟨⟨fr,du,frl⟩,v11,rfl⟩
     exact⟨⟨fr,du,by lia⟩,_,_,rfl⟩
   rintro σ H5 ⟨⟨fr,du,frl⟩,v10,v11,rfl⟩
   rw [u1];clear u1
   obtain⟨uf,g5,ef,hF⟩:=du.ex
   have G5:=G3.trans g5
   refine jn (fun σ H'=>(Same H5 H'∧0 < fr.length)∧∃v10 v11,σ=[some (.ref a),some (.int k),some (.ref tl),some (.ref pd),some (.ref o),some (.int D),some (.int c),some (.int sp),some uv,some (.ref L),v10,v11]) ?_ ?_
   ·walk_at "rd"
    refine⟨Nat.zero_le _,fun e he=>?_⟩
    have ge:=same_new he (.lst [])
    have G6:=G5.trans ge
    have ufl:=Paired.length hF
    refine⟨e,rfl,SqL.of aj,.inr ⟨L,uf,rfl,SqL.of (ge _ _ ef),_,rfl,?_⟩⟩
    by_cases z:uf=[]
    ·rw [if_pos (decide_eq_true z)]
     refine⟨_,.inl (SqL.of (G6 _ _ eo)),by lia,⟨by decide,by decide⟩,by lia,by decide,fun t ht=>?_⟩
     exact q (.ref t) (.part _ _) _ (G6.trans (same_new ht _)) ⟨t,rfl,aj⟩ trivial trivial
    ·rw [if_neg (by simp [z])]
     refine⟨by decide,?_⟩
     by_cases kt:c % 9=2
     ·rw [if_pos kt]
      refine⟨_,.inl (SqL.of (G6 _ _ eo)),by lia,⟨by decide,by decide⟩,by lia,by decide,fun t ht=>?_⟩
      exact q (.ref t) (.part _ _) _ (G6.trans (same_new ht _)) ⟨t,rfl,aj⟩ trivial trivial
     ·rw [if_neg kt]
      exact⟨ge,by have:=List.length_pos_iff.mpr z;lia⟩
   rintro σ H6 ⟨⟨g6,f0⟩,v10,v11,rfl⟩
   walk_at "rd"
   have ufl:=Paired.length hF
   have ef6:=g6 _ _ ef
   have hF6:=hF.tmono (aF g6)
   obtain⟨kx,ek,kxl⟩:∃kx:Nat,sp % (uf.length:Int)=kx∧kx < fr.length:=⟨(sp % (uf.length:Int)).toNat,by have:=Int.emod_nonneg sp (b:=(uf.length:Int)) (by lia);lia,by have:=Int.emod_lt_of_pos sp (b:=(uf.length:Int)) (by lia);lia⟩
   obtain⟨w,ew,tw,rfl,qw⟩:=Paired.at hF6 (List.getElem?_eq_getElem kxl)
   refine⟨_,.inl (SqL.of ef6),by lia,_,SqL.of ef6,_,by rw [ek];exact cY ew,tw,rfl,_,SqT.of qw,_,rfl,_,.inl (SqL.of ef6),by lia,_,SqL.of ef6,_,by rw [ek];exact cY ew,tw,rfl,_,SqT.of qw,_,rfl,by decide,fun t ht=>?_⟩
   exact q (.ref t) (.part _ _) _ ((G5.trans g6).trans (same_new ht _)) ⟨t,rfl,aj⟩ trivial trivial
  exact⟨tl,pd,o,D,vt,uo,lls,pns,rows,rfl,etl,hT,l6,l40,ep,aip,eo,hR,r9,h8,D31,(fun H1 g1=>key .non H1 g1 (.inl rfl)),fun tu i j H1 g1 etu hi=>key (.ref tu) H1 g1 (.inr ⟨tu,i,j,rfl,etu,hi⟩)⟩
noncomputable def Gv (K:PySem.W.Frag) (ζ:Cs):Sp:=fun vs H Q _=>∃ (sv:V) (st:Stp) (tl pd o:Addr) (D:Nat) (vt uo:List V) (lls:List (List Lin)) (pns:List (List Key×V)) (rows:List (List Int)),vs=[sv,.ref tl,.ref pd,.ref o,.int D]∧StpV H sv st∧lN st∧Em lls.length st∧H tl=some (.lst vt)∧Told H vt lls∧(∀ls∈lls,ls.length≤40∧∀ℓ∈ls,ℓ.ps.length≤100)∧H pd=some (.dT pns)∧PinOk rows.length D 0 pns∧pns.length≤900∧H o=some (.lst uo)∧Rows H uo rows∧(∀r∈rows,0 < r.length∧r.length≤9)∧rows.length≤8∧D≤31∧(isStep (jg lls rows D) pns st=false→∀H',Same H H'→Q .non H')∧(isStep (jg lls rows D) pns st=true→∀r us H',Same H H'→H r=none→H' r=some (.lst us)→Dcts H' us (qG (jg lls rows D) pns st)→Q (.ref r) H')
theorem zf_:aN ["_law_step_here","_law_told","_law_pins","_law_options_here","_law_days","_law_hand","_law_day","_law_found","_law_value","_law_case","_law_pairs","_law_rule_here","_law_line","_law_times"] ["_law_step_here","_law_told","_law_pins","_law_options_here","_law_days"] (aq zZ_):=⟨rfl,rfl,rfl,k!,rfl,k!,k!⟩
theorem Nk {ζ:Cs} {f:Addr} {fd:FuncData} (F:Fun K "_law_behind" "_law_behind" zZ_ f fd) (T:Txt K mg ζ) (zaa_:Cal P w K mg base "_law_closes" ["_law_pairs","_law_pins","_law_options_here","_law_days"] 2 (Bs K ζ)):bA P w K mg base CX0 3 f fd ["_law_step_here","_law_told","_law_pins","_law_options_here","_law_days"] (Gv K ζ):=by
 refine F.ok zf_ (fun vs H Q E h=>?_) (fun cdv A outer s H vs Q E hr h=>?_)
 ·obtain⟨sv,st,tl,pd,o,D,vt,uo,lls,pns,rows,rfl,_⟩:=h
  rfl
 ·obtain⟨sv,st,tl,pd,o,D,vt,uo,lls,pns,rows,rfl,hs0,hus,hgo,etl,hT,l40,ep,pok,pl,eo,hR,r9,h8,D31,q1,q2⟩:=h
  refine⟨_,(@au _ _ _ _ _ (@bF _ _ _ _ _ _ _ _ (@aQ _ _ _ _ _ _ _ _ bZ (@bc _ _ _ _ _ _ _ bI (pv 0) ao (fun _ _=>rfl)) cO (aR _)) (@au _ _ _ _ _ (aV (i:=5) zf_.nd rfl (Or.inl rfl) (@bc _ _ _ _ _ _ _ bI (pv 0) ao (fun _ _=>rfl))) (@au _ _ _ _ _ (aV (i:=6) zf_.nd rfl (Or.inl rfl) (@bc _ _ _ _ _ _ _ bI (pv 0) ao (fun _ _=>rfl))) (@au _ _ _ _ _ (@bF _ _ _ _ _ _ _ _ (PW.pt (dR (@aQ _ _ _ _ _ _ _ _ dZ (pv 5) ao (aR _)) (dR (@aQ _ _ _ _ _ _ _ _ lR (pv 5) (bx (bC (K:=K) rfl) (by rfl) T.len PySem.boot_len (@aa _ _ _ _ _ (pv 3) ak (by rfl))) (aR _)) (dR (@aQ _ _ _ _ _ _ _ _ dZ (pv 6) ao (aR _)) (dR (@aQ _ _ _ _ _ _ _ _ lR (pv 6) (pv 4) (aR _)) (dN (nq (rD (dU hr) (@aP _ _ _ _ _ (@aa _ _ _ _ _ (pv 5) (@aa _ _ _ _ _ (pv 6) ak (by rfl)) (by rfl))) (pv 2))))))))) (@az _ _ _ (@aK _ _ _ _ dm)) aX) (@au _ _ _ _ _ (aV (i:=7) zf_.nd rfl (Or.inl rfl) (@bw _ _ _ _ ak)) (@au _ _ _ _ _ (bN PassesOwn.never rfl (yW rfl T.reversed (@bc _ _ _ _ _ _ _ cD (pv 3) (pv 5) (fun _ _=>rfl))) (aB (i:=8) zf_.nd rfl (Or.inl rfl))
    (@au _ _ _ _ _ (aV (i:=9) zf_.nd rfl (Or.inl rfl) (bG kY (by rfl) T.dict PyProof.Rows.boot_dict (@aa _ _ _ _ _ (pv 2) ak (by rfl)))) (@au _ _ _ _ _ (iU (dU hr) (pv 9) (@aP _ _ _ _ _ (@aa _ _ _ _ _ (pv 5) (@aa _ _ _ _ _ (pv 6) ak (by rfl)) (by rfl))) (pv 8) rfl) (@az _ _ _ (bY (d7 PySem.F.plainAttrs_list PySem.F.slot_list_append PySem.F.type_list_append cj (pv 7) (@aa _ _ _ _ _ (pv 9) ak (by rfl)))))))) (@az _ _ _ (@aK _ _ _ _ (pv 7)))))))) aX) (@au _ _ _ _ _ (@bF _ _ _ _ _ _ _ _ (PW.pt (dR (@aQ _ _ _ _ _ _ _ _ wX (@bc _ _ _ _ _ _ _ bI (pv 0) ao (fun _ _=>rfl)) cO (aR _)) (dN (@aQ _ _ _ _ _ _ _ _ (Du 2 hr) (@bc _ _ _ _ _ _ _ bI (pv 0) ao (fun _ _=>rfl)) (@aP _ _ _ _ _ ak) (aR _))))) (@az _ _ _ (@aK _ _ _ _ dm)) aX) (@au _ _ _ _ _ (aV (i:=10) zf_.nd rfl (Or.inl rfl) (@bw _ _ _ _ ak)) (@au _ _ _ _ _ (bN PassesOwn.never rfl (nA (@bc _ _ _ _ _ _ _ bI (pv 0) ao (fun _ _=>rfl))) (cL (n:=3) rfl (aO (aB (i:=11) zf_.nd rfl (Or.inl rfl)) (aO (aB (i:=12) zf_.nd rfl (Or.inl rfl)) (aO (aB (i:=13) zf_.nd rfl (Or.inl rfl)) bV))))
   (@au _ _ _ _ _ (@bF _ _ _ _ _ _ _ _ (PW.pt (dR (@aQ _ _ _ _ _ _ _ _ dZ (pv 13) ao (aR _)) (dN (@aQ _ _ _ _ _ _ _ _ lR (pv 12) (bx (bC (K:=K) rfl) (by rfl) T.len PySem.boot_len (@aa _ _ _ _ _ (@bc _ _ _ _ _ _ _ cD (pv 1) (pv 11) (fun _ _=>rfl)) ak (by rfl))) (aR _))))) (@az _ _ _ (@aK _ _ _ _ dm)) aX) (@az _ _ _ (bY (d7 PySem.F.plainAttrs_list PySem.F.slot_list_append PySem.F.type_list_append cj (pv 10) (@aa _ _ _ _ _ (@aP _ _ _ _ _ (@aa _ _ _ _ _ (@bc _ _ _ _ _ _ _ cD (@bc _ _ _ _ _ _ _ cD (pv 1) (pv 11) (fun _ _=>rfl)) (pv 12) (fun _ _=>rfl)) (@aa _ _ _ _ _ (pv 13) ak (by rfl)) (by rfl))) ak (by rfl))))))) (@au _ _ _ _ _ (@bF _ _ _ _ _ _ _ _ (dM (aM zaa_ (hr.mono (by decide)) rfl (@aa _ _ _ _ _ (pv 10) (@aa _ _ _ _ _ (pv 2) (@aa _ _ _ _ _ (pv 3) (@aa _ _ _ _ _ (pv 4) ak (by rfl)) (by rfl)) (by rfl)) (by rfl)))) (@az _ _ _ (@aK _ _ _ _ (@bw _ _ _ _ ak))) aX) (@az _ _ _ (@aK _ _ _ _ dm))))))),?_⟩
  obtain⟨t,rfl⟩:=hs0.rf
  refine aA fun U1 u1=>oK fun A1 a1=>?_
  walk_at "rd"
  cases st with
  | part h d =>
   obtain⟨t0,e0,et⟩:=part_of hs0
   cases e0
   refine⟨_,SqT.of et,_,rfl,rfl,?_⟩
   rw [if_pos rfl]
   rw [a1];clear a1 u1
   refine aA fun U2 u2=>?_
   walk_at "rd"
   refine⟨_,SqT.of et,_,rfl,?_⟩
   rw [u2];clear u2
   refine aA fun U2 u2=>?_
   walk_at "rd"
   refine⟨_,SqT.of et,_,rfl,?_⟩
   rw [u2];clear u2
   refine aA fun U2 u2=>?_
   walk_at "rd"
   have hrl:=hR.len
   have ef:isFree rows.length D pns h d=((decide (0≤h) && decide (h < (rows.length:Int))) && ((decide (0≤d) && decide (d < (D:Int))) && !(bW pns (k2 h d)).isSome)):=rfl
   by_cases h0:h < 0
   ·rw [if_pos h0]
    exact q1 (by show isFree rows.length D pns h d=false;rw [ef,decide_eq_false (show ¬ 0≤h by lia)];simp) H (Same.refl _)
   rw [if_neg h0]
   refine⟨_,.inl (SqL.of eo),?_⟩
   by_cases h1:(uo.length:Int)≤h
   ·rw [if_pos h1]
    exact q1 (by show isFree rows.length D pns h d=false;rw [ef,decide_eq_false (show ¬ h < (rows.length:Int) by lia)];simp) H (Same.refl _)
   rw [if_neg h1]
   by_cases d0:d < 0
   ·rw [if_pos d0]
    exact q1 (by show isFree rows.length D pns h d=false;rw [ef,decide_eq_false (show ¬ 0≤d by lia)];simp) H (Same.refl _)
   rw [if_neg d0]
   by_cases d1:(D:Int)≤d
   ·rw [if_pos d1]
    exact q1 (by show isFree rows.length D pns h d=false;rw [ef,decide_eq_false (show ¬ d < (D:Int) by lia)];simp) H (Same.refl _)
   rw [if_neg d1]
   refine⟨by decide,fun pk hpk=>?_⟩
   have gk:=same_new hpk (.tup [.int h,.int d])
   refine⟨_,DGet.t (k:=k2 h d) (gk _ _ ep) aj,?_⟩
   cases hv:bW pns (k2 h d) with
   | some v =>
    rw [if_pos (show (some v).isSome=true from rfl)]
    exact q1 (by show isFree rows.length D pns h d=false;rw [ef,hv];simp) _ gk
   | none =>
    rw [if_neg (by simp)]
    have q3:=q2 (by
     show isFree rows.length D pns h d=true
     rw [ef,hv,decide_eq_true (show 0≤h by lia),decide_eq_true (show h < (rows.length:Int) by lia),decide_eq_true (show 0≤d by lia),decide_eq_true (show d < (D:Int) by lia)]
     rfl)
    clear q1 q2
    generalize upd H pk (.tup [.int h,.int d])=H1 at gk ⊢
    rw [u2];clear u2
    refine aA fun U2 u2=>?_
    walk_at "rd"
    refine⟨Nat.zero_le _,fun L hL=>?_⟩
    have gL:=same_new hL (.lst [])
    have hL0:=gk.free hL
    have eL0:=aj (H:=H1) (a:=L) (o:=.lst [])
    replace gL:=gk.trans gL
    generalize upd H1 L (.lst [])=H2 at gL eL0 ⊢
    rw [u2];clear u2
    refine aA fun U2 u2=>bU fun B1 b1=>?_
    walk_at "rd"
    have hh:h.toNat < rows.length:=by lia
    obtain⟨rc,a1,e1⟩:=hR.get (List.getElem?_eq_getElem hh)
    have ea:=cY a1
    rw [show ((h.toNat:Nat):Int)=h by lia] at ea
    have owl:=(r9 _ (List.getElem_mem hh)).2
    have q4:∀r us H',Same H H'→H r=none→H' r=some (.lst us)→Dcts H' us (rows[h.toNat].reverse.map fun v=>putK pns (k2 h d) (.int v))→Q (.ref r) H':=fun r us H' g hr er hD=>q3 r us H' g hr er (by
     show Dcts H' us (eF pns ((rows[h.toNat]?).getD []) h d)
     rw [List.getElem?_eq_getElem hh]
     exact hD)
    clear q3
    generalize rows[h.toNat]=ow at e1 q4 owl
    have lf0:LfI H L [] H2:=⟨[],gL,eL0,.nil⟩
    refine⟨_,SqL.of (gL _ _ eo),_,ea,rc,rfl,_,SqL.of (gL _ _ e1),qF (xs:=ow.map V.int) (fun i σ H'=>LfI H L ((ow.reverse.take i).map fun v=>putK pns (k2 h d) (.int v)) H'∧∃v8 v9 v10 v11 v12 v13,σ=[some (.ref t),some (.ref tl),some (.ref pd),some (.ref o),some (.int D),some (.int h),some (.int d),some (.ref L),v8,v9,v10,v11,v12,v13]) ⟨lf0,none,none,none,none,none,none,rfl⟩ (fun i σ H' _ hh=>SqL.of (hh.1.same _ _ e1)) ?_ ?_⟩
    ·rintro i v σ H' hx ⟨lf,v8,v9,v10,v11,v12,v13,rfl⟩
     rw [← List.map_reverse] at hx
     obtain⟨z,hz,rfl⟩:=eU hx
     have hi:=(List.getElem?_eq_some_iff.mp hz).1
     rw [List.length_reverse] at hi
     rw [b1]
     refine aA fun U2 u2=>?_
     walk_at "rd"
     refine⟨pns,lf.same _ _ ep,pok.hash h8 D31 _ _,fun p hp=>?_⟩
     rw [u2];clear u2
     refine aA fun U2 u2=>?_
     walk_at "rd"
     refine⟨by decide,fun pk hpk=>?_⟩
     have y1:=same_new hp (.dT pns)
     have y2:=same_new hpk (.tup [.int h,.int d])
     have ep2:=y2 _ _ (aj (H:=H') (a:=p) (o:=.dT pns))
     refine⟨_,DPut.t (k:=k2 h d) ep2 aj (aW (by lia)),?_⟩
     have gN:Same H' (upd (upd (upd H' p (.dT pns)) pk (.tup [.int h,.int d])) p (.dT (putK pns (k2 h d) (.int z)))):=aY hp (y1.trans y2) _
     have epN:=aj (H:=upd (upd H' p (.dT pns)) pk (.tup [.int h,.int d])) (a:=p) (o:=.dT (putK pns (k2 h d) (.int z)))
     generalize upd (upd (upd H' p (.dT pns)) pk (.tup [.int h,.int d])) p (.dT (putK pns (k2 h d) (.int z)))=H3 at gN epN ⊢
     have lf3:=lf.mono gN
     obtain⟨us3,g3,eL3,hD3⟩:=lf3.ex
     have hl3:=Paired.length hD3
     rw [List.length_map,List.length_take,List.length_reverse] at hl3
     rw [u2];clear u2
     walk_at "rd"
     refine⟨.inl ⟨rfl,_,SqL.of eL3⟩,_,eL3,aW (by omega),?_⟩
     rw [bh hz,List.map_append]
     exact lf3.put hL0 (bz hD3 ⟨p,rfl,epN,(pok.plain2 (by lia) (by lia) (by lia) (by lia) z).plain⟩)
    rintro σ H' ⟨lf,v8,v9,v10,v11,v12,v13,rfl⟩
    rw [u2];clear u2
    walk_at "rd"
    obtain⟨us,g,eL,hD⟩:=lf.ex
    rw [List.length_map,show ow.length=ow.reverse.length from (List.length_reverse ..).symm,List.take_length] at hD
    exact q4 L us H' g hL0 eL hD
  | sum us =>
   obtain⟨t0,ut,uv,e0,et,eu,hU⟩:=rW hs0
   cases e0
   refine⟨_,SqT.of et,_,rfl,rfl,?_⟩
   rw [if_neg k!]
   rw [u1];clear u1 a1
   refine aA fun U1 u1=>?_
   walk_at "rd"
   refine⟨_,SqT.of et,_,rfl,rfl,?_⟩
   rw [if_neg (fun z=>z rfl)]
   refine⟨_,SqT.of et,_,rfl,Nat.zero_le _,fun pe hpe=>?_⟩
   have ge:=same_new hpe (.tup [])
   refine⟨ut,pe,.tup (us.map tD3),.tup [],rfl,rfl,zb (SqT.of (ge _ _ eu)) (Tris.tmono (aF ge) hU),⟨[],SqT.of aj,.nil⟩,(fun i d e h1 h2=>by simp at h2),_,rfl,?_⟩
   rw [Bj]
   by_cases zu:us=[]
   ·rw [if_pos (decide_eq_true zu)]
    refine q1 ?_ _ ge
    show ju lls us pns _ _ _=false
    unfold ju
    rw [decide_eq_false (fun y=>y zu),Bool.false_and,Bool.and_false]
   rw [if_neg (by simp [zu])]
   replace et:=ge _ _ et
   replace eu:=ge _ _ eu
   replace hU:=Tris.tmono (aF ge) hU
   generalize upd H pe (.tup [])=H1 at ge et eu hU ⊢
   rw [u1];clear u1
   refine aA fun U1 u1=>?_
   walk_at "rd"
   refine⟨Nat.zero_le _,fun L hL=>?_⟩
   rw [u1];clear u1
   refine aA fun U1 u1=>bU fun B1 b1=>?_
   walk_at "rd"
   have gL0:=same_new hL (.lst [])
   have hT1:=hT.mono ge
   have etl1:=ge _ _ etl
   have htl:=Paired.length hT
   have hvl:=Paired.length hU
   have hgo':∀u∈us,0≤u.1∧u.1 < (lls.length:Int)∧0≤u.2.1:=hgo
   have hus':uX us:=hus
   refine⟨_,SqT.of (gL0 _ _ et),_,rfl,ut,rfl,⟨_,SqT.of (gL0 _ _ eu)⟩,iJ (xs:=uv) (fun i σ H'=>PlG H1 L (usL lls (us.take i)) H'∧(us.take i).all (okU lls)=true∧∃v11 v12 v13,σ=[some (.ref t),some (.ref tl),some (.ref pd),some (.ref o),some (.int D),none,none,none,none,none,some (.ref L),v11,v12,v13]) ⟨PlG.start hL,rfl,none,none,none,rfl⟩ (fun i σ H' _ hh=>SqT.of (hh.1.same _ _ eu)) ?_ ?_⟩
   ·rintro i v σ H' hx ⟨pg,ha,v11,v12,v13,rfl⟩
    obtain⟨u,hu,tu,rfl,qt⟩:=Paired.get' hU hx
    have hi:=(List.getElem?_eq_some_iff.mp hu).1
    have g:=pg.same
    walk_at "rd"
    refine⟨_,SqT.of (g _ _ qt),rfl,_,_,rfl,_,_,rfl,_,_,rfl,rfl,?_⟩
    rw [b1]
    refine aA fun U2 u2=>?_
    walk_at "rd"
    have bad:okU lls u=false→Q .non H':=fun hz=>q1 (by
     show ju lls us pns _ _ _=false
     unfold ju
     rw [yR hu hz]
     rfl) H' (ge.trans g)
    have hok:okU lls u=((cJ lls u).isSome && decide (1≤u.2.2)):=rfl
    obtain⟨r0,r1,l0⟩:=hgo' u (List.mem_of_getElem? hu)
    by_cases m1:u.2.2 < 1
    ·rw [if_pos m1]
     exact bad (by rw [hok,decide_eq_false (by lia),Bool.and_false])
    rw [if_neg m1]
    have hr:u.1.toNat < lls.length:=by omega
    obtain⟨v,ev,tv,ul,rfl,w1',w2'⟩:=Paired.at hT1 (List.getElem?_eq_getElem hr)
    have ea:=cY ev
    rw [show ((u.1.toNat:Nat):Int)=u.1 by omega] at ea
    refine⟨_,SqL.of (g _ _ etl1),_,ea,tv,rfl,_,.inl (SqL.of (g _ _ w1')),?_⟩
    have hull:=Paired.length w2'
    have en:cJ lls u=lls[u.1.toNat][u.2.1.toNat]?:=qz (r:=u.1) (l:=u.2.1) (t:=u.2.2) (by omega) (List.getElem?_eq_getElem hr) (by omega)
    by_cases l1:(ul.length:Int)≤u.2.1
    ·rw [if_pos l1]
     exact bad (by rw [hok,en,List.getElem?_eq_none (by omega)];rfl)
    rw [if_neg l1]
    have hl:u.2.1.toNat < lls[u.1.toNat].length:=by omega
    obtain⟨w,ew,q3⟩:=Paired.at w2' (List.getElem?_eq_getElem hl)
    have q3':=q3
    obtain⟨t',l',ts',rfl,w1,w2,w3⟩:=q3
    have eb:=cY ew
    rw [show ((u.2.1.toNat:Nat):Int)=u.2.1 by omega] at eb
    rw [List.getElem?_eq_getElem hl] at en
    rw [u2];clear u2
    obtain⟨pu,_,pe',_⟩:=pg.ex
    walk_at "rd"
    refine⟨.inl ⟨rfl,_,SqL.of pe'⟩,_,SqL.of (g _ _ etl1),_,ea,tv,rfl,_,SqL.of (g _ _ w1'),_,eb,by decide,fun p hp'=>?_⟩
    have u6:=hus'.1
    obtain⟨xs,x1,x2,x3⟩:=pg.step (k:=u.2.2) hL (by unfold usL;rw [List.length_map,List.length_take];omega) q3' hp'
    have e5:usL lls (us.take (i + 1))=usL lls (us.take i) ++ [(lls[u.1.toNat][u.2.1.toNat],u.2.2)]:=by
     unfold usL
     rw [bh hu,List.map_append]
     show _ ++ [((cJ lls u).getD gQ,u.2.2)]=_
     rw [en]
     rfl
    refine⟨xs,x1,x2,by rw [e5];exact x3,?_⟩
    rw [bh hu,List.all_append,ha]
    show (true && (okU lls u && true))=true
    rw [hok,en,decide_eq_true (by lia)]
    rfl
   rintro σ H' ⟨pg,ha,v11,v12,v13,rfl⟩
   rw [hvl,List.take_length] at pg ha
   obtain⟨up,g,eL,hP⟩:=pg.done
   have G:=ge.trans g
   rw [u1];clear u1
   refine aA fun U1 u1=>?_
   walk_at "rd"
   have hp9:bL (usL lls us)≤900:=by
    have h1:=jw (sums:=lls) (fun ls hls ℓ hℓ=>(l40 ls hls).2 ℓ hℓ) us
    have h2:=hus'.1
    lia
   refine⟨L,pd,o,D,up,uo,usL lls us,pns,rows,rfl,eL,hP,uh hus',hp9,G _ _ ep,pok.ai,G _ _ eo,hR.mono G,r9,h8,D31,fun H3 g3=>⟨_,rfl,?_⟩⟩
   have edue:ju lls us pns (fun h=>rows[h]?.getD []) rows.length D=decide (d8 pns (bJ (usL lls us)) (fun h=>rows[h]?.getD []) rows.length D < dW (usL lls us)):=by
    unfold ju
    rw [ha,decide_eq_true zu,Bool.true_and,Bool.true_and]
   cases z:decide (d8 pns (bJ (usL lls us)) (fun h=>rows[h]?.getD []) rows.length D < dW (usL lls us)) with
   | true =>
    rw [if_pos rfl]
    exact⟨Nat.zero_le _,fun r hr=>q2 (edue.trans z) r [] _ ((G.trans g3).trans (same_new hr _)) ((G.trans g3).free hr) aj .nil⟩
   | false =>
    rw [if_neg (by decide)]
    rw [u1];clear u1
    walk_at "rd"
    exact q1 (edue.trans z) H3 (G.trans g3)
  | oth s =>
   obtain⟨t0,vs,e0,et,n1,n2⟩:=yZ hs0
   cases e0
   refine⟨_,SqT.of et,_,at0 _ _,rfl,?_⟩
   rw [if_neg n1]
   rw [u1];clear u1 a1
   refine aA fun U1 u1=>?_
   walk_at "rd"
   refine⟨_,SqT.of et,_,at0 _ _,rfl,?_⟩
   rw [if_pos n2]
   exact q1 rfl H (Same.refl _)
noncomputable def Gw (K:PySem.W.Frag) (ζ:Cs):Sp:=fun vs H Q _=>∃ (a tl o:Addr) (ns:List Int) (D:Nat) (vt uo:List V) (lls:List (List Lin)) (rows:List (List Int)),vs=[.ref a,.ref tl,.ref o,.int D]∧SqL K H a (ns.map V.int)∧ns.length≤63∧H tl=some (.lst vt)∧Told H vt lls∧1≤lls.length∧lls.length≤6∧(∀ls∈lls,ls.length≤40∧∀ℓ∈ls,ℓ.ps.length≤100)∧H o=some (.lst uo)∧Rows H uo rows∧(∀r∈rows,0 < r.length∧r.length≤9)∧rows.length≤8∧1≤D∧D≤31∧∀ (t pa:Addr) (cv:V) (up:List V) (sts:List Stp) H',Same H H'→H' t=some (.tup [.ref pa,cv])→H' pa=some (.lst up)→Stps H' up sts→(∀st∈sts,lN st)→sts.length≤20→((cV (jg lls rows D) sts=none∧cv=.non)∨∃cl us cs,cv=.ref cl∧H' cl=some (.lst us)∧Dcts H' us cs∧cV (jg lls rows D) sts=some cs)→Q (.ref t) H'
theorem zm_:aN ["_law_script","_law_told","_law_options_here","_law_days","_law_cases","_law_paper","_law_k","_law_pins","_law_step_here","_law_behind_here"] ["_law_script","_law_told","_law_options_here","_law_days"] (aq wL):=⟨rfl,rfl,rfl,k!,rfl,k!,k!⟩
theorem Nm {ζ:Cs} {f:Addr} {fd:FuncData} (F:Fun K "_law_walk" "_law_walk" wL f fd) (T:Txt K mg ζ) (zdg_:Cal P w K mg base "_law_step" ["_law_script","_law_k","_law_told","_law_pins","_law_options_here","_law_days"] 4 (Gu K ζ)) (zcs_:Cal P w K mg base "_law_behind" ["_law_step_here","_law_told","_law_pins","_law_options_here","_law_days"] 3 (Gv K ζ)) (za_:Cal P w K mg base "_law_cell" ["_law_script","_law_k"] 1 (zP_ K ζ)):bA P w K mg base CX0 5 f fd ["_law_script","_law_told","_law_options_here","_law_days"] (Gw K ζ):=by
 refine F.ok zm_ (fun vs H Q E h=>?_) (fun cdv A outer s H vs Q E hr h=>?_)
 ·obtain⟨a,tl,o,ns,D,vt,uo,lls,rows,rfl,_⟩:=h
  rfl
 ·obtain⟨a,tl,o,ns,D,vt,uo,lls,rows,rfl,hS,hn,etl,hT,l1,l6,l40,eo,hR,r9,h8,D1,D31,q⟩:=h
  refine⟨_,(@au _ _ _ _ _ (aV (i:=4) zm_.nd rfl (Or.inl rfl) (@bw _ _ _ _ (@aa _ _ _ _ _ iV ak (by rfl)))) (@au _ _ _ _ _ (aV (i:=5) zm_.nd rfl (Or.inl rfl) (@bw _ _ _ _ ak)) (@au _ _ _ _ _ (bN PassesOwn.never rfl (bM rfl T.range (@aa _ _ _ _ _ (@aD _ _ _ _ _ _ _ _ bu (aM za_ (hr.mono (by decide)) rfl (@aa _ _ _ _ _ (pv 0) (@aa _ _ _ _ _ ao ak (by rfl)) (by rfl))) ao) ak (by rfl))) (aB (i:=6) zm_.nd rfl (Or.inl rfl))
   (@au _ _ _ _ _ (@bF _ _ _ _ _ _ _ _ (PW.pt (dR (@aQ _ _ _ _ _ _ _ _ nF (pv 4) dm (aR _)) (dN (@aQ _ _ _ _ _ _ _ _ (jx hr) (pv 4) (@bw _ _ _ _ ak) (aR _))))) (@au _ _ _ _ _ (@bF _ _ _ _ _ _ _ _ (@aQ _ _ _ _ _ _ _ _ jQ (@aD _ _ _ _ _ _ _ _ bu (aM za_ (hr.mono (by decide)) rfl (@aa _ _ _ _ _ (pv 0) (@aa _ _ _ _ _ ao ak (by rfl)) (by rfl))) ao) ao (aR _)) (@az _ _ _ (@aK _ _ _ _ (@aP _ _ _ _ _ (@aa _ _ _ _ _ (pv 5) (@aa _ _ _ _ _ (pv 4) ak (by rfl)) (by rfl))))) aX) (@au _ _ _ _ _ (bY (d7 PySem.F.plainAttrs_list PySem.F.slot_list_append PySem.F.type_list_append cj (pv 5) (@aa _ _ _ _ _ (@aP _ _ _ _ _ (@aa _ _ _ _ _ cO (@aa _ _ _ _ _ (@aP _ _ _ _ _ (@aa _ _ _ _ _ (@aP _ _ _ _ _ (@aa _ _ _ _ _ ao (@aa _ _ _ _ _ ao (@aa _ _ _ _ _ ao ak (by rfl)) (by rfl)) (by rfl))) ak (by rfl))) ak (by rfl)) (by rfl))) ak (by rfl)))) (@az _ _ _ (@aK _ _ _ _ (@aP _ _ _ _ _ (@aa _ _ _ _ _ (pv 5) (@aa _ _ _ _ _ dm ak (by rfl)) (by rfl))))))) aX) (@au _ _ _ _ _ (aV (i:=7) zm_.nd rfl (Or.inl rfl) (@bc _ _ _ _ _ _ _ cD (pv 4) (@cW _ _ _ _ _ _ cz ao) (fun _ _=>rfl))) (@au _ _ _ _ _ (aV (i:=8) zm_.nd rfl (Or.inl rfl) (aM zdg_ (hr.mono (by decide)) rfl (@aa _ _ _ _ _ (pv 0) (@aa _ _ _ _ _ (pv 6) (@aa _ _ _ _ _ (pv 1) (@aa _ _ _ _ _ (pv 7) (@aa _ _ _ _ _ (pv 2) (@aa _ _ _ _ _ (pv 3) ak (by rfl)) (by rfl)) (by rfl)) (by rfl)) (by rfl)) (by rfl)))) (@au _ _ _ _ _ (bY (d7 PySem.F.plainAttrs_list PySem.F.slot_list_append PySem.F.type_list_append cj (pv 5) (@aa _ _ _ _ _ (pv 8) ak (by rfl)))) (@au _ _ _ _ _ (aV (i:=9) zm_.nd rfl (Or.inl rfl) (aM zcs_ (hr.mono (by decide)) rfl (@aa _ _ _ _ _ (pv 8) (@aa _ _ _ _ _ (pv 1) (@aa _ _ _ _ _ (pv 7) (@aa _ _ _ _ _ (pv 2) (@aa _ _ _ _ _ (pv 3) ak (by rfl)) (by rfl)) (by rfl)) (by rfl)) (by rfl)))) (@az _ _ _ (@bF _ _ _ _ _ _ _ _ (@aQ _ _ _ _ _ _ _ _ nF (pv 9) dm (aR _)) (@az _ _ _ (aV (i:=4) zm_.nd rfl (Or.inl rfl) dm)) (@az _ _ _ (aV (i:=4) zm_.nd rfl (Or.inl rfl) (@aD _ _ _ _ _ _ _ _ xH (o6 zL (pv 4) sO (sS (@cW _ _ _ _ _ _ cz ao))) (pv 9)))))))))))) (@az _ _ _ (@aK _ _ _ _ (@aP _ _ _ _ _ (@aa _ _ _ _ _ (pv 5) (@aa _ _ _ _ _ (pv 4) ak (by rfl)) (by rfl)))))))),?_⟩
  refine aA fun U1 u1=>?_
  walk_at "rd"
  intro p hp
  refine⟨by decide,fun cl hcl=>?_⟩
  have y1:=same_new hp (.dT [])
  have y2:=same_new hcl (.lst [.ref p])
  have y12:=y1.trans y2
  have ecl:=aj (H:=upd H p (.dT [])) (a:=cl) (o:=.lst [.ref p])
  have hD:Dcts (upd (upd H p (.dT [])) cl (.lst [.ref p])) [.ref p] [[]]:=.cons ⟨p,rfl,y2 _ _ aj,fun kv z=>by cases z⟩ .nil
  generalize upd (upd H p (.dT [])) cl (.lst [.ref p])=H1 at y12 ecl hD ⊢
  rw [u1];clear u1
  refine aA fun U1 u1=>?_
  walk_at "rd"
  refine⟨Nat.zero_le _,fun pa hpa=>?_⟩
  have y3:=same_new hpa (.lst [])
  have hpa0:=y12.free hpa
  have G:=y12.trans y3
  have epa:=aj (H:=H1) (a:=pa) (o:=.lst [])
  have ncl:cl≠pa:=aH ecl hpa
  replace ecl:=y3 _ _ ecl
  replace hD:=Dcts.mono y3 hD
  generalize upd H1 pa (.lst [])=H2 at y3 G epa ecl hD ⊢
  rw [u1];clear u1
  refine aA fun U1 u1=>bU fun B1 b1=>?_
  walk_at "rd"
  refine⟨a,ns,_,rfl,G.seq hS,hn,by decide,by decide,fun c c0 c1=>⟨c,rfl,by decide,by lia,by lia,bH (fun i σ H'=>∃up sts cv,WkI H pa (jg lls rows D) i up sts cv H'∧∃v6 v7 v8 v9,σ=[some (.ref a),some (.ref tl),some (.ref o),some (.int D),some cv,some (.ref pa),v6,v7,v8,v9]) ⟨[],[],.ref cl,⟨G,epa,.nil,(fun st z=>by cases z),rfl,.inr ⟨cl,_,_,rfl,ncl,ecl,hD,rfl,CsOk.init⟩⟩,none,none,none,none,rfl⟩ ?_ ?_⟩⟩
  ·clear ecl hD epa
   rintro i σ H' hi ⟨up,sts,cv,wk,v6,v7,v8,v9,rfl⟩
   rw [show (0 + (i:Int))=i by lia]
   have i12:i≤12:=by lia
   have upl:=Paired.length wk.st
   have stl:=wk.len
   rw [b1]
   refine aA fun U2 u2=>oK fun A1 a1=>?_
   walk_at "rd"
   rcases wk.cv with ⟨hno,rfl⟩ | ⟨cl,us,cs,rfl,ncl,ecl,hDc,hso,cok⟩
   ·rw [if_pos rfl]
    rw [a1];clear a1
    refine aA fun U3 u3=>?_
    walk_at "rd"
    refine⟨a,ns,_,rfl,wk.g.seq hS,hn,by decide,by decide,fun c2 _ _=>⟨c2,rfl,by decide,?_⟩⟩
    split
    ·refine⟨by decide,fun t ht=>?_⟩
     have gt:=same_new ht (.tup [.ref pa,.non])
     exact q t pa _ up sts _ (wk.g.trans gt) aj (gt _ _ wk.ep) (Stps.tmono (aF gt) wk.st) wk.us (by lia) (.inl ⟨hno,rfl⟩)
    ·rw [u3];clear u3
     refine aA fun U3 u3=>?_
     walk_at "rd"
     refine⟨.inl ⟨rfl,_,SqL.of wk.ep⟩,by decide,fun p hp=>⟨by decide,fun p1 hp1=>⟨by decide,fun t ht=>?_⟩⟩⟩
     obtain⟨g4,sv4⟩:=jN hp hp1 ht
     obtain⟨b1',b2',b3',b4',b5',b6',b7'⟩:=wk.app hpa0 (by lia) g4 sv4 (lD (by decide) (by decide))
     refine⟨_,b1',b2',?_⟩
     have e9:cV (jg lls rows D) (sts ++ [.sum [(0,0,1)]])=none:=by
      rw [fQ,hno]
      rfl
     rw [u3];clear u3
     walk_at "rd"
     refine⟨by decide,fun t2 ht2=>?_⟩
     have gt:=same_new ht2 (.tup [.ref pa,.non])
     exact q t2 pa .non _ _ _ (b3'.trans gt) aj (gt _ _ b4') (Stps.tmono (aF gt) b5') b6' (by rw [b7'];lia) (.inl ⟨e9,rfl⟩)
   rw [if_neg (by simp)]
   refine⟨Nat.zero_le _,fun e he=>?_⟩
   have ge:=same_new he (.lst [])
   refine⟨e,rfl,SqL.of aj,.inr ⟨cl,us,rfl,SqL.of (ge _ _ ecl),_,rfl,?_⟩⟩
   replace wk:=wk.mono ge
   replace ecl:=ge _ _ ecl
   replace hDc:=Dcts.mono ge hDc
   clear ge he
   generalize upd H' e (.lst [])=H3 at wk ecl hDc ⊢
   rcases oR cs with rfl | ⟨cs',pns,rfl⟩
   ·cases hDc
    rw [if_pos (by rw [decide_eq_true rfl])]
    rw [a1];clear a1
    refine aA fun U3 u3=>?_
    walk_at "rd"
    refine⟨a,ns,_,rfl,wk.g.seq hS,hn,by decide,by decide,fun c2 _ _=>⟨c2,rfl,by decide,?_⟩⟩
    split
    ·refine⟨by decide,fun t ht=>?_⟩
     have gt:=same_new ht (.tup [.ref pa,.ref cl])
     exact q t pa _ up sts _ (wk.g.trans gt) aj (gt _ _ wk.ep) (Stps.tmono (aF gt) wk.st) wk.us (by lia) (.inr ⟨cl,_,_,rfl,gt _ _ ecl,.nil,hso⟩)
    ·rw [u3];clear u3
     refine aA fun U3 u3=>?_
     walk_at "rd"
     refine⟨.inl ⟨rfl,_,SqL.of wk.ep⟩,by decide,fun p hp=>⟨by decide,fun p1 hp1=>⟨by decide,fun t ht=>?_⟩⟩⟩
     obtain⟨g4,sv4⟩:=jN hp hp1 ht
     obtain⟨b1',b2',b3',b4',b5',b6',b7'⟩:=wk.app hpa0 (by lia) g4 sv4 (lD (by decide) (by decide))
     refine⟨_,b1',b2',?_⟩
     have e9:cV (jg lls rows D) (sts ++ [.sum [(0,0,1)]])=none:=by
      rw [fQ,hso]
      rfl
     rw [u3];clear u3
     walk_at "rd"
     refine⟨by decide,fun t2 ht2=>?_⟩
     have gt:=same_new ht2 (.tup [.ref pa,.non])
     exact q t2 pa .non _ _ _ (b3'.trans gt) aj (gt _ _ b4') (Stps.tmono (aF gt) b5') b6' (by rw [b7'];lia) (.inl ⟨e9,rfl⟩)
   obtain⟨us',w,rfl,hD',hw⟩:=Paired.split hDc
   obtain⟨pd,rfl,epd,ppl⟩:=hw
   rw [if_neg (by simp)]
   clear a1
   have pok:=cok.2 pns (List.mem_append_right _ (List.mem_singleton.mpr rfl))
   have G:=wk.g
   rw [u2];clear u2
   refine aA fun U2 u2=>?_
   walk_at "rd"
   refine⟨_,SqL.of ecl,_,yX _ _,?_⟩
   rw [u2];clear u2
   refine aA fun U2 u2=>?_
   walk_at "rd"
   refine⟨a,tl,pd,o,i,ns,D,vt,uo,lls,pns,rows,rfl,G.seq hS,hn,by lia,G _ _ etl,hT.mono G,l1,l6,l40,epd,pok.1.ai,G _ _ eo,hR.mono G,r9,h8,D1,D31,fun v st H4 g4 hsv hus hgo=>?_⟩
   obtain⟨tv,rfl⟩:=hsv.rf
   obtain⟨b1',b2',b3',b4',b5',b6',b7'⟩:=wk.app hpa0 (by lia) g4 hsv hus
   replace ecl:=g4 _ _ ecl
   replace hD':=Dcts.mono g4 hD'
   replace epd:=g4 _ _ epd
   rw [u2];clear u2
   refine aA fun U2 u2=>?_
   walk_at "rd"
   refine⟨.inl ⟨rfl,_,SqL.of b1'⟩,_,b1',b2',?_⟩
   have hsv5:StpV (upd H4 pa (.lst (up ++ [.ref tv]))) (.ref tv) st:=hsv.tmono (bK b1')
   replace hD':=Dcts.off (o:=.lst (up ++ [.ref tv])) b1' hD'
   have npd:pd≠pa:=fun y=>by rw [y,b1'] at epd;cases epd
   have epd5:upd H4 pa (.lst (up ++ [.ref tv])) pd=some (.dT pns):=by rw [aG npd];exact epd
   have ecl5:upd H4 pa (.lst (up ++ [.ref tv])) cl=some (.lst (us' ++ [.ref pd])):=by rw [aG ncl];exact ecl
   have e9:cV (jg lls rows D) (sts ++ [st])=if isStep (jg lls rows D) pns st=true then some (cs' ++ qG (jg lls rows D) pns st) else none:=by
    rw [fQ,hso]
    exact fU
   clear b1' b2' epd ecl wk
   generalize upd H4 pa (.lst (up ++ [.ref tv]))=H5 at b3' b4' b5' hsv5 hD' epd5 ecl5 ⊢
   rw [u2];clear u2
   refine aA fun U2 u2=>?_
   walk_at "rd"
   refine⟨.ref tv,st,tl,pd,o,D,vt,uo,lls,pns,rows,rfl,hsv5,hus,hgo,b3' _ _ etl,hT.mono b3',l40,epd5,pok.1,by have:=pok.2;lia,b3' _ _ eo,hR.mono b3',r9,h8,D31,(fun hz H6 g6=>?_),fun hz r ur H6 g6 hr er hDr=>?_⟩
   ·rw [u2];clear u2
    walk_at "rd"
    rw [hz,if_neg (by decide)] at e9
    exact⟨up ++ [.ref tv],sts ++ [st],.non,⟨b3'.trans g6,g6 _ _ b4',Stps.tmono (aF g6) b5',b6',b7',.inl ⟨e9,rfl⟩⟩,rfl⟩
   ·rw [u2];clear u2
    walk_at "rd"
    rw [hz,if_pos rfl] at e9
    have cok2:=cok.step (c:=jg lls rows D) (fun h hh=>by
     have hh:h < rows.length:=hh
     show (rows[h]?.getD []).length≤9
     rw [List.getElem?_eq_getElem hh]
     exact (r9 _ (List.getElem_mem hh)).2) hz
    rw [if_neg (by simp)]
    refine⟨_,SqL.of (g6 _ _ ecl5),fun p hp=>?_⟩
    rw [zc]
    have gp:=same_new hp (.lst us')
    have hl1:=Paired.length hD'
    have hl2:=Paired.length hDr
    have hl3:=cok2.1
    rw [List.length_append] at hl3
    refine⟨us',aj,ur,gp _ _ er,dO (by lia),fun p1 hp1=>?_⟩
    have gp1:=same_new hp1 (.lst (us' ++ ur))
    have gg:=g6.trans (gp.trans gp1)
    exact⟨up ++ [.ref tv],sts ++ [st],.ref p1,⟨b3'.trans gg,gg _ _ b4',Stps.tmono (aF gg) b5',b6',b7',.inr ⟨p1,_,_,rfl,(aH ((g6.trans gp) _ _ b4') hp1).symm,aj,Paired.app (Dcts.mono gg hD') (Dcts.mono (gp.trans gp1) hDr),e9,cok2⟩⟩,rfl⟩
  clear ecl hD epa
  rintro σ H' ⟨up,sts,cv,wk,v6,v7,v8,v9,rfl⟩
  rw [u1];clear u1
  walk_at "rd"
  refine⟨by decide,fun t ht=>?_⟩
  have gt:=same_new ht (.tup [.ref pa,cv])
  refine q t pa cv up sts _ (wk.g.trans gt) aj (gt _ _ wk.ep) (Stps.tmono (aF gt) wk.st) wk.us (by have:=wk.len;lia) ?_
  rcases wk.cv with ⟨h1,h2⟩ | ⟨cl,us,cs,h1,h2,h3,h4,h5,h6⟩
  ·exact .inl ⟨h1,h2⟩
  ·exact .inr ⟨cl,us,cs,h1,gt _ _ h3,Dcts.mono gt h4,h5⟩
noncomputable def Gx (K:PySem.W.Frag) (ζ:Cs):Sp:=fun vs H Q _=>∃ (a:Addr) (ns:List Int) (at0 d:Int) (n:Nat),vs=[.ref a,.int at0,.int d,.int n]∧SqL K H a (ns.map V.int)∧ns.length≤63∧0≤at0∧at0≤1000∧1≤d∧d≤31∧n≤8∧∀ (t:Addr) (s:Sp4) (H':Hp),Same H H'→H' t=some (.tup [.int s.k,.int s.a,.int s.b,.int s.c])→(∀P:Nat,0 < P→jr d n P s)→Q (.ref t) H'
theorem zR_:aN ["_law_script","_law_at","_law_days","_law_hands","_law_one","_law_two","_law_three","_law_kind","_law_hand"] ["_law_script","_law_at","_law_days","_law_hands"] (aq wD):=⟨rfl,rfl,rfl,k!,rfl,k!,k!⟩
theorem Np {ζ:Cs} {f:Addr} {fd:FuncData} (F:Fun K "_law_spec" "_law_spec" wD f fd) (T:Txt K mg ζ) (za_:Cal P w K mg base "_law_cell" ["_law_script","_law_k"] 1 (zP_ K ζ)):bA P w K mg base CX0 2 f fd ["_law_script","_law_at","_law_days","_law_hands"] (Gx K ζ):=by
 refine F.ok zR_ (fun vs H Q E h=>?_) (fun cdv A outer s H vs Q E hr h=>?_)
 ·obtain⟨a,ns,at0,d,n,rfl,_⟩:=h
  rfl
 ·obtain⟨a,ns,at0,d,n,rfl,hS,hl,a0,a1,d1,d2,n8,q⟩:=h
  refine⟨_,(@au _ _ _ _ _ (aV (i:=4) zR_.nd rfl (Or.inl rfl) (aM za_ (hr.mono (by decide)) rfl (@aa _ _ _ _ _ (pv 0) (@aa _ _ _ _ _ (@aD _ _ _ _ _ _ _ _ bj (pv 1) ao) ak (by rfl)) (by rfl)))) (@au _ _ _ _ _ (aV (i:=5) zR_.nd rfl (Or.inl rfl) (aM za_ (hr.mono (by decide)) rfl (@aa _ _ _ _ _ (pv 0) (@aa _ _ _ _ _ (@aD _ _ _ _ _ _ _ _ bj (pv 1) ao) ak (by rfl)) (by rfl)))) (@au _ _ _ _ _ (aV (i:=6) zR_.nd rfl (Or.inl rfl) (aM za_ (hr.mono (by decide)) rfl (@aa _ _ _ _ _ (pv 0) (@aa _ _ _ _ _ (@aD _ _ _ _ _ _ _ _ bj (pv 1) ao) ak (by rfl)) (by rfl)))) (@au _ _ _ _ _ (aV (i:=7) zR_.nd rfl (Or.inl rfl) (@aD _ _ _ _ _ _ _ _ bu (aM za_ (hr.mono (by decide)) rfl (@aa _ _ _ _ _ (pv 0) (@aa _ _ _ _ _ (pv 1) ak (by rfl)) (by rfl))) ao)) (gR (@bF _ _ _ _ _ _ _ _ (PW.pt (dR (@aQ _ _ _ _ _ _ _ _ bZ (pv 3) ao (aR _)) (dN (PW.pt (jO (@aQ _ _ _ _ _ _ _ _ bZ (pv 7) ao (aR _)) (iG (@aQ _ _ _ _ _ _ _ _ dZ (pv 3) ao (aR _)))))))) (@az _ _ _ (aV (i:=7) zR_.nd rfl (Or.inl rfl) ao)) aX)
  (@au _ _ _ _ _ (@bF _ _ _ _ _ _ _ _ (@aQ _ _ _ _ _ _ _ _ bZ (pv 7) ao (aR _)) (@az _ _ _ (@aK _ _ _ _ (@aP _ _ _ _ _ (@aa _ _ _ _ _ ao (@aa _ _ _ _ _ (@aD _ _ _ _ _ _ _ _ bu (pv 4) (pv 2)) (@aa _ _ _ _ _ (pv 5) (@aa _ _ _ _ _ (@aD _ _ _ _ _ _ _ _ bu (pv 6) (@aD _ _ _ _ _ _ _ _ bj (pv 3) ao)) ak (by rfl)) (by rfl)) (by rfl)) (by rfl))))) aX) (@au _ _ _ _ _ (aV (i:=8) zR_.nd rfl (Or.inl rfl) (@aD _ _ _ _ _ _ _ _ bu (pv 4) (pv 3))) (@au _ _ _ _ _ (@bF _ _ _ _ _ _ _ _ (@aQ _ _ _ _ _ _ _ _ bZ (pv 7) ao (aR _)) (@az _ _ _ (@aK _ _ _ _ (@aP _ _ _ _ _ (@aa _ _ _ _ _ ao (@aa _ _ _ _ _ (pv 8) (@aa _ _ _ _ _ (@aD _ _ _ _ _ _ _ _ bu (@aD _ _ _ _ _ _ _ _ bj (@aD _ _ _ _ _ _ _ _ bj (pv 8) ao) (@aD _ _ _ _ _ _ _ _ bu (pv 5) (@aD _ _ _ _ _ _ _ _ dz (pv 3) ao))) (pv 3)) (@aa _ _ _ _ _ ao ak (by rfl)) (by rfl)) (by rfl)) (by rfl))))) aX) (@au _ _ _ _ _ (@bF _ _ _ _ _ _ _ _ (@aQ _ _ _ _ _ _ _ _ bZ (pv 7) ao (aR _)) (@az _ _ _ (@aK _ _ _ _ (@aP _ _ _ _ _ (@aa _ _ _ _ _ ao (@aa _ _ _ _ _ (pv 8) (@aa _ _ _ _ _ (@aD _ _ _ _ _ _ _ _ cZ (@aD _ _ _ _ _ _ _ _ d9 (@aD _ _ _ _ _ _ _ _ bu (pv 5) ao) ao) (@aD _ _ _ _ _ _ _ _ bu (pv 5) (@aD _ _ _ _ _ _ _ _ bj (@aD _ _ _ _ _ _ _ _ fj ao ao) ao))) (@aa _ _ _ _ _ (@aD _ _ _ _ _ _ _ _ dz (@aD _ _ _ _ _ _ _ _ bu (pv 6) (@aD _ _ _ _ _ _ _ _ bj (@aD _ _ _ _ _ _ _ _ cZ ao (@aD _ _ _ _ _ _ _ _ fj ao ao)) ao)) ao) ak (by rfl)) (by rfl)) (by rfl)) (by rfl))))) aX) (@az _ _ _ (@aK _ _ _ _ (@aP _ _ _ _ _ (@aa _ _ _ _ _ (pv 7) (@aa _ _ _ _ _ (pv 8) (@aa _ _ _ _ _ (@aD _ _ _ _ _ _ _ _ bu (pv 5) (@aD _ _ _ _ _ _ _ _ fj ao ao)) (@aa _ _ _ _ _ (@aD _ _ _ _ _ _ _ _ dz (@aD _ _ _ _ _ _ _ _ bu (pv 6) (@bc _ _ _ _ _ _ _ cD (@bw _ _ _ _ (@aa _ _ _ _ _ ao (@aa _ _ _ _ _ (@aD _ _ _ _ _ _ _ _ bj (pv 2) ao) (@aa _ _ _ _ _ (@aD _ _ _ _ _ _ _ _ bj (pv 2) ao) (@aa _ _ _ _ _ ao (@aa _ _ _ _ _ ao ak (by rfl)) (by rfl)) (by rfl)) (by rfl)) (by rfl))) (pv 7) (fun _ _=>rfl))) (bG uA (by rfl) T.int PyProof.Rows.boot_int (@aa _ _ _ _ _ (cX bZ (pv 7) ao (aR _)) ak (by rfl)))) ak (by rfl)) (by rfl)) (by rfl)) (by rfl)))))))))))))),?_⟩
  refine aA fun U1 u1=>?_
  walk_at "rd"
  refine⟨a,ns,_,rfl,hS,hl,by lia,by lia,fun o o0 o1=>?_⟩
  rw [u1];clear u1
  refine aA fun U1 u1=>?_
  walk_at "rd"
  refine⟨a,ns,_,rfl,hS,hl,by lia,by lia,fun w w0 w1=>?_⟩
  rw [u1];clear u1
  refine aA fun U1 u1=>?_
  walk_at "rd"
  refine⟨a,ns,_,rfl,hS,hl,by lia,by lia,fun z z0 z1=>?_⟩
  rw [u1];clear u1
  refine aA fun U1 u1=>?_
  walk_at "rd"
  refine⟨a,ns,_,rfl,hS,hl,by omega,by lia,fun kk kk0 kk1=>⟨_,rfl,by decide,?_⟩⟩
  obtain⟨k1,hk1,k17⟩:∃k1:Nat,kk % 7=k1∧k1 < 7:=⟨(kk % 7).toNat,by lia,by lia⟩
  rw [hk1]
  rw [u1];clear u1 kk0 kk1 hk1
  refine jn (fun σ H'=>H'=H∧∃k2:Nat,k2 < 7∧(k2≠0→0 < n)∧(k2=6→2≤n)∧σ=[some (.ref a),some (.int at0),some (.int d),some (.int n),some (.int o),some (.int w),some (.int z),some (.int k2),none]) ?_ ?_
  ·walk_at "rd"
   by_cases hn:n=0
   ·rw [if_pos (by lia)]
    exact⟨0,by decide,fun z=>absurd rfl z,(fun z=>by cases z),rfl⟩
   rw [if_neg (by lia)]
   by_cases h6:k1=6
   ·rw [if_pos (by lia)]
    by_cases h2:n < 2
    ·rw [if_pos (by lia)]
     exact⟨0,by decide,fun z=>absurd rfl z,(fun z=>by cases z),rfl⟩
    ·rw [if_neg (by lia)]
     exact⟨k1,k17,fun _=>by lia,fun _=>by lia,rfl⟩
   ·rw [if_neg (by lia)]
    exact⟨k1,k17,fun _=>by lia,fun z=>absurd z h6,rfl⟩
  rintro σ H' ⟨rfl,k2,k7,kn,k6,rfl⟩
  refine aA fun U1 u1=>?_
  walk_at "rd"
  by_cases hk0:k2=0
  ·rw [if_pos (by lia)]
   refine⟨by lia,by lia,by decide,fun p hp=>q p ⟨0,o % d,w,z % ((n:Int) + 2)⟩ _ (same_new hp _) aj fun P hP=>?_⟩
   have y0:=Int.emod_lt_of_pos z (b:=(n:Int) + 2) (by lia)
   exact rs0 hP (Int.emod_nonneg _ (by lia)) (Int.emod_lt_of_pos _ (by lia)) (Int.emod_nonneg _ (by lia)) (by lia)
  rw [if_neg (by lia)]
  have n0:=kn hk0
  rw [u1];clear u1
  refine aA fun U1 u1=>?_
  walk_at "rd"
  refine⟨by lia,?_⟩
  have hh0:=Int.emod_nonneg o (b:=(n:Int)) (by lia)
  have hh1:=Int.emod_lt_of_pos o (b:=(n:Int)) (by lia)
  generalize o % (n:Int)=hd at hh0 hh1 ⊢
  rw [u1];clear u1
  refine aA fun U1 u1=>?_
  walk_at "rd"
  by_cases hk6:k2=6
  ·rw [if_pos (by lia)]
   have n2:=k6 hk6
   obtain⟨o1,o2,o3⟩:=rH (t:=w % ((n:Int) - 1)) hh0 hh1 (Int.emod_nonneg _ (by lia)) (Int.emod_lt_of_pos _ (by lia))
   exact⟨by lia,by lia,by decide,fun p hp=>q p ⟨6,hd,(hd + 1 + w % ((n:Int) - 1)) % n,0⟩ _ (same_new hp _) aj fun P hP=>rs6 hP hh0 hh1 o1 o2 o3⟩
  rw [if_neg (by lia)]
  rw [u1];clear u1
  refine aA fun U1 u1=>?_
  walk_at "rd"
  by_cases hk5:k2=5
  ·rw [if_pos (by lia)]
   rw [show (10:Int) ^ Int.toNat 9=1000000000 by decide]
   have A0:0≤w % 3 / 2:=by lia
   have A1:w % 3 / 2≤1:=by lia
   have B0:=Int.emod_nonneg w (b:=1000000000 + 1) (by decide)
   have B1:=Int.emod_lt_of_pos w (b:=1000000000 + 1) (by decide)
   have C0:=Int.emod_nonneg z (b:=2 * 1000000000 + 2) (by decide)
   have C1:=Int.emod_lt_of_pos z (b:=2 * 1000000000 + 2) (by decide)
   have M0:=Int.mul_nonneg A0 B0
   have M1:w % 3 / 2 * (w % (1000000000 + 1))≤1 * 1000000000:=Int.mul_le_mul A1 (by lia) B0 (by decide)
   exact⟨by decide,⟨by decide,by decide⟩,⟨by decide,by decide,by decide⟩,by decide,.inl ⟨by lia,by lia⟩,⟨by decide,by decide,by decide⟩,.inl ⟨by decide,by decide⟩,by decide,by decide,fun p hp=>q p ⟨5,hd,w % 3 / 2 * (w % (1000000000 + 1)),z % (2 * 1000000000 + 2) - 1⟩ _ (same_new hp _) aj fun P hP=>rs5 hP hh0 hh1 M0 (by lia) (by lia) (by lia)⟩
  rw [if_neg (by lia)]
  rw [u1];clear u1
  walk_at "rd"
  refine⟨⟨by decide,by decide,by decide⟩,by decide,by decide,fun p hp=>⟨_,SqL.of aj,?_⟩⟩
  obtain⟨m,hm,m0,m1⟩:=Ik (k:=k2) d1 d2 (by lia) (by lia)
  have b0:=Int.emod_nonneg w (b:=2 ^ Int.toNat 31) (by decide)
  have b1:=Int.emod_lt_of_pos w (b:=2 ^ Int.toNat 31) (by decide)
  have c0:=Int.emod_nonneg z (b:=m) (by lia)
  have c1:=Int.emod_lt_of_pos z m0
  have iv:(if (k2:Int)=1 then (1:Int) else 0)=if k2=1 then 1 else 0:=by
   by_cases e:k2=1
   ·rw [if_pos e,if_pos (by lia)]
   ·rw [if_neg e,if_neg (by lia)]
  have i0:0≤(if (k2:Int)=1 then (1:Int) else 0)∧(if (k2:Int)=1 then (1:Int) else 0)≤1∧(k2≠1→(if (k2:Int)=1 then (1:Int) else 0)=0):=by
   rw [iv]
   by_cases e:k2=1
   ·rw [if_pos e];exact⟨by decide,by decide,fun z=>absurd e z⟩
   ·rw [if_neg e];exact⟨by decide,by decide,fun _=>rfl⟩
  obtain⟨i1,i2,i3⟩:=i0
  refine⟨.int m,hm,m,rfl,m0,.inr ⟨by decide,fun p1 hp1=>q p1 ⟨k2,hd,w % 2 ^ Int.toNat 31,z % m - if (k2:Int)=1 then 1 else 0⟩ _ ((same_new hp _).trans (same_new hp1 _)) aj fun P hP=>JD hP (by lia) (by lia) hh0 hh1 b0 b1 (by lia) (by lia) fun e=>by rw [i3 e];lia⟩⟩
noncomputable def Gy (K:PySem.W.Frag) (ζ:Cs):Sp:=fun vs H Q _=>∃ (h sg:Int) (da pa:Addr) (ds:List Int) (ts:List V),vs=[.int h,.ref da,.ref pa,.int sg]∧H da=some (.lst (ds.map V.int))∧H pa=some (.lst ts)∧ds.length≤31∧ts.length≤6∧∀r us H',Same H H'→H r=none→H' r=some (.lst us)→Prts H' us (spr h ds (upto 1 ts.length) sg)→Q (.ref r) H'
theorem zbE_:aN ["_law_hand","_law_days","_law_posts","_law_sign","_law_parts","_law_day","_law_k"] ["_law_hand","_law_days","_law_posts","_law_sign"] (aq wH):=⟨rfl,rfl,rfl,k!,rfl,k!,k!⟩
theorem Nq {ζ:Cs} {f:Addr} {fd:FuncData} (F:Fun K "_law_work" "_law_work" wH f fd) (T:Txt K mg ζ) :bA P w K mg base CX0 1 f fd ["_law_hand","_law_days","_law_posts","_law_sign"] (Gy K ζ):=by
 refine F.ok zbE_ (fun vs H Q E h=>?_) (fun cdv A outer s H vs Q E hr h=>?_)
 ·obtain⟨h,sg,da,pa,ds,ts,rfl,_⟩:=h
  rfl
 ·obtain⟨h,sg,da,pa,ds,ts,rfl,ed,ep,d31,t6,q⟩:=h
  refine⟨_,(@au _ _ _ _ _ (aV (i:=4) zbE_.nd rfl (Or.inl rfl) (@bw _ _ _ _ ak)) (@au _ _ _ _ _ (bN PassesOwn.never rfl (bQ (pv 1)) (aB (i:=5) zbE_.nd rfl (Or.inl rfl))
   (@az _ _ _ (bN PassesOwn.never rfl (bM rfl T.range (@aa _ _ _ _ _ (bx (bC (K:=K) rfl) (by rfl) T.len PySem.boot_len (@aa _ _ _ _ _ (pv 2) ak (by rfl))) ak (by rfl))) (aB (i:=6) zbE_.nd rfl (Or.inl rfl))
     (@az _ _ _ (bY (d7 PySem.F.plainAttrs_list PySem.F.slot_list_append PySem.F.type_list_append cj (pv 4) (@aa _ _ _ _ _ (@aP _ _ _ _ _ (@aa _ _ _ _ _ (pv 0) (@aa _ _ _ _ _ (pv 5) (@aa _ _ _ _ _ (@aD _ _ _ _ _ _ _ _ bj (pv 6) ao) (@aa _ _ _ _ _ (pv 3) ak (by rfl)) (by rfl)) (by rfl)) (by rfl))) ak (by rfl)))))))) (@az _ _ _ (@aK _ _ _ _ (pv 4))))),?_⟩
  refine aA fun U1 u1=>?_
  walk_at "rd"
  refine⟨Nat.zero_le _,fun p hp=>?_⟩
  rw [u1];clear u1
  refine aA fun U1 u1=>bU fun B1 b1=>?_
  walk_at "rd"
  refine⟨⟨_,SqL.of ((same_new hp _) _ _ ed)⟩,bB (xs:=ds.map V.int) (fun i σ H'=>PrsI H p (spr h (ds.take i) (upto 1 ts.length) sg) H'∧∃v5 v6,σ=[some (.int h),some (.ref da),some (.ref pa),some (.int sg),some (.ref p),v5,v6]) ⟨PrsI.start hp,none,none,rfl⟩ (fun i σ H' _ hh=>SqL.of (hh.1.same _ _ ed)) ?_ ?_⟩
  ·rintro i v σ H' hx ⟨pI,v5,v6,rfl⟩
   obtain⟨x,hx1,rfl⟩:=eU hx
   have hi:=(List.getElem?_eq_some_iff.mp hx1).1
   have hlen:(spr h (ds.take i) (upto 1 ts.length) sg).length≤31 * 6:=by
    rw [cR,List.length_take,show (upto 1 ts.length).length=ts.length by unfold upto;rw [List.length_map,List.length_range]]
    exact Nat.mul_le_mul (by omega) t6
   rw [b1]
   refine bU fun B2 b2=>?_
   walk_at "rd"
   refine⟨_,.inl (SqL.of (pI.same _ _ ep)),by omega,by omega,bH (fun j σ H2=>PrsI H p (spr h (ds.take i) (upto 1 ts.length) sg ++ (upto 1 j).map fun q=>⟨h,x,q,sg⟩) H2∧∃v6,σ=[some (.int h),some (.ref da),some (.ref pa),some (.int sg),some (.ref p),some (.int x),v6]) ⟨?_,v6,rfl⟩ ?_ ?_⟩
   ·rw [show ((upto 1 0).map fun q=>(⟨h,x,q,sg⟩:Prt))=[] from rfl,List.append_nil]
    exact pI
   ·rintro j σ H2 hj ⟨pJ,v6,rfl⟩
    rw [show (0 + (j:Int))=j by omega]
    obtain⟨u0,_,e0,_⟩:=pJ.ex
    rw [b2]
    walk_at "rd"
    refine⟨.inl ⟨rfl,_,SqL.of e0⟩,by decide,fun t ht=>?_⟩
    rw [fD,List.map_append,← List.append_assoc,show ((j:Int) + 1)=1 + (j:Int) by omega]
    exact pJ.step hp (by rw [List.length_append,List.length_map,upL];omega) ht
   ·rintro σ H2 ⟨pJ,v6,rfl⟩
    rw [Int.toNat_natCast] at pJ
    rw [bh hx1,pC]
    exact⟨pJ,_,_,rfl⟩
  rintro σ H' ⟨pI,v5,v6,rfl⟩
  rw [List.length_map,List.take_length] at pI
  rw [u1];clear u1
  walk_at "rd"
  obtain⟨us,g,e,hP⟩:=pI.ex
  exact q p us H' g hp e hP
noncomputable def Gz (K:PySem.W.Frag) (ζ:Cs):Sp:=fun vs H Q _=>∃ (t pa:Addr) (d:Int) (s:Sp4) (n:Nat) (ts:List V) (ps:List Pst),vs=[.ref t,.int d,.ref pa]∧H t=some (.tup [.int (s.k:Nat),.int s.a,.int s.b,.int s.c])∧H pa=some (.lst ts)∧Posts H ts ps∧1≤d∧d≤31∧ps.length≤3∧1≤s.k∧s.k≤5∧jr d n ps.length s∧∀r us H',Same H H'→H r=none→H' r=some (.lst us)→mJ H H' us (fH d.toNat n ps s)→Q (.ref r) H'
theorem zd_:aN ["_law_spec_here","_law_days","_law_posts","_law_kind","_law_one","_law_two","_law_three","_law_some","_law_nights","_law_found","_law_day","_law_spots","_law_long"] ["_law_spec_here","_law_days","_law_posts"] (aq zX_):=⟨rfl,rfl,rfl,k!,rfl,k!,k!⟩
theorem Nr {ζ:Cs} {f:Addr} {fd:FuncData} (F:Fun K "_law_single" "_law_single" zX_ f fd) (T:Txt K mg ζ) (zaf_:Cal P w K mg base "_law_work" ["_law_hand","_law_days","_law_posts","_law_sign"] 1 (Gy K ζ)):bA P w K mg base CX0 2 f fd ["_law_spec_here","_law_days","_law_posts"] (Gz K ζ):=by
 refine F.ok zd_ (fun vs H Q E h=>?_) (fun cdv A outer s H vs Q E hr h=>?_)
 ·obtain⟨t,pa,d,s,n,ts,ps,rfl,_⟩:=h
  rfl
 ·obtain⟨t,pa,d,s,n,ts,ps,rfl,et,ep,hP,d1,d2,p3,k1,k5,ok,q⟩:=h
  refine⟨_,(@au _ _ _ _ _ (ji (pv 0) (cL (n:=4) rfl (aO (aB (i:=3) zd_.nd rfl (Or.inl rfl)) (aO (aB (i:=4) zd_.nd rfl (Or.inr rfl)) (aO (aB (i:=5) zd_.nd rfl (Or.inr rfl)) (aO (aB (i:=6) zd_.nd rfl (Or.inr rfl)) bV)))))) (@au _ _ _ _ _ (eY (i:=7) zd_.nd rfl rfl (own:=["_law_day"]) (fnames:=["_law_two"]) (fr:=[5]) (N':=["_law_day","_law_two"]) ⟨rfl,rfl,rfl,rfl,rfl,rfl,rfl⟩ rfl (bM rfl T.range (@aa _ _ _ _ _ (pv 1) ak (by rfl))) (fun s0 H0 fp0 C0=>⟨(aB (i:=0) (by show (["_law_day","_law_two"]:List Str).Nodup;decide +kernel) rfl (Or.inl rfl)),(fL (@aQ _ _ _ _ _ _ _ _ bZ (@aD _ _ _ _ _ _ _ _ nD (@aD _ _ _ _ _ _ _ _ Dk (pv 1) (pv 0)) ao) ao (aR _))),(pv 0)⟩)) (@au _ _ _ _ _ (@bF _ _ _ _ _ _ _ _ (@aQ _ _ _ _ _ _ _ _ bZ (pv 3) ao (aR _)) (@az _ _ _ (@aK _ _ _ _ (@bw _ _ _ _ (@aa _ _ _ _ _ (@aP _ _ _ _ _ (@aa _ _ _ _ _ (aM zaf_ (hr.mono (by decide)) rfl (@aa _ _ _ _ _ (pv 4) (@aa _ _ _ _ _ (pv 7) (@aa _ _ _ _ _ (pv 2) (@aa _ _ _ _ _ (@cW _ _ _ _ _ _ cz ao) ak (by rfl)) (by rfl)) (by rfl)) (by rfl))) (@aa _ _ _ _ _ (@aD _ _ _ _ _ _ _ _ dz ao (pv 6)) ak (by rfl)) (by rfl))) ak (by rfl))))) aX) (@au _ _ _ _ _ (@bF _ _ _ _ _ _ _ _ (@aQ _ _ _ _ _ _ _ _ bZ (pv 3) ao (aR _)) (@az _ _ _ (@aK _ _ _ _ (@bw _ _ _ _ (@aa _ _ _ _ _ (@aP _ _ _ _ _ (@aa _ _ _ _ _ (aM zaf_ (hr.mono (by decide)) rfl (@aa _ _ _ _ _ (pv 4) (@aa _ _ _ _ _ (pv 7) (@aa _ _ _ _ _ (pv 2) (@aa _ _ _ _ _ ao ak (by rfl)) (by rfl)) (by rfl)) (by rfl))) (@aa _ _ _ _ _ (pv 6) ak (by rfl)) (by rfl))) ak (by rfl))))) aX) (@au _ _ _ _ _ (@bF _ _ _ _ _ _ _ _ (@aQ _ _ _ _ _ _ _ _ bZ (pv 3) ao (aR _)) (@az _ _ _ (@aK _ _ _ _ (cB (own:=["_law_day"]) (fnames:=["_law_posts","_law_one"]) (fr:=[2,4]) (N':=["_law_day","_law_posts","_law_one"]) ⟨rfl,rfl,rfl,rfl,rfl,rfl,rfl⟩ rfl (bQ (pv 7)) (fun s0 H0 fp0 C0=>⟨(aB (i:=0) (by show (["_law_day","_law_posts","_law_one"]:List Str).Nodup;decide +kernel) rfl (Or.inl rfl)),cu,(@aP _ _ _ _ _ (@aa _ _ _ _ _ (aM zaf_ (hr.mono (by decide)) rfl (@aa _ _ _ _ _ (pv 2) (@aa _ _ _ _ _ (@bw _ _ _ _ (@aa _ _ _ _ _ (pv 0) ak (by rfl))) (@aa _ _ _ _ _ (pv 1) (@aa _ _ _ _ _ (@cW _ _ _ _ _ _ cz ao) ak (by rfl)) (by rfl)) (by rfl)) (by rfl))) (@aa _ _ _ _ _ ao ak (by rfl)) (by rfl)))⟩)))) aX) (@au _ _ _ _ _ (@bF _ _ _ _ _ _ _ _ (@aQ _ _ _ _ _ _ _ _ bZ (pv 3) ao (aR _)) (@au _ _ _ _ _ (eY (i:=8) zd_.nd rfl rfl (own:=["_law_part"]) (fnames:=["_law_posts"]) (fr:=[2]) (N':=["_law_part","_law_posts"]) ⟨rfl,rfl,rfl,rfl,rfl,rfl,rfl⟩ rfl (bQ (aM zaf_ (hr.mono (by decide)) rfl (@aa _ _ _ _ _ (pv 4) (@aa _ _ _ _ _ (bG (fu rfl) (by rfl) T.list PyProof.Rows.boot_list (@aa _ _ _ _ _ (bG eO (by rfl) T.range PyProof.Rows.boot_range (@aa _ _ _ _ _ (pv 1) ak (by rfl))) ak (by rfl))) (@aa _ _ _ _ _ (pv 2) (@aa _ _ _ _ _ (@cW _ _ _ _ _ _ cz ao) ak (by rfl)) (by rfl)) (by rfl)) (by rfl)))) (fun s0 H0 fp0 C0=>⟨(aB (i:=0) (by show (["_law_part","_law_posts"]:List Str).Nodup;decide +kernel) rfl (Or.inl rfl)),(fL (@aQ _ _ _ _ _ _ _ _ bZ (@bc _ _ _ _ _ _ _ (cP (K:=K) rfl) (@bc _ _ _ _ _ _ _ (iK (K:=K) rfl) (pv 1) (@aD _ _ _ _ _ _ _ _ dz (@bc _ _ _ _ _ _ _ (cP (K:=K) rfl) (pv 0) ao (fun _ _=>rfl)) ao) (fun _ _=>rfl)) ao (fun _ _=>rfl)) ao (aR _))),(pv 0)⟩)) (@au _ _ _ _ _ (aV (i:=9) zd_.nd rfl (Or.inl rfl) (@bw _ _ _ _ ak)) (@au _ _ _ _ _ (bN PassesOwn.never rfl (bM rfl T.range (@aa _ _ _ _ _ (@aD _ _ _ _ _ _ _ _ dz (pv 1) (pv 6)) ak (by rfl))) (aB (i:=10) zd_.nd rfl (Or.inr rfl))
    (@az _ _ _ (bY (d7 PySem.F.plainAttrs_list PySem.F.slot_list_append PySem.F.type_list_append cj (pv 9) (@aa _ _ _ _ _ (@aP _ _ _ _ _ (@aa _ _ _ _ _ (cB (own:=["_law_part"]) (fnames:=["_law_three","_law_day"]) (fr:=[6,10]) (N':=["_law_part","_law_three","_law_day"]) ⟨rfl,rfl,rfl,rfl,rfl,rfl,rfl⟩ rfl (bQ (pv 8)) (fun s0 H0 fp0 C0=>⟨(aB (i:=0) (by show (["_law_part","_law_three","_law_day"]:List Str).Nodup;decide +kernel) rfl (Or.inl rfl)),(fL (jR dh dh (pv 2) (@bc _ _ _ _ _ _ _ (cP (K:=K) rfl) (pv 0) ao (fun _ _=>rfl)) (@aD _ _ _ _ _ _ _ _ bj (pv 2) (pv 1)))),(pv 0)⟩)) (@aa _ _ _ _ _ (@aD _ _ _ _ _ _ _ _ dz ao (pv 6)) ak (by rfl)) (by rfl))) ak (by rfl)))))) (@az _ _ _ (@aK _ _ _ _ (pv 9)))))) aX) (@au _ _ _ _ _ (aV (i:=11) zd_.nd rfl (Or.inl rfl) (aM zaf_ (hr.mono (by decide)) rfl (@aa _ _ _ _ _ (pv 4) (@aa _ _ _ _ _ (bG (fu rfl) (by rfl) T.list PyProof.Rows.boot_list (@aa _ _ _ _ _ (bG eO (by rfl) T.range PyProof.Rows.boot_range (@aa _ _ _ _ _ (pv 1) ak (by rfl))) ak (by rfl))) (@aa _ _ _ _ _ (pv 2) (@aa _ _ _ _ _ ao ak (by rfl)) (by rfl)) (by rfl)) (by rfl)))) (@au _ _ _ _ _ (eY (i:=12) zd_.nd rfl rfl (own:=["_law_part"]) (fnames:=["_law_posts"]) (fr:=[2]) (N':=["_law_part","_law_posts"]) ⟨rfl,rfl,rfl,rfl,rfl,rfl,rfl⟩ rfl (bQ (pv 11)) (fun s0 H0 fp0 C0=>⟨(aB (i:=0) (by show (["_law_part","_law_posts"]:List Str).Nodup;decide +kernel) rfl (Or.inl rfl)),cu,(@aP _ _ _ _ _ (@aa _ _ _ _ _ (@bc _ _ _ _ _ _ _ (cP (K:=K) rfl) (pv 0) ao (fun _ _=>rfl)) (@aa _ _ _ _ _ (@bc _ _ _ _ _ _ _ (cP (K:=K) rfl) (pv 0) ao (fun _ _=>rfl)) (@aa _ _ _ _ _ (@bc _ _ _ _ _ _ _ (cP (K:=K) rfl) (pv 0) ao (fun _ _=>rfl)) (@aa _ _ _ _ _ (@bc _ _ _ _ _ _ _ (cP (K:=K) rfl) (@bc _ _ _ _ _ _ _ (iK (K:=K) rfl) (pv 1) (@aD _ _ _ _ _ _ _ _ dz (@bc _ _ _ _ _ _ _ (cP (K:=K) rfl) (pv 0) ao (fun _ _=>rfl)) ao) (fun _ _=>rfl)) ao (fun _ _=>rfl)) ak (by rfl)) (by rfl)) (by rfl)) (by rfl)))⟩)) (@az _ _ _ (@aK _ _ _ _ (@bw _ _ _ _ (@aa _ _ _ _ _ (@aP _ _ _ _ _ (@aa _ _ _ _ _ (pv 12) (@aa _ _ _ _ _ (pv 5) ak (by rfl)) (by rfl))) (@aa _ _ _ _ _ (@aP _ _ _ _ _ (@aa _ _ _ _ _ (cB (own:=["_law_part"]) (fnames:=[]) (fr:=[]) (N':=["_law_part"]) ⟨rfl,rfl,rfl,rfl,rfl,rfl,rfl⟩ rfl (bQ (pv 12)) (fun s0 H0 fp0 C0=>⟨(aB (i:=0) (by show (["_law_part"]:List Str).Nodup;decide +kernel) rfl (Or.inl rfl)),cu,(@aP _ _ _ _ _ (@aa _ _ _ _ _ (@bc _ _ _ _ _ _ _ (cP (K:=K) rfl) (pv 0) ao (fun _ _=>rfl)) (@aa _ _ _ _ _ (@bc _ _ _ _ _ _ _ (cP (K:=K) rfl) (pv 0) ao (fun _ _=>rfl)) (@aa _ _ _ _ _ (@bc _ _ _ _ _ _ _ (cP (K:=K) rfl) (pv 0) ao (fun _ _=>rfl)) (@aa _ _ _ _ _ (@aD _ _ _ _ _ _ _ _ dz ao (@bc _ _ _ _ _ _ _ (cP (K:=K) rfl) (pv 0) ao (fun _ _=>rfl))) ak (by rfl)) (by rfl)) (by rfl)) (by rfl)))⟩)) (@aa _ _ _ _ _ (@aD _ _ _ _ _ _ _ _ dz ao (pv 6)) ak (by rfl)) (by rfl))) ak (by rfl)) (by rfl))))))))))))),?_⟩
  refine aA fun U1 u1=>?_
  walk_at "rd"
  refine⟨_,SqT.of et,rfl,_,_,rfl,_,_,rfl,_,_,rfl,_,_,rfl,rfl,?_⟩
  rw [u1];clear u1
  have hpl:=hP.len
  refine aA fun U1 u1=>?_
  walk_at "rd"
  refine⟨by lia,by lia,fun D hD=>bH (fun i σ H'=>(∃ds:List Int,Same H H'∧H' D=some (.lst (ds.map V.int))∧ds.length≤i∧(0≤s.b→ds=dsN s.b.toNat i))∧∃v0,σ=[v0,some (.int s.b)]) ⟨⟨[],same_new hD _,aj,Nat.zero_le _,fun _=>rfl⟩,none,rfl⟩ ?_ ?_⟩
  ·rintro i σ H' hi ⟨⟨ds,g,e,dl,de⟩,v0,rfl⟩
   rw [show (0 + (i:Int))=i by lia]
   walk_at "rd"
   refine⟨by lia,?_⟩
   rw [Int.toNat_natCast]
   by_cases z:Builtin.bitAnd (s.b / 2 ^ i) 1=1
   ·rw [if_pos z]
    refine⟨_,e,aW (by rw [List.length_map];lia),⟨aY hD g _,ds ++ [(i:Int)],by rw [aj,List.map_append];rfl,by rw [List.length_append];exact Nat.succ_le_succ dl,fun b0=>?_⟩⟩
    rw [pW,de b0,if_pos ((pU _ _).mp (by rw [Int.toNat_of_nonneg b0];exact z))]
   ·rw [if_neg z]
    refine⟨g,ds,e,by lia,fun b0=>?_⟩
    rw [pW,de b0,if_neg (fun y=>z (by have:=(pU _ _).mpr y;rw [Int.toNat_of_nonneg b0] at this;exact this)),List.append_nil]
  rintro σ H1 ⟨⟨ds,g1,e1,dl,de⟩,v0,rfl⟩
  have ep1:=g1 _ _ ep
  have hP1:=hP.mono g1
  rw [u1];clear u1
  refine aA fun U1 u1=>?_
  walk_at "rd"
  by_cases hk1:s.k=1
  ·rw [if_pos (by lia)]
   rw [yu (by lia),tV hk1,← de (ok.b (by lia)).1] at q
   refine⟨s.a,-1,D,pa,ds,ts,rfl,e1,ep1,by lia,by lia,fun r us H2 g2 hr er hPr=>⟨by decide,fun p hp=>⟨by decide,fun p1 hp1=>?_⟩⟩⟩
   obtain⟨g3,n3,hL⟩:=kO (g1.free hr) er hPr hp hp1
   rw [hpl] at hL
   exact q p1 _ _ ((g1.trans g2).trans g3) ((g1.trans g2).free n3) aj (by rw [show -s.c=0 - s.c by lia];exact hL)
  rw [if_neg (by lia)]
  rw [u1];clear u1
  refine aA fun U1 u1=>?_
  walk_at "rd"
  by_cases hk2:s.k=2
  ·rw [if_pos (by lia)]
   rw [yu (by lia),tW hk2,← de (ok.b (by lia)).1] at q
   refine⟨s.a,1,D,pa,ds,ts,rfl,e1,ep1,by lia,by lia,fun r us H2 g2 hr er hPr=>⟨by decide,fun p hp=>⟨by decide,fun p1 hp1=>?_⟩⟩⟩
   obtain⟨g3,n3,hL⟩:=kO (g1.free hr) er hPr hp hp1
   rw [hpl] at hL
   exact q p1 _ _ ((g1.trans g2).trans g3) ((g1.trans g2).free n3) aj hL
  rw [if_neg (by lia)]
  rw [u1];clear u1
  refine aA fun U1 u1=>?_
  walk_at "rd"
  by_cases hk3:s.k=3
  ·rw [if_pos (by lia)]
   rw [yu (by lia),tX hk3,Av] at q
   have db:=de (ok.b (by lia)).1
   refine⟨⟨_,SqL.of e1⟩,fun L hL=>bB (xs:=ds.map V.int) (fun i σ H'=>LinI H1 L ((ds.take i).map (yw s.a ps)) H'∧∃v0,σ=[v0,some (.ref pa),some (.int s.a)]) ⟨LinI.start hL,none,rfl⟩ (fun i σ H' _ hh=>SqL.of (hh.1.same _ _ e1)) ?_ ?_⟩
   ·rintro i v σ H' hx ⟨lI,v0,rfl⟩
    obtain⟨x,hx1,rfl⟩:=eU hx
    have hi:=(List.getElem?_eq_some_iff.mp hx1).1
    walk_at "rd"
    refine⟨by decide,fun p hp=>⟨s.a,-1,p,pa,[x],ts,rfl,aj,((lI.same.trans (same_new hp _)) _ _ ep1),by simp,by lia,fun r us H2 g2 hr er hPr=>⟨by decide,fun p1 hp1=>?_⟩⟩⟩
    rw [hpl] at hPr
    rw [bh hx1,List.map_append]
    exact lI.step hL (by rw [List.length_map,List.length_take];lia) ((same_new hp _).trans g2) ((same_new hp _).free hr) er hPr hp1
   ·rintro σ H' ⟨lI,v0,rfl⟩
    rw [List.length_map,List.take_length,db] at lI
    obtain⟨us,g,e,hL2⟩:=lI.done
    exact q L us H' (g1.trans g) (g1.free hL) e (Paired.mapP hL2 fun _ _ ⟨t,l,ts,e,q,r,z,f⟩=>⟨t,l,ts,e,q,r,z,g1.free f⟩)
  rw [if_neg (by lia)]
  rw [u1];clear u1
  refine aA fun U1 u1=>?_
  walk_at "rd"
  by_cases hk4:s.k=4
  ·rw [if_pos (by lia)]
   rw [JB hk4] at q
   obtain⟨c0,c1⟩:=ok.c4 hk4
   intro p hp
   refine⟨d,aj,by lia,by lia,fun l hl=>?_⟩
   have gA:=(same_new hp (.rng 0 d)).trans (same_new hl (.lst (List.map V.int (List.map (fun i:Nat=>(i:Int)) (List.range d.toNat)))))
   refine⟨s.a,-1,l,pa,(List.range d.toNat).map (fun i:Nat=>(i:Int)),ts,rfl,aj,gA _ _ ep1,by rw [List.length_map,List.length_range];lia,by lia,fun r us H2 g2 hr er hPr=>?_⟩
   rw [hpl,kW] at hPr
   have G2:=gA.trans g2
   have f2:=gA.free hr
   generalize hS:spr s.a (upto 0 d.toNat) (upto 1 ps.length) (-1)=S at hPr
   have sm:∀y∈S,y.p∈cH ps:=fun y hy=>by rw [← hS] at hy;exact (iQ hy).2.2.1
   have sl:S.length≤31 * 6:=by
    rw [← hS,cR,upL,upL]
    exact Nat.mul_le_mul (by lia) (by lia)
   have hul:=Paired.length hPr
   clear hr gA hp hl g2
   refine⟨r,rfl,⟨_,SqL.of er⟩,fun D2 hD2=>bB (xs:=us) (fun i σ H'=>PrsF H2 D2 ((S.take i).filter (fO ps)) H'∧∃v0,σ=[v0,some (.ref pa)]) ⟨PrsF.start hD2,none,rfl⟩ (fun i σ H' _ hh=>SqL.of (hh.1.same _ _ er)) ?_ ?_⟩
   ·rintro i v σ H' hx ⟨pF,v0,rfl⟩
    obtain⟨pq,hpq,tq,rfl,htq⟩:=Paired.get' hPr hx
    obtain⟨tp,qp,at1,e2,e3,e4⟩:=t7 (hP.mono ((g1.trans G2).trans pF.same)) (sm _ (List.mem_of_getElem? hpq))
    have htq2:=pF.same _ _ htq
    rw [mK _ hpq]
    walk_at "rd"
    refine⟨_,SqT.of htq2,_,rfl,_,rfl,_,SqL.of ((G2.trans pF.same) _ _ ep1),_,at1,tp,rfl,_,SqT.of e2,_,rfl,rfl,?_⟩
    by_cases z:qp.2.2=1
    ·rw [if_pos (by rw [z]),if_pos (by unfold fO;rw [e4];exact decide_eq_true z)]
     exact pF.step hD2 (by have:=p8 S i (fO ps);lia) htq
    ·rw [if_neg (fun y=>z (V.int.inj y)),if_neg (by unfold fO;rw [e4,decide_eq_false z];decide),List.append_nil]
     exact pF
   ·rintro σ H3 ⟨pF,v0,rfl⟩
    rw [hul,List.take_length] at pF
    obtain⟨un,g3,e3,hPn⟩:=pF.ex
    have hnl:=List.length_filter_le (fO ps) S
    have hun:=Paired.length hPn
    refine⟨Nat.zero_le _,fun L hL=>⟨by lia,by lia,bH (fun i σ H4=>LinI H3 L (nlI ps s.c S i) H4∧∃v10,σ=[some (.ref t),some (.int d),some (.ref pa),some (.int s.k),some (.int s.a),some (.int s.b),some (.int s.c),some (.ref D),some (.ref D2),some (.ref L),v10,none,none]) ⟨LinI.start hL,none,rfl⟩ ?_ ?_⟩⟩
    ·rintro i σ H4 hi ⟨lI,v10,rfl⟩
     rw [show (0 + (i:Int))=i by lia]
     have g4:=lI.same
     obtain⟨u0,_,e0,_⟩:=lI.ex
     have hPn4:=hPn.mono (aF (g3.trans g4))
     walk_at "rd"
     refine⟨.inl ⟨rfl,_,SqL.of e0⟩,⟨_,SqL.of (g4 _ _ e3)⟩,fun D3 hD3=>bB (xs:=un) (fun j σ H5=>PrsF H4 D3 (((S.filter (fO ps)).take j).filter (inW (i:Int) s.c)) H5∧∃v0,σ=[v0,some (.int s.c),some (.int i)]) ⟨PrsF.start hD3,none,rfl⟩ (fun j σ H5 _ hh=>SqL.of ((g4.trans hh.1.same) _ _ e3)) ?_ ?_⟩
     ·rintro j v σ H5 hx ⟨pG,v0,rfl⟩
      obtain⟨pq,hpq,tq,rfl,htq⟩:=Paired.get' hPn4 hx
      have htq2:=pG.same _ _ htq
      have flen:=p8 (S.filter (fO ps)) j (inW (i:Int) s.c)
      rw [mK _ hpq]
      walk_at "rd"
      refine⟨_,SqT.of htq2,_,rfl,_,rfl,?_⟩
      by_cases z1:(i:Int)≤pq.d
      ·rw [if_pos z1]
       refine⟨_,rfl,?_⟩
       by_cases z2:pq.d≤(i:Int) + s.c
       ·rw [if_pos z2,if_pos (by unfold inW;rw [decide_eq_true z1,decide_eq_true z2];rfl)]
        exact pG.step hD3 (by lia) htq
       ·rw [if_neg z2,if_neg (by unfold inW;rw [decide_eq_false z2,Bool.and_false];decide),List.append_nil]
        exact pG
      ·rw [if_neg z1,if_neg (by unfold inW;rw [decide_eq_false z1,Bool.false_and];decide),List.append_nil]
       exact pG
     ·rintro σ H5 ⟨pG,v0,rfl⟩
      rw [hun,List.take_length,uT] at pG
      obtain⟨uf,g5,e5,hPf⟩:=pG.ex
      refine⟨by decide,fun p hp=>?_⟩
      rw [yx,show -s.c=0 - s.c by lia]
      exact lI.step hL (by rw [Aw];lia) g5 hD3 e5 (hPf.mono (aF g5)) hp
    ·rintro σ H4 ⟨lI,v10,rfl⟩
     walk_at "rd"
     have en:gZ s.a s.c d.toNat ps=nlI ps s.c S (d - s.c).toNat:=by
      unfold gZ nlI
      rw [show spr s.a (upto 0 d.toNat) (cH ps) (-1)=S from hS,show ((d.toNat:Nat):Int)=d by lia]
     rw [en] at q
     obtain⟨us',g,e,hL2⟩:=lI.done
     have G3:=(g1.trans G2).trans g3
     exact q L us' H4 (G3.trans g) (G3.free hL) e (Paired.mapP hL2 fun _ _ ⟨t,l,ts,e,q,r,z,f⟩=>⟨t,l,ts,e,q,r,z,G3.free f⟩)
  rw [if_neg (by lia)]
  rw [u1];clear u1
  have k5:s.k=5:=by lia
  rw [JC k5] at q
  refine aA fun U1 u1=>?_
  walk_at "rd"
  intro p hp
  refine⟨d,aj,by lia,by lia,fun l hl=>?_⟩
  have gA:=(same_new hp (.rng 0 d)).trans (same_new hl (.lst (List.map V.int (List.map (fun i:Nat=>(i:Int)) (List.range d.toNat)))))
  refine⟨s.a,1,l,pa,(List.range d.toNat).map (fun i:Nat=>(i:Int)),ts,rfl,aj,gA _ _ ep1,by rw [List.length_map,List.length_range];lia,by lia,fun r us H2 g2 hr er hPr=>?_⟩
  rw [hpl,kW] at hPr
  have G2:=gA.trans g2
  have f2:=gA.free hr
  generalize hS:spr s.a (upto 0 d.toNat) (upto 1 ps.length) 1=S at hPr
  have sm:∀y∈S,y.p∈cH ps:=fun y hy=>by rw [← hS] at hy;exact (iQ hy).2.2.1
  have sl:S.length≤31 * 6:=by
   rw [← hS,cR,upL,upL]
   exact Nat.mul_le_mul (by lia) (by lia)
  have hul:=Paired.length hPr
  clear hr gA hp hl g2
  rw [u1];clear u1
  refine aA fun U1 u1=>?_
  walk_at "rd"
  refine⟨⟨_,SqL.of er⟩,fun D2 hD2=>bB (xs:=us) (fun i σ H'=>PrsI H2 D2 ((S.take i).map (gP ps 1)) H'∧∃v0,σ=[v0,some (.ref pa)]) ⟨PrsI.start hD2,none,rfl⟩ (fun i σ H' _ hh=>SqL.of (hh.1.same _ _ er)) ?_ ?_⟩
  ·rintro i v σ H' hx ⟨pI,v0,rfl⟩
   obtain⟨pq,hpq,tq,rfl,htq⟩:=Paired.get' hPr hx
   have hi:=(List.getElem?_eq_some_iff.mp hpq).1
   obtain⟨tp,qp,at1,e2,e3,e4⟩:=t7 (hP.mono ((g1.trans G2).trans pI.same)) (sm _ (List.mem_of_getElem? hpq))
   have htq2:=pI.same _ _ htq
   walk_at "rd"
   refine⟨_,SqT.of htq2,_,rfl,_,SqT.of htq2,_,rfl,_,SqT.of htq2,_,rfl,_,SqT.of htq2,_,rfl,_,rfl,_,SqL.of ((G2.trans pI.same) _ _ ep1),_,at1,tp,rfl,_,SqT.of e2,_,rfl,by decide,fun p hp=>?_⟩
   have el:gP ps 1 pq=⟨pq.h,pq.d,pq.p,qp.2.1⟩:=by unfold gP;rw [Int.mul_one,e3]
   rw [bh hpq,List.map_append,List.map_cons,List.map_nil,el]
   exact pI.step hD2 (by rw [List.length_map,List.length_take];lia) hp
  rintro σ H3 ⟨pI,v0,rfl⟩
  rw [hul,List.take_length] at pI
  obtain⟨un,g3,e3,hPn⟩:=pI.ex
  have hun:=Paired.length hPn
  rw [List.length_map] at hun
  rw [u1];clear u1
  walk_at "rd"
  refine⟨by decide,fun p1 hp1=>?_⟩
  have gp:=same_new hp1 (.tup [.ref D2,.int s.b])
  have epp:=aj (H:=H3) (a:=p1) (o:=.tup [.ref D2,.int s.b])
  generalize upd H3 p1 (.tup [.ref D2,.int s.b])=HP at gp epp ⊢
  have hPp:=hPn.mono (aF gp)
  refine⟨⟨_,SqL.of (gp _ _ e3)⟩,fun D3 hD3=>bB (xs:=un) (fun i σ H'=>PrsI HP D3 ((S.take i).map (yD ps)) H'∧∃v0,σ=[v0]) ⟨PrsI.start hD3,none,rfl⟩ (fun i σ H' _ hh=>SqL.of ((gp.trans hh.1.same) _ _ e3)) ?_ ?_⟩
  ·rintro i v σ H' hx ⟨pJ,v0,rfl⟩
   obtain⟨pq',hpq',tq,rfl,htq⟩:=Paired.get' hPp hx
   rw [List.getElem?_map] at hpq'
   obtain⟨pq,hpq,rfl⟩:=Option.map_eq_some_iff.mp hpq'
   have hi:=(List.getElem?_eq_some_iff.mp hpq).1
   have htq2:=pJ.same _ _ htq
   walk_at "rd"
   refine⟨_,SqT.of htq2,_,rfl,_,SqT.of htq2,_,rfl,_,SqT.of htq2,_,rfl,_,SqT.of htq2,_,rfl,_,rfl,by decide,fun p hp=>?_⟩
   rw [bh hpq,List.map_append,List.map_cons,List.map_nil,show yD ps pq=_ from yz ps pq]
   exact pJ.step hD3 (by rw [List.length_map,List.length_take];lia) hp
  rintro σ H5 ⟨pJ,v0,rfl⟩
  rw [hun,List.take_length] at pJ
  obtain⟨ul,g5,e5,hPl⟩:=pJ.ex
  refine⟨by decide,fun p2 hp2=>⟨by decide,fun p3' hp3=>?_⟩⟩
  have GA:=g1.trans G2
  have GB:=GA.trans (g3.trans gp)
  obtain⟨g6,n6,hL⟩:=yC (H0:=H) (GA.free hD2) (GB.free hD3) ((gp.trans g5) _ _ e3) (hPp.mono (aF g5)) (g5 _ _ epp) e5 hPl hp2 hp3
  rw [Eb,Ec,show spr s.a (upto 0 d.toNat) (cH ps) 1=S from hS,show -s.c=0 - s.c by lia] at q
  exact q p3' _ _ ((GB.trans g5).trans g6) ((GB.trans g5).free n6) aj hL
noncomputable def Bt (K:PySem.W.Frag) (ζ:Cs):Sp:=fun vs H Q _=>∃ (c:Int) (pa:Addr) (ts:List V),vs=[.int c,.ref pa]∧H pa=some (.lst ts)∧0 < ts.length∧Q (.int (1 + c % (ts.length:Int))) H
theorem Nt:aN ["_law_cell_here","_law_posts"] ["_law_cell_here","_law_posts"] (aq wF):=⟨rfl,rfl,rfl,k!,rfl,k!,k!⟩
theorem Nu {ζ:Cs} {f:Addr} {fd:FuncData} (F:Fun K "_law_post" "_law_post" wF f fd) (T:Txt K mg ζ) :bA P w K mg base CX0 1 f fd ["_law_cell_here","_law_posts"] (Bt K ζ):=by
 refine F.ok Nt (fun vs H Q E h=>?_) (fun cdv A outer s H vs Q E hr h=>?_)
 ·obtain⟨c,pa,ts,rfl,_⟩:=h
  rfl
 ·obtain⟨c,pa,ts,rfl,ep,t0,q⟩:=h
  refine⟨_,(@az _ _ _ (@aK _ _ _ _ (@aD _ _ _ _ _ _ _ _ bj ao (@aD _ _ _ _ _ _ _ _ bu (pv 0) (bx (bC (K:=K) rfl) (by rfl) T.len PySem.boot_len (@aa _ _ _ _ _ (pv 1) ak (by rfl))))))),?_⟩
  walk_at "rd"
  exact⟨_,.inl (SqL.of ep),by omega,q⟩
noncomputable def GC (K:PySem.W.Frag) (ζ:Cs):Sp:=fun vs H Q _=>∃ (t pa:Addr) (d:Int) (s:Sp4) (n:Nat) (ts:List V) (ps:List Pst),vs=[.ref t,.int d,.int n,.ref pa]∧H t=some (.tup [.int (s.k:Nat),.int s.a,.int s.b,.int s.c])∧H pa=some (.lst ts)∧Posts H ts ps∧1≤d∧d≤31∧n≤8∧ps.length≤3∧jr d n ps.length s∧∀r us H',Same H H'→H r=none→H' r=some (.lst us)→mJ H H' us (fH d.toNat n ps s)→Q (.ref r) H'
theorem zq_:aN ["_law_spec_here","_law_days","_law_hands","_law_posts","_law_kind","_law_one","_law_two","_law_three","_law_found","_law_day","_law_k"] ["_law_spec_here","_law_days","_law_hands","_law_posts"] (aq wI):=⟨rfl,rfl,rfl,k!,rfl,k!,k!⟩
theorem Nv {ζ:Cs} {f:Addr} {fd:FuncData} (F:Fun K "_law_lines" "_law_lines" wI f fd) (T:Txt K mg ζ) (zcu_:Cal P w K mg base "_law_single" ["_law_spec_here","_law_days","_law_posts"] 2 (Gz K ζ)) (zaM_:Cal P w K mg base "_law_post" ["_law_cell_here","_law_posts"] 1 (Bt K ζ)):bA P w K mg base CX0 3 f fd ["_law_spec_here","_law_days","_law_hands","_law_posts"] (GC K ζ):=by
 refine F.ok zq_ (fun vs H Q E h=>?_) (fun cdv A outer s H vs Q E hr h=>?_)
 ·obtain⟨t,pa,d,s,n,ts,ps,rfl,_⟩:=h
  rfl
 ·obtain⟨t,pa,d,s,n,ts,ps,rfl,et,ep,hP,d1,d2,n8,p3,ok,q⟩:=h
  refine⟨_,(@au _ _ _ _ _ (ji (pv 0) (cL (n:=4) rfl (aO (aB (i:=4) zq_.nd rfl (Or.inl rfl)) (aO (aB (i:=5) zq_.nd rfl (Or.inr rfl)) (aO (aB (i:=6) zq_.nd rfl (Or.inr rfl)) (aO (aB (i:=7) zq_.nd rfl (Or.inl rfl)) bV)))))) (@au _ _ _ _ _ (@bF _ _ _ _ _ _ _ _ (@aQ _ _ _ _ _ _ _ _ bZ (pv 4) ao (aR _)) (@az _ _ _ (@aK _ _ _ _ (@bw _ _ _ _ (@aa _ _ _ _ _ (@aP _ _ _ _ _ (@aa _ _ _ _ _ (cB (own:=["_law_hand"]) (fnames:=["_law_posts","_law_one","_law_two"]) (fr:=[3,5,6]) (N':=["_law_hand","_law_posts","_law_one","_law_two"]) ⟨rfl,rfl,rfl,rfl,rfl,rfl,rfl⟩ rfl (bM rfl T.range (@aa _ _ _ _ _ (pv 2) ak (by rfl))) (fun s0 H0 fp0 C0=>⟨(aB (i:=0) (by show (["_law_hand","_law_posts","_law_one","_law_two"]:List Str).Nodup;decide +kernel) rfl (Or.inl rfl)),cu,(@aP _ _ _ _ _ (@aa _ _ _ _ _ (pv 0) (@aa _ _ _ _ _ (pv 2) (@aa _ _ _ _ _ (aM zaM_ (hr.mono (by decide)) rfl (@aa _ _ _ _ _ (pv 3) (@aa _ _ _ _ _ (pv 1) ak (by rfl)) (by rfl))) (@aa _ _ _ _ _ ao ak (by rfl)) (by rfl)) (by rfl)) (by rfl)))⟩)) (@aa _ _ _ _ _ (pv 7) ak (by rfl)) (by rfl))) ak (by rfl))))) aX) (@au _ _ _ _ _ (@bF _ _ _ _ _ _ _ _ (@aQ _ _ _ _ _ _ _ _ dZ (pv 4) ao (aR _)) (@az _ _ _ (@aK _ _ _ _ (aM zcu_ (hr.mono (by decide)) rfl (@aa _ _ _ _ _ (pv 0) (@aa _ _ _ _ _ (pv 1) (@aa _ _ _ _ _ (pv 3) ak (by rfl)) (by rfl)) (by rfl))))) aX) (@au _ _ _ _ _ (aV (i:=8) zq_.nd rfl (Or.inl rfl) (@bw _ _ _ _ ak)) (@au _ _ _ _ _ (bN PassesOwn.never rfl (bM rfl T.range (@aa _ _ _ _ _ (pv 1) ak (by rfl))) (aB (i:=9) zq_.nd rfl (Or.inl rfl))
   (@az _ _ _ (bN PassesOwn.never rfl (bM rfl T.range (@aa _ _ _ _ _ (bx (bC (K:=K) rfl) (by rfl) T.len PySem.boot_len (@aa _ _ _ _ _ (pv 3) ak (by rfl))) ak (by rfl))) (aB (i:=10) zq_.nd rfl (Or.inl rfl))
     (@az _ _ _ (bY (d7 PySem.F.plainAttrs_list PySem.F.slot_list_append PySem.F.type_list_append cj (pv 8) (@aa _ _ _ _ _ (@aP _ _ _ _ _ (@aa _ _ _ _ _ (@bw _ _ _ _ (@aa _ _ _ _ _ (@aP _ _ _ _ _ (@aa _ _ _ _ _ (pv 5) (@aa _ _ _ _ _ (pv 9) (@aa _ _ _ _ _ (@aD _ _ _ _ _ _ _ _ bj (pv 10) ao) (@aa _ _ _ _ _ (@cW _ _ _ _ _ _ cz ao) ak (by rfl)) (by rfl)) (by rfl)) (by rfl))) (@aa _ _ _ _ _ (@aP _ _ _ _ _ (@aa _ _ _ _ _ (pv 6) (@aa _ _ _ _ _ (pv 9) (@aa _ _ _ _ _ (@aD _ _ _ _ _ _ _ _ bj (pv 10) ao) (@aa _ _ _ _ _ (@cW _ _ _ _ _ _ cz ao) ak (by rfl)) (by rfl)) (by rfl)) (by rfl))) ak (by rfl)) (by rfl))) (@aa _ _ _ _ _ (@cW _ _ _ _ _ _ cz ao) ak (by rfl)) (by rfl))) ak (by rfl)))))))) (@az _ _ _ (@aK _ _ _ _ (pv 8)))))))),?_⟩
  have hpl:=hP.len
  refine aA fun U1 u1=>?_
  walk_at "rd"
  refine⟨_,SqT.of et,rfl,_,_,rfl,_,_,rfl,_,_,rfl,_,_,rfl,rfl,?_⟩
  rw [u1];clear u1
  refine aA fun U1 u1=>?_
  walk_at "rd"
  by_cases k0:s.k=0
  ·rw [if_pos (by lia)]
   rw [yu (by lia),tU k0] at q
   obtain⟨pp,hpp⟩:∃pp:Int,1 + s.b % (ps.length:Int)=pp:=⟨_,rfl⟩
   rw [hpp] at q
   refine⟨by lia,by lia,fun D hD=>bH (fun i σ H'=>PrsI H D (dJ i s.a pp) H'∧∃v0,σ=[v0,some (.ref pa),some (.int s.a),some (.int s.b)]) ⟨PrsI.start hD,none,rfl⟩ ?_ ?_⟩
   ·rintro i σ H' hi ⟨pI,v0,rfl⟩
    rw [show (0 + (i:Int))=i by lia]
    walk_at "rd"
    refine⟨s.b,pa,ts,rfl,pI.same _ _ ep,by have:=ok.P0;lia,by decide,fun p hp=>?_⟩
    rw [hpl,hpp,j8]
    exact pI.step hD (by rw [mL];lia) hp
   ·rintro σ H' ⟨pI,v0,rfl⟩
    rw [Int.toNat_natCast] at pI
    obtain⟨us,g,e,hPr⟩:=pI.ex
    refine⟨by decide,fun p hp=>⟨by decide,fun p1 hp1=>?_⟩⟩
    obtain⟨g3,n3,hL⟩:=kO hD e hPr hp hp1
    exact q p1 _ _ (g.trans g3) (g.free n3) aj hL
  rw [if_neg (by lia)]
  rw [u1];clear u1
  refine aA fun U1 u1=>?_
  walk_at "rd"
  by_cases k6:s.k < 6
  ·rw [if_pos (by lia)]
   exact⟨t,pa,d,s,n,ts,ps,rfl,et,ep,hP,d1,d2,p3,by lia,by lia,ok,q⟩
  rw [if_neg (by lia)]
  have k66:s.k=6:=by have:=ok.k6;lia
  rw [yu (by lia),tZ k66] at q
  rw [u1];clear u1
  refine aA fun U1 u1=>?_
  walk_at "rd"
  refine⟨Nat.zero_le _,fun p hp=>?_⟩
  rw [u1];clear u1
  refine aA fun U1 u1=>bU fun B1 b1=>?_
  walk_at "rd"
  refine⟨by lia,by lia,bH (fun i σ H'=>LinI H p (fW s.a s.b (-1) (-1) ps.length i) H'∧∃v9 v10,σ=[some (.ref t),some (.int d),some (.int n),some (.ref pa),some (.int s.k),some (.int s.a),some (.int s.b),some (.int s.c),some (.ref p),v9,v10]) ⟨LinI.start hp,none,none,rfl⟩ ?_ ?_⟩
  ·rintro i σ H' hi ⟨lI,v9,v10,rfl⟩
   rw [show (0 + (i:Int))=i by lia]
   rw [b1]
   refine bU fun B2 b2=>?_
   walk_at "rd"
   have hlen:(fW s.a s.b (-1) (-1) ps.length i).length≤31 * 3:=by
    unfold fW
    rw [List.length_map,gJ]
    exact Nat.mul_le_mul (by lia) p3
   refine⟨_,.inl (SqL.of (lI.same _ _ ep)),by lia,by lia,bH (fun j σ H2=>LinI H p (fW s.a s.b (-1) (-1) ps.length i ++ (upto 1 j).map fun y=>pN s.a s.b (-1) (-1) ((i:Int),y)) H2∧∃v10,σ=[some (.ref t),some (.int d),some (.int n),some (.ref pa),some (.int s.k),some (.int s.a),some (.int s.b),some (.int s.c),some (.ref p),some (.int i),v10]) ⟨?_,v10,rfl⟩ ?_ ?_⟩
   ·rw [show ((upto 1 0).map fun y=>pN s.a s.b (-1) (-1) ((i:Int),y))=[] from rfl,List.append_nil]
    exact lI
   ·rintro j σ H2 hj ⟨lJ,v10,rfl⟩
    rw [show (0 + (j:Int))=j by lia]
    obtain⟨u0,_,e0,_⟩:=lJ.ex
    rw [b2]
    walk_at "rd"
    refine⟨.inl ⟨rfl,_,SqL.of e0⟩,by decide,fun p1 hp1=>⟨by decide,fun p2 hp2=>⟨by decide,fun p3' hp3=>⟨by decide,fun p4 hp4=>?_⟩⟩⟩⟩
    rw [fD,List.map_append,← List.append_assoc]
    rw [show ((j:Int) + 1)=1 + (j:Int) by lia] at hp2 hp3 hp4 ⊢
    have g1:=same_new hp1 (.tup [.int s.a,.int i,.int (1 + (j:Int)),.int (-1)])
    have g2:=same_new hp2 (.tup [.int s.b,.int i,.int (1 + (j:Int)),.int (-1)])
    have g3:=same_new hp3 (.lst [.ref p1,.ref p2])
    exact lJ.step (l:=p3') (qs:=[⟨s.a,(i:Int),1 + (j:Int),-1⟩,⟨s.b,(i:Int),1 + (j:Int),-1⟩]) hp (by rw [List.length_append,List.length_map,upL];lia) ((g1.trans g2).trans g3) ((g1.trans g2).free hp3) aj (.cons ⟨p1,rfl,g3 _ _ (g2 _ _ aj)⟩ (.cons ⟨p2,rfl,g3 _ _ aj⟩ .nil)) hp4
   ·rintro σ H2 ⟨lJ,v10,rfl⟩
    rw [Int.toNat_natCast,hpl] at lJ
    have e:fW s.a s.b (-1) (-1) ps.length (i + 1)=fW s.a s.b (-1) (-1) ps.length i ++ (upto 1 ps.length).map fun y=>pN s.a s.b (-1) (-1) ((i:Int),y):=by
     unfold fW
     rw [jq,List.map_append,List.map_map]
     rfl
    rw [e]
    exact⟨lJ,_,_,rfl⟩
  rintro σ H' ⟨lI,v9,v10,rfl⟩
  rw [u1];clear u1
  walk_at "rd"
  obtain⟨us,g,e,hL⟩:=lI.done
  exact q p us H' g hp e hL
noncomputable def GD (K:PySem.W.Frag) (ζ:Cs):Sp:=fun vs H Q _=>∃ (t pa:Addr) (s:Sp4) (ts:List V),vs=[.ref t,.ref pa]∧H t=some (.tup [.int (s.k:Nat),.int s.a,.int s.b,.int s.c])∧s.k≤6∧H pa=some (.lst ts)∧0 < ts.length∧∀ (x:Addr) (H':Hp),Same H H'→H x=none→lK (clsOf ζ.c ζ.d ζ.e ζ.g ζ.i ζ.f ζ.h) ts.length H' (.ref x) s→Q (.ref x) H'
theorem zaR_:aN ["_law_spec_here","_law_posts","_law_kind","_law_one","_law_two","_law_three"] ["_law_spec_here","_law_posts"] (aq wG):=⟨rfl,rfl,rfl,k!,rfl,k!,k!⟩
theorem Nx {ζ:Cs} {f:Addr} {fd:FuncData} (F:Fun K "_law_rule" "_law_rule" wG f fd) (T:Txt K mg ζ) (zeD_:fM P w K mg base "Apart" ζ.h ["self","hand","other"] 1 (Ge K ζ)) (I_Want:fM P w K mg base "Want" ζ.c ["self","day","post","many"] 1 (Gf K ζ)) (I_Most:fM P w K mg base "Most" ζ.d ["self","hand","days","many"] 1 (Gg K ζ)) (zeE_:fM P w K mg base "Least" ζ.e ["self","hand","days","many"] 1 (Gh K ζ)) (I_Away:fM P w K mg base "Away" ζ.g ["self","hand","days"] 1 (Gi K ζ)) (zej_:fM P w K mg base "Nights" ζ.i ["self","hand","many"] 1 (Gj K ζ)) (zeF_:fM P w K mg base "Hours" ζ.f ["self","hand","least","most"] 1 (Gk K ζ)) (zaM_:Cal P w K mg base "_law_post" ["_law_cell_here","_law_posts"] 1 (Bt K ζ)):bA P w K mg base CX0 3 f fd ["_law_spec_here","_law_posts"] (GD K ζ):=by
 refine F.ok zaR_ (fun vs H Q E h=>?_) (fun cdv A outer s H vs Q E hr h=>?_)
 ·obtain⟨t,pa,s,ts,rfl,_⟩:=h
  rfl
 ·obtain⟨t,pa,s,ts,rfl,et,k6,ep,t0,q⟩:=h
  refine⟨_,(@au _ _ _ _ _ (ji (pv 0) (cL (n:=4) rfl (aO (aB (i:=2) zaR_.nd rfl (Or.inl rfl)) (aO (aB (i:=3) zaR_.nd rfl (Or.inl rfl)) (aO (aB (i:=4) zaR_.nd rfl (Or.inl rfl)) (aO (aB (i:=5) zaR_.nd rfl (Or.inl rfl)) bV)))))) (@au _ _ _ _ _ (@bF _ _ _ _ _ _ _ _ (@aQ _ _ _ _ _ _ _ _ bZ (pv 2) ao (aR _)) (@az _ _ _ (@aK _ _ _ _ (dG I_Want (hr.mono (by decide)) rfl (@aa _ _ _ _ _ (pv 3) (@aa _ _ _ _ _ (aM zaM_ (hr.mono (by decide)) rfl (@aa _ _ _ _ _ (pv 4) (@aa _ _ _ _ _ (pv 1) ak (by rfl)) (by rfl))) (@aa _ _ _ _ _ (pv 5) ak (by rfl)) (by rfl)) (by rfl))))) aX) (@au _ _ _ _ _ (@bF _ _ _ _ _ _ _ _ (@aQ _ _ _ _ _ _ _ _ bZ (pv 2) ao (aR _)) (@az _ _ _ (@aK _ _ _ _ (dG I_Most (hr.mono (by decide)) rfl (@aa _ _ _ _ _ (pv 3) (@aa _ _ _ _ _ (pv 4) (@aa _ _ _ _ _ (pv 5) ak (by rfl)) (by rfl)) (by rfl))))) aX) (@au _ _ _ _ _ (@bF _ _ _ _ _ _ _ _ (@aQ _ _ _ _ _ _ _ _ bZ (pv 2) ao (aR _)) (@az _ _ _ (@aK _ _ _ _ (dG zeE_ (hr.mono (by decide)) rfl (@aa _ _ _ _ _ (pv 3) (@aa _ _ _ _ _ (pv 4) (@aa _ _ _ _ _ (pv 5) ak (by rfl)) (by rfl)) (by rfl))))) aX) (@au _ _ _ _ _ (@bF _ _ _ _ _ _ _ _ (@aQ _ _ _ _ _ _ _ _ bZ (pv 2) ao (aR _)) (@az _ _ _ (@aK _ _ _ _ (dG I_Away (hr.mono (by decide)) rfl (@aa _ _ _ _ _ (pv 3) (@aa _ _ _ _ _ (pv 4) ak (by rfl)) (by rfl))))) aX) (@au _ _ _ _ _ (@bF _ _ _ _ _ _ _ _ (@aQ _ _ _ _ _ _ _ _ bZ (pv 2) ao (aR _)) (@az _ _ _ (@aK _ _ _ _ (dG zej_ (hr.mono (by decide)) rfl (@aa _ _ _ _ _ (pv 3) (@aa _ _ _ _ _ (pv 5) ak (by rfl)) (by rfl))))) aX) (@au _ _ _ _ _ (@bF _ _ _ _ _ _ _ _ (@aQ _ _ _ _ _ _ _ _ bZ (pv 2) ao (aR _)) (@az _ _ _ (@aK _ _ _ _ (dG zeF_ (hr.mono (by decide)) rfl (@aa _ _ _ _ _ (pv 3) (@aa _ _ _ _ _ (pv 4) (@aa _ _ _ _ _ (pv 5) ak (by rfl)) (by rfl)) (by rfl))))) aX) (@az _ _ _ (@aK _ _ _ _ (dG zeD_ (hr.mono (by decide)) rfl (@aa _ _ _ _ _ (pv 3) (@aa _ _ _ _ _ (pv 4) ak (by rfl)) (by rfl)))))))))))),?_⟩
  refine aA fun U1 u1=>?_
  walk_at "rd"
  refine⟨_,SqT.of et,rfl,_,_,rfl,_,_,rfl,_,_,rfl,_,_,rfl,rfl,?_⟩
  rw [u1];clear u1
  obtain hk | hk | hk | hk | hk | hk | hk:s.k=0∨s.k=1∨s.k=2∨s.k=3∨s.k=4∨s.k=5∨s.k=6:=by lia
  ·refine aA fun U1 u1=>?_
   walk_at "rd"
   rw [if_pos (by lia)]
   refine⟨_,pa,ts,rfl,ep,t0,?_⟩
   intro x dx hx hdx nx
   refine⟨x,dx,_,_,_,rfl,aj,rfl,?_⟩
   rw [cg]
   exact q x _ (fun b o hb=>by rw [aG (aH hb hx),aG (aH hb hdx)];exact hb) hx (HW hk aj)
  ·refine aA fun U1 u1=>?_
   walk_at "rd"
   rw [if_neg (by lia)]
   rw [u1];clear u1
   refine aA fun U1 u1=>?_
   walk_at "rd"
   rw [if_pos (by lia)]
   intro x dx hx hdx nx
   refine⟨x,dx,_,_,_,rfl,aj,rfl,?_⟩
   rw [cg]
   exact q x _ (fun b o hb=>by rw [aG (aH hb hx),aG (aH hb hdx)];exact hb) hx (HX hk aj)
  ·refine aA fun U1 u1=>?_
   walk_at "rd"
   rw [if_neg (by lia)]
   rw [u1];clear u1
   refine aA fun U1 u1=>?_
   walk_at "rd"
   rw [if_neg (by lia)]
   rw [u1];clear u1
   refine aA fun U1 u1=>?_
   walk_at "rd"
   rw [if_pos (by lia)]
   intro x dx hx hdx nx
   refine⟨x,dx,_,_,_,rfl,aj,rfl,?_⟩
   rw [cg]
   exact q x _ (fun b o hb=>by rw [aG (aH hb hx),aG (aH hb hdx)];exact hb) hx (HY hk aj)
  ·refine aA fun U1 u1=>?_
   walk_at "rd"
   rw [if_neg (by lia)]
   rw [u1];clear u1
   refine aA fun U1 u1=>?_
   walk_at "rd"
   rw [if_neg (by lia)]
   rw [u1];clear u1
   refine aA fun U1 u1=>?_
   walk_at "rd"
   rw [if_neg (by lia)]
   rw [u1];clear u1
   refine aA fun U1 u1=>?_
   walk_at "rd"
   rw [if_pos (by lia)]
   intro x dx hx hdx nx
   refine⟨x,dx,_,_,rfl,aj,rfl,?_⟩
   rw [cg]
   exact q x _ (fun b o hb=>by rw [aG (aH hb hx),aG (aH hb hdx)];exact hb) hx (Ia hk aj)
  ·refine aA fun U1 u1=>?_
   walk_at "rd"
   rw [if_neg (by lia)]
   rw [u1];clear u1
   refine aA fun U1 u1=>?_
   walk_at "rd"
   rw [if_neg (by lia)]
   rw [u1];clear u1
   refine aA fun U1 u1=>?_
   walk_at "rd"
   rw [if_neg (by lia)]
   rw [u1];clear u1
   refine aA fun U1 u1=>?_
   walk_at "rd"
   rw [if_neg (by lia)]
   rw [u1];clear u1
   refine aA fun U1 u1=>?_
   walk_at "rd"
   rw [if_pos (by lia)]
   intro x dx hx hdx nx
   refine⟨x,dx,_,_,rfl,aj,rfl,?_⟩
   rw [cg]
   exact q x _ (fun b o hb=>by rw [aG (aH hb hx),aG (aH hb hdx)];exact hb) hx (Ib hk aj)
  ·refine aA fun U1 u1=>?_
   walk_at "rd"
   rw [if_neg (by lia)]
   rw [u1];clear u1
   refine aA fun U1 u1=>?_
   walk_at "rd"
   rw [if_neg (by lia)]
   rw [u1];clear u1
   refine aA fun U1 u1=>?_
   walk_at "rd"
   rw [if_neg (by lia)]
   rw [u1];clear u1
   refine aA fun U1 u1=>?_
   walk_at "rd"
   rw [if_neg (by lia)]
   rw [u1];clear u1
   refine aA fun U1 u1=>?_
   walk_at "rd"
   rw [if_neg (by lia)]
   rw [u1];clear u1
   refine aA fun U1 u1=>?_
   walk_at "rd"
   rw [if_pos (by lia)]
   intro x dx hx hdx nx
   refine⟨x,dx,_,_,_,rfl,aj,rfl,?_⟩
   rw [cg]
   exact q x _ (fun b o hb=>by rw [aG (aH hb hx),aG (aH hb hdx)];exact hb) hx (Ie hk aj)
  ·refine aA fun U1 u1=>?_
   walk_at "rd"
   rw [if_neg (by lia)]
   rw [u1];clear u1
   refine aA fun U1 u1=>?_
   walk_at "rd"
   rw [if_neg (by lia)]
   rw [u1];clear u1
   refine aA fun U1 u1=>?_
   walk_at "rd"
   rw [if_neg (by lia)]
   rw [u1];clear u1
   refine aA fun U1 u1=>?_
   walk_at "rd"
   rw [if_neg (by lia)]
   rw [u1];clear u1
   refine aA fun U1 u1=>?_
   walk_at "rd"
   rw [if_neg (by lia)]
   rw [u1];clear u1
   refine aA fun U1 u1=>?_
   walk_at "rd"
   rw [if_neg (by lia)]
   rw [u1];clear u1
   walk_at "rd"
   intro x dx hx hdx nx
   refine⟨x,dx,_,_,rfl,aj,rfl,?_⟩
   rw [cg]
   exact q x _ (fun b o hb=>by rw [aG (aH hb hx),aG (aH hb hdx)];exact hb) hx (Ig hk aj)
noncomputable def GF (K:PySem.W.Frag) (ζ:Cs):Sp:=fun vs H Q _=>∃ (b c:Bool),vs=[.bl b,.bl c]∧Q (.bl (b == c)) H
theorem Ny:aN ["_law_found","_law_due"] ["_law_found","_law_due"] (aq wM):=⟨rfl,rfl,rfl,k!,rfl,k!,k!⟩
theorem Nz {ζ:Cs} {f:Addr} {fd:FuncData} (F:Fun K "_law_truth" "_law_truth" wM f fd) (T:Txt K mg ζ) :bA P w K mg base CX0 1 f fd ["_law_found","_law_due"] (GF K ζ):=by
 refine F.ok Ny (fun vs H Q E h=>?_) (fun cdv A outer s H vs Q E hr h=>?_)
 ·obtain⟨b,c,rfl,_⟩:=h
  rfl
 ·obtain⟨b,c,rfl,q⟩:=h
  refine⟨_,(@az _ _ _ (@aK _ _ _ _ (cG (bx o7 (by rfl) T.isinstance PyProof.Rows.boot_isinstance (@aa _ _ _ _ _ (pv 0) (@aa _ _ _ _ _ (nj (v:=.ty "bool") rfl T.bool PyProof.Rows.boot_bool rfl) ak (by rfl)) (by rfl))) (dq (cX bZ (pv 0) (pv 1) (aR _)))))),?_⟩
  walk_at "rd"
  have e:decide (b=c)=(b == c):=by cases b <;> cases c <;> rfl
  rw [e]
  exact q
noncomputable def oU (K:PySem.W.Frag):Sp:=fun vs H Q _=>∃ (a:Addr) (ns:List Int),vs=[.ref a]∧SqL K H a (ns.map V.int)∧ns.length≤63∧∀H',Q (.bl true) H'
theorem sc_law:aN ["_law_script","_law_days","_law_hands","_law_posts","_law_options_here","_law_specs","_law_told","_law_terms","_law_paper","_law_due","_law_handed","_law_found"] ["_law_script"] (aq jh):=⟨rfl,rfl,rfl,k!,rfl,k!,k!⟩
theorem GJ {ζ:Cs} {f:Addr} {fd:FuncData} (F:Fun K "law" "law" jh f fd) (T:Txt K mg ζ) (zdh_:Cal P w K mg base "_law_ward" ["_law_script","_law_most"] 2 (Gp K ζ)) (zN_:Cal P w K mg base "_law_options" ["_law_hands","_law_posts"] 1 (Br K ζ)) (zeG_:fM P w K mg base "Terms" ζ.b ["self","ward","rules"] 5 (Fw K ζ)) (zdi_:Cal P w K mg base "_law_walk" ["_law_script","_law_told","_law_options_here","_law_days"] 5 (Gw K ζ)) (C_left:Cal P w K mg base "left" ["terms","paper"] 7 (Bp K ζ)) (zdj_:Cal P w K mg base "_law_spec" ["_law_script","_law_at","_law_days","_law_hands"] 2 (Gx K ζ)) (zcT_:Cal P w K mg base "_law_lines" ["_law_spec_here","_law_days","_law_hands","_law_posts"] 3 (GC K ζ)) (I_Ward:fM P w K mg base "Ward" ζ.a ["self","days","hands","posts"] 4 (Gd K ζ)) (zdk_:Cal P w K mg base "_law_rule" ["_law_spec_here","_law_posts"] 3 (GD K ζ)) (zcU_:Cal P w K mg base "_law_truth" ["_law_found","_law_due"] 1 (GF K ζ)) (zds_:Cal P w K mg base "is_paper" ["terms","paper"] 8 (Gm K ζ)) (za_:Cal P w K mg base "_law_cell" ["_law_script","_law_k"] 1 (zP_ K ζ)):bA P w K mg base CX0 9 f fd ["_law_script"] (oU K):=by
 refine F.ok sc_law (fun vs H Q E h=>?_) (fun cdv A outer s H vs Q E hr h=>?_)
 ·obtain⟨a,ns,rfl,_⟩:=h
  rfl
 ·obtain⟨a,ns,rfl,hS,hn,k⟩:=h
  refine⟨_,(@au _ _ _ _ _ (ji (aM zdh_ (hr.mono (by decide)) rfl (@aa _ _ _ _ _ (pv 0) (@aa _ _ _ _ _ ao ak (by rfl)) (by rfl))) (cL (n:=3) rfl (aO (aB (i:=1) sc_law.nd rfl (Or.inr rfl)) (aO (aB (i:=2) sc_law.nd rfl (Or.inr rfl)) (aO (aB (i:=3) sc_law.nd rfl (Or.inr rfl)) bV))))) (@au _ _ _ _ _ (aV (i:=4) sc_law.nd rfl (Or.inl rfl) (aM zN_ (hr.mono (by decide)) rfl (@aa _ _ _ _ _ (pv 2) (@aa _ _ _ _ _ (pv 3) ak (by rfl)) (by rfl)))) (@au _ _ _ _ _ (eY (i:=5) sc_law.nd rfl rfl (own:=["_law_k"]) (fnames:=["_law_script","_law_days","_law_hands"]) (fr:=[0,1,2]) (N':=["_law_k","_law_script","_law_days","_law_hands"]) ⟨rfl,rfl,rfl,rfl,rfl,rfl,rfl⟩ rfl (bM rfl T.range (@aa _ _ _ _ _ (@aD _ _ _ _ _ _ _ _ bj ao (@aD _ _ _ _ _ _ _ _ bu (aM za_ (hr.mono (by decide)) rfl (@aa _ _ _ _ _ (pv 0) (@aa _ _ _ _ _ ao ak (by rfl)) (by rfl))) ao)) ak (by rfl))) (fun s0 H0 fp0 C0=>⟨(aB (i:=0) (by show (["_law_k","_law_script","_law_days","_law_hands"]:List Str).Nodup;decide +kernel) rfl (Or.inl rfl)),cu,(aM zdj_ (hr.mono (by decide)) rfl (@aa _ _ _ _ _ (pv 1) (@aa _ _ _ _ _ (@aD _ _ _ _ _ _ _ _ bj ao (@aD _ _ _ _ _ _ _ _ cZ ao (pv 0))) (@aa _ _ _ _ _ (pv 2) (@aa _ _ _ _ _ (bx (bC (K:=K) rfl) (by rfl) T.len PySem.boot_len (@aa _ _ _ _ _ (pv 3) ak (by rfl))) ak (by rfl)) (by rfl)) (by rfl)) (by rfl)))⟩)) (@au _ _ _ _ _ (eY (i:=6) sc_law.nd rfl rfl (own:=["_law_spec_here"]) (fnames:=["_law_days","_law_hands","_law_posts"]) (fr:=[1,2,3]) (N':=["_law_spec_here","_law_days","_law_hands","_law_posts"]) ⟨rfl,rfl,rfl,rfl,rfl,rfl,rfl⟩ rfl (bQ (pv 5)) (fun s0 H0 fp0 C0=>⟨(aB (i:=0) (by show (["_law_spec_here","_law_days","_law_hands","_law_posts"]:List Str).Nodup;decide +kernel) rfl (Or.inl rfl)),cu,(aM zcT_ (hr.mono (by decide)) rfl (@aa _ _ _ _ _ (pv 0) (@aa _ _ _ _ _ (pv 1) (@aa _ _ _ _ _ (bx (bC (K:=K) rfl) (by rfl) T.len PySem.boot_len (@aa _ _ _ _ _ (pv 2) ak (by rfl))) (@aa _ _ _ _ _ (pv 3) ak (by rfl)) (by rfl)) (by rfl)) (by rfl)))⟩)) (@au _ _ _ _ _ (aV (i:=7) sc_law.nd rfl (Or.inl rfl) (dG zeG_ (hr.mono (by decide)) rfl (@aa _ _ _ _ _ (dG I_Ward (hr.mono (by decide)) rfl (@aa _ _ _ _ _ (pv 1) (@aa _ _ _ _ _ (pv 2) (@aa _ _ _ _ _ (pv 3) ak (by rfl)) (by rfl)) (by rfl))) (@aa _ _ _ _ _ (cB (own:=["_law_spec_here"]) (fnames:=["_law_posts"]) (fr:=[3]) (N':=["_law_spec_here","_law_posts"]) ⟨rfl,rfl,rfl,rfl,rfl,rfl,rfl⟩ rfl (bQ (pv 5)) (fun s0 H0 fp0 C0=>⟨(aB (i:=0) (by show (["_law_spec_here","_law_posts"]:List Str).Nodup;decide +kernel) rfl (Or.inl rfl)),cu,(aM zdk_ (hr.mono (by decide)) rfl (@aa _ _ _ _ _ (pv 0) (@aa _ _ _ _ _ (pv 1) ak (by rfl)) (by rfl)))⟩)) ak (by rfl)) (by rfl)))) (@au _ _ _ _ _ (ji (aM zdi_ (hr.mono (by decide)) rfl (@aa _ _ _ _ _ (pv 0) (@aa _ _ _ _ _ (pv 6) (@aa _ _ _ _ _ (pv 4) (@aa _ _ _ _ _ (pv 1) ak (by rfl)) (by rfl)) (by rfl)) (by rfl))) (cL (n:=2) rfl (aO (aB (i:=8) sc_law.nd rfl (Or.inl rfl)) (aO (aB (i:=9) sc_law.nd rfl (Or.inl rfl)) bV)))) (@au _ _ _ _ _ (aV (i:=10) sc_law.nd rfl (Or.inl rfl) (bG (rC (K:=K) rfl) (by rfl) T.list PyProof.Rows.boot_list (@aa _ _ _ _ _ (pv 8) ak (by rfl)))) (@au _ _ _ _ _ (aV (i:=11) sc_law.nd rfl (Or.inl rfl) (aM C_left (hr.mono (by decide)) rfl (@aa _ _ _ _ _ (pv 7) (@aa _ _ _ _ _ (pv 10) ak (by rfl)) (by rfl)))) (@au _ _ _ _ _ (@bF _ _ _ _ _ _ _ _ (@aQ _ _ _ _ _ _ _ _ nF (pv 9) dm (aR _)) (@az _ _ _ (@bF _ _ _ _ _ _ _ _ (@aQ _ _ _ _ _ _ _ _ nG (pv 11) dm (aR _)) (@az _ _ _ (@aK _ _ _ _ oZ)) aX)) (@az _ _ _ (@bF _ _ _ _ _ _ _ _ (PW.pt (dR (fZ (dM (bx o7 (by rfl) T.isinstance PyProof.Rows.boot_isinstance (@aa _ _ _ _ _ (pv 11) (@aa _ _ _ _ _ (nj (v:=.ty "list") rfl T.list PyProof.Rows.boot_list rfl) ak (by rfl)) (by rfl))))) (dR (@aQ _ _ _ _ _ _ _ _ (Ek hr) (pv 11) (pv 9) (aR _)) (dN (@aQ _ _ _ _ _ _ _ _ (yU hr) (cB (own:=["_law_one"]) (fnames:=[]) (fr:=[]) (N':=["_law_one"]) ⟨rfl,rfl,rfl,rfl,rfl,rfl,rfl⟩ rfl (bQ (pv 11)) (fun s0 H0 fp0 C0=>⟨(aB (i:=0) (by show (["_law_one"]:List Str).Nodup;decide +kernel) rfl (Or.inl rfl)),(fL (fZ (dM (bx yf (by rfl) T.isinstance PyProof.Rows.boot_isinstance (@aa _ _ _ _ _ (pv 0) (@aa _ _ _ _ _ (nj (v:=.ty "dict") rfl T.dict PyProof.Rows.boot_dict rfl) ak (by rfl)) (by rfl)))))),(pv 0)⟩)) (@bw _ _ _ _ ak) (aR _)))))) (@az _ _ _ (@aK _ _ _ _ oZ)) aX))) (@au _ _ _ _ _ (@bF _ _ _ _ _ _ _ _ (PW.pt (dR (fZ (dM (aM zcU_ (hr.mono (by decide)) rfl (@aa _ _ _ _ _ (aM zds_ (hr.mono (by decide)) rfl (@aa _ _ _ _ _ (pv 7) (@aa _ _ _ _ _ (pv 10) ak (by rfl)) (by rfl))) (@aa _ _ _ _ _ (cX (jx hr) (pv 9) (@bw _ _ _ _ ak) (aR _)) ak (by rfl)) (by rfl))))) (dN (@aQ _ _ _ _ _ _ _ _ (El hr) (pv 10) (pv 8) (aR _))))) (@az _ _ _ (@aK _ _ _ _ oZ)) aX) (@au _ _ _ _ _ (@bF _ _ _ _ _ _ _ _ (PW.pt (jO (@aQ _ _ _ _ _ _ _ _ nG (pv 9) dm (aR _)) (iG (@aQ _ _ _ _ _ _ _ _ (yU hr) (pv 9) (@bw _ _ _ _ ak) (aR _))))) (@au _ _ _ _ _ (iU (dU hr) (@bc _ _ _ _ _ _ _ cD (pv 11) ao (fun _ _=>rfl)) (@aP _ _ _ _ _ (@aa _ _ _ _ _ ao (@aa _ _ _ _ _ ao ak (by rfl)) (by rfl))) (@cW _ _ _ _ _ _ cz ao) rfl) (@az _ _ _ (bY (qW PySem.F.plainAttrs_list PySem.F.slot_list_clear PySem.F.type_list_clear xG (pv 11))))) aX) (@az _ _ _ (@aK _ _ _ _ (cX (Ej hr) (aM C_left (hr.mono (by decide)) rfl (@aa _ _ _ _ _ (pv 7) (@aa _ _ _ _ _ (pv 10) ak (by rfl)) (by rfl))) (pv 9) (aR _))))))))))))))),?_⟩
  refine aA fun U1 u1=>?_
  walk_at "rd"
  refine⟨a,ns,_,rfl,hS,hn,fun t ha pa d hs ts ps H1 g1 et eh ep hP okw h3 p1 p3 d4=>⟨_,rfl,_,SqT.of et,rfl,_,_,rfl,_,_,rfl,_,_,rfl,rfl,?_⟩⟩
  have hpl:=hP.len
  have d1:=okw.d1
  have d2:=okw.d2
  clear et
  rw [u1];clear u1
  refine aA fun U1 u1=>?_
  walk_at "rd"
  refine⟨ha,pa,hs,ts,ps,rfl,eh,ep,hP,by omega,by omega,okw.h,okw.p,fun o uo H2 g2 ho eo hRo=>?_⟩
  have G2:=g1.trans g2
  replace eh:=g2 _ _ eh
  replace ep:=g2 _ _ ep
  replace hP:=hP.mono g2
  clear g1 g2 ho
  rw [u1];clear u1
  refine aA fun U1 u1=>?_
  walk_at "rd"
  refine⟨a,ns,_,rfl,G2.seq hS,hn,by decide,by decide,fun v v0 v1=>⟨v,rfl,by decide,by omega,by omega,fun D hD=>bH (fun i σ H'=>SpcI H2 D (jr d hs.length ps.length) i H'∧∃v0,σ=[v0,some (.ref a),some (.int d),some (.ref ha)]) ⟨SpcI.start hD,none,rfl⟩ ?_ ?_⟩⟩
  ·rintro i σ H' hi ⟨sI,v0,rfl⟩
   rw [show (0 + (i:Int))=i by omega]
   walk_at "rd"
   refine⟨.inl ⟨by decide,by decide⟩,_,.inl (SqL.of (sI.same _ _ eh)),a,ns,_,d,hs.length,by rw [List.length_map],(G2.trans sI.same).seq hS,hn,by omega,by omega,d1,d2,by omega,fun t' s' H2 g2 et' ok'=>?_⟩
   exact sI.step hD (by omega) g2 et' (ok' _ (by omega))
  rintro σ H3 ⟨sI,v0,rfl⟩
  obtain⟨us,ss,sl,g3,eD,hSp,okS⟩:=sI.ex
  have sl1:1≤ss.length:=by omega
  have sl6:ss.length≤6:=by omega
  have G3:=G2.trans g3
  replace eh:=g3 _ _ eh
  replace ep:=g3 _ _ ep
  replace eo:=g3 _ _ eo
  replace hP:=hP.mono g3
  replace hRo:=hRo.mono g3
  have hul:=Paired.length hSp
  clear sI sl G2 g3 hD
  rw [u1];clear u1
  refine aA fun U1 u1=>?_
  walk_at "rd"
  refine⟨⟨_,SqL.of eD⟩,fun TL hTL=>bB (xs:=us) (fun i σ H'=>TolI H3 TL (ss.map (fH d.toNat hs.length ps)) i H'∧∃v0,σ=[v0,some (.int d),some (.ref ha),some (.ref pa)]) ⟨TolI.start hTL,none,rfl⟩ (fun i σ H' _ hh=>SqL.of (hh.1.same _ _ eD)) ?_ ?_⟩
  ·rintro i v σ H' hx ⟨tI,v0,rfl⟩
   obtain⟨s,hs0,ts0,rfl,qs0⟩:=Paired.get' hSp hx
   have hi:=(List.getElem?_eq_some_iff.mp hs0).1
   have g:=tI.same
   walk_at "rd"
   refine⟨_,.inl (SqL.of (g _ _ eh)),ts0,pa,d,s,hs.length,ts,ps,by rw [List.length_map],g _ _ qs0,g _ _ ep,hP.mono g,d1,d2,by omega,p3,okS s (List.mem_of_getElem? hs0),fun r ul H4 g4 hr er hL=>?_⟩
   exact tI.step hTL (by omega) (by rw [List.getElem?_map,hs0];rfl) g4 hr er hL
  rintro σ H4 ⟨tI,v0,rfl⟩
  rw [hul,show ss.length=(ss.map (fH d.toNat hs.length ps)).length from (List.length_map ..).symm] at tI
  obtain⟨vt,g4,eTL,hTo⟩:=tI.done
  have G4:=G3.trans g4
  replace eh:=g4 _ _ eh
  replace ep:=g4 _ _ ep
  replace eo:=g4 _ _ eo
  replace eD:=g4 _ _ eD
  replace hP:=hP.mono g4
  replace hRo:=hRo.mono g4
  replace hSp:=Spcs.tmono (aF g4) hSp
  clear tI G3 g4 hTL
  rw [u1];clear u1
  refine aA fun U1 u1=>?_
  walk_at "rd"
  intro y dy hy hdy ny
  have s0:Same H4 (upd (upd H4 dy (.own y)) y (.ins ζ.a dy [])):=fun b o hb=>by
   rw [aG (aH hb hy),aG (aH hb hdy)]
   exact hb
  refine⟨y,dy,ha,pa,d,hs,ts,ps,rfl,aj,SqL.of (s0 _ _ eh),SqL.of (s0 _ _ ep),hP.mono s0,okw,fun H5 fr hW=>⟨rfl,?_⟩⟩
  have g5:Same H4 H5:=fun b o hb=>fr b o (s0 b o hb) (aH hb hy)
  clear fr s0 hy hdy ny
  have eD5:=g5 _ _ eD
  have hSp5:=Spcs.tmono (aF g5) hSp
  refine⟨⟨_,SqL.of eD5⟩,fun R hR0=>bB (xs:=us) (fun i σ H'=>RulI (clsOf ζ.c ζ.d ζ.e ζ.g ζ.i ζ.f ζ.h) ps.length H5 R ss i H'∧∃v0,σ=[v0,some (.ref pa)]) ⟨RulI.start hR0,none,rfl⟩ (fun i σ H' _ hh=>SqL.of (hh.1.same _ _ eD5)) ?_ ?_⟩
  ·rintro i v σ H' hx ⟨rI,v0,rfl⟩
   obtain⟨s,hs0,ts0,rfl,qs0⟩:=Paired.get' hSp5 hx
   have hi:=(List.getElem?_eq_some_iff.mp hs0).1
   walk_at "rd"
   refine⟨ts0,pa,s,ts,rfl,rI.same _ _ qs0,(okS s (List.mem_of_getElem? hs0)).k6,(g5.trans rI.same) _ _ ep,by omega,fun x H4 g4 hx4 hr4=>?_⟩
   rw [hpl] at hr4
   exact rI.step hR0 (by omega) hs0 g4 hr4
  rintro σ H6 ⟨rI,v0,rfl⟩
  obtain⟨ur,g6,eR,hRu⟩:=rI.ex
  rw [hul,List.take_length] at hRu
  intro x dx hx hdx nx
  have s0:Same H6 (upd (upd H6 dx (.own x)) x (.ins ζ.b dx [])):=fun b o hb=>by
   rw [aG (aH hb hx),aG (aH hb hdx)]
   exact hb
  refine⟨x,dx,y,R,d,hs,ps,ur,ss,rfl,aj,hW.mono (g6.trans s0),okw,s0 _ _ eR,Ruls.mono s0 hRu,okS,by omega,fun H7 fr hT=>⟨rfl,?_⟩⟩
  have g7:Same H6 H7:=fun b o hb=>fr b o (s0 b o hb) (aH hb hx)
  have gg:=g5.trans (g6.trans g7)
  have G7:=G4.trans gg
  replace eo:=gg _ _ eo
  replace hRo:=hRo.mono gg
  replace eTL:=gg _ _ eTL
  replace hTo:=hTo.mono gg
  clear fr s0 hx hdx nx rI g5 g6 g7 eD eD5 hSp hSp5 eR hRu hW G4 hR0 eh ep hP gg
  have hfin:∀ls∈ss.map (cI d.toNat hs.length ps),qm hs.length d.toNat (ps.length + 1) ls:=fun ls hls=>by
   obtain⟨s,hs0,rfl⟩:=List.mem_map.mp hls
   exact m5 (okS s hs0) d1 (by omega) (by omega) (by omega)
  have hlen:∀ls∈ss.map (fH d.toNat hs.length ps),ls.length≤40∧∀ℓ∈ls,ℓ.ps.length≤100:=fun ls hls=>by
   obtain⟨s,hs0,rfl⟩:=List.mem_map.mp hls
   exact Be (okS s hs0) d1 (by omega) (by omega) (by omega)
  have alk:(ss.map (fH d.toNat hs.length ps)).map (·.map eV)=(ss.map (cI d.toNat hs.length ps)).map (·.map eV):=by
   rw [List.map_map,List.map_map]
   exact List.map_congr_left fun s hs0=>yK d.toNat hs.length ps fun k=>((okS s hs0).c4 k).1
  have ll1:1≤(ss.map (fH d.toNat hs.length ps)).length:=by rw [List.length_map];omega
  have ll6:(ss.map (fH d.toNat hs.length ps)).length≤6:=by rw [List.length_map];omega
  generalize ss.map (fH d.toNat hs.length ps)=lls at hTo hlen alk ll1 ll6
  generalize ss.map (cI d.toNat hs.length ps)=sums at hT hfin alk
  have hrl:(hs.map fun h=>ch h ps).length=hs.length:=List.length_map ..
  have r9:∀r∈hs.map (fun h=>ch h ps),0 < r.length∧r.length≤9:=fun r hr=>by
   obtain⟨h,_,rfl⟩:=List.mem_map.mp hr
   have:=j5 h ps
   exact⟨Nat.succ_pos _,by omega⟩
  obtain⟨D0,hD0⟩:∃D0:Nat,d=(D0:Int):=⟨d.toNat,by omega⟩
  subst hD0
  have D31:D0≤31:=by omega
  clear hul okS sl1 sl6
  rw [u1];clear u1
  refine aA fun U1 u1=>?_
  walk_at "rd"
  refine⟨a,TL,o,ns,D0,vt,uo,lls,_,rfl,G7.seq hS,hn,eTL,hTo,ll1,ll6,hlen,eo,hRo,r9,by rw [hrl];omega,by omega,D31,fun t pp cv up sts H8 g8 et epp hSt hus hs20 hcv=>⟨_,rfl,_,SqT.of et,rfl,_,_,rfl,_,_,rfl,rfl,?_⟩⟩
  rw [rZ alk] at hcv
  replace hT:=hT.mono g8
  clear et eTL hTo eo hRo alk ll1 ll6 hlen r9 G7
  rw [u1];clear u1
  refine aA fun U1 u1=>?_
  walk_at "rd"
  refine⟨_,.inl (SqL.of epp),fun hd hhd=>?_⟩
  have gh:=same_new hhd (.lst up)
  have ehd:=aj (H:=H8) (a:=hd) (o:=.lst up)
  replace epp:=gh _ _ epp
  replace hSt:=Stps.tmono (aF gh) hSt
  replace hT:=hT.mono gh
  replace hcv:(cV (iD sums hs ps (D0:Int)) sts=none∧cv=.non)∨∃cl us cs,cv=.ref cl∧upd H8 hd (.lst up) cl=some (.lst us)∧Dcts (upd H8 hd (.lst up)) us cs∧cV (iD sums hs ps (D0:Int)) sts=some cs:=by
   rcases hcv with h | ⟨cl,us,cs,h1,h2,h3,h4⟩
   ·exact .inl h
   ·exact .inr ⟨cl,us,cs,h1,gh _ _ h2,Dcts.mono gh h3,h4⟩
  clear gh hhd
  generalize upd H8 hd (.lst up)=H9 at ehd epp hSt hT hcv ⊢
  have hrf:=hSt.refs
  rw [u1];clear u1
  refine aA fun U1 u1=>?_
  walk_at "rd"
  refine⟨x,hd,(D0:Int),hs,ps,sums,up,sts,rfl,hT,okw,hfin,ehd,hSt,hus,hs20,(fun hz H10 g10=>?_),fun cs hz r ur H10 g10 hr er hDr hok hfr=>?_⟩
  ·obtain rfl:cv=.non:=by
    rcases hcv with h | ⟨cl,us,cs,h1,h2,h3,h4⟩
    ·exact h.2
    ·rw [hz] at h4;cases h4
   clear hcv
   rw [u1];clear u1
   refine aA fun U1 u1=>?_
   walk_at "rd"
   rw [u1];clear u1
   replace ehd:=g10 _ _ ehd
   replace epp:=g10 _ _ epp
   replace hSt:=Stps.tmono (aF g10) hSt
   replace hT:=hT.mono g10
   refine aA fun U1 u1=>?_
   walk_at "rd"
   refine⟨x,hd,(D0:Int),hs,ps,sums,up,sts,rfl,hT,okw,hfin,ehd,hSt,hus,hs20,fun H11 g11=>?_⟩
   refine⟨Nat.zero_le _,fun e he=>?_⟩
   have ge:=same_new he (.lst [])
   have gg:=g11.trans ge
   refine⟨e,rfl,SqL.of aj,.inl ⟨rfl,?_⟩⟩
   rw [hz]
   refine⟨_,_,rfl,_,rfl,?_⟩
   rw [if_neg (by decide)]
   refine⟨hd,pp,up,rfl,rfl,SqL.of (gg _ _ ehd),SqL.of (gg _ _ epp),hrf,_,rfl,?_⟩
   rw [if_neg (by decide)]
   rw [u1];clear u1
   refine aA fun U1 u1=>?_
   walk_at "rd"
   rw [u1];clear u1
   walk_at "rd"
   refine⟨x,hd,(D0:Int),hs,ps,sums,up,sts,rfl,hT.mono gg,okw,hfin,gg _ _ ehd,Stps.tmono (aF gg) hSt,hus,hs20,(fun _ H13 g13=>⟨k _,.inl ⟨rfl,rfl⟩⟩),fun cs hz'=>?_⟩
   rw [hz] at hz'
   cases hz'
  ·obtain⟨cl,ud,rfl,ecl,hDd⟩:∃cl ud,cv=.ref cl∧H9 cl=some (.lst ud)∧Dcts H9 ud cs:=by
    rcases hcv with h | ⟨cl,us,cs',h1,h2,h3,h4⟩
    ·rw [hz] at h;cases h.1
    ·rw [hz] at h4
     cases h4
     exact⟨cl,us,h1,h2,h3⟩
   clear hcv
   have ecl9:=ecl
   have hDd9:=hDd
   have ehd9:=ehd
   have hSt9:=hSt
   have hT9:=hT
   rw [u1];clear u1
   refine aA fun U1 u1=>?_
   walk_at "rd"
   rw [if_neg (by simp)]
   refine⟨"list",.inl ⟨rfl,_,er⟩,?_⟩
   rw [if_neg (by decide)]
   replace ecl:=g10 _ _ ecl
   replace hDd:=Dcts.mono g10 hDd
   refine⟨r,cl,ur,ud,cs,rfl,rfl,SqL.of er,SqL.of ecl,hDr,hDd,_,rfl,?_⟩
   rw [if_neg (by decide)]
   refine⟨⟨_,SqL.of er⟩,fun E1 hE1=>bB (xs:=ur) (fun i σ H'=>Same H10 H'∧H' E1=some (.lst [])∧∃v0,σ=[v0]) ⟨same_new hE1 _,aj,none,rfl⟩ (fun i σ H' _ hh=>SqL.of (hh.1 _ _ er)) ?_ ?_⟩
   ·rintro i v σ H' hx ⟨g,e,v0,rfl⟩
    obtain⟨kv,hkv,dd,rfl,edd,_⟩:=Paired.get' hDr hx
    have edd':=g _ _ edd
    walk_at "rd"
    exact⟨_,edd',g,e⟩
   rintro σ H11 ⟨g11,eE,v0,rfl⟩
   refine⟨Nat.zero_le _,fun e he=>?_⟩
   have ge:=same_new he (.lst [])
   refine⟨E1,e,[],rfl,rfl,SqL.of (ge _ _ eE),SqL.of aj,_,rfl,?_⟩
   rw [if_neg (by simp)]
   have gg:=g11.trans ge
   replace ecl:=gg _ _ ecl
   replace hDd:=Dcts.mono gg hDd
   replace er:=gg _ _ er
   replace hDr:=Dcts.mono gg hDr
   have gH:=g10.trans gg
   replace ehd:=gH _ _ ehd
   replace epp:=gH _ _ epp
   replace hSt:=Stps.tmono (aF gH) hSt
   replace hT:=hT.mono gH
   have hr0:=hr
   clear gg ge he eE g11 hE1
   generalize upd H11 e (.lst [])=H12 at ecl hDd er hDr gH ehd epp hSt hT ⊢
   rw [u1];clear u1
   refine aA fun U1 u1=>?_
   walk_at "rd"
   refine⟨x,hd,(D0:Int),hs,ps,sums,up,sts,rfl,hT,okw,hfin,ehd,hSt,hus,hs20,fun H13 g13=>⟨Nat.zero_le _,fun e he=>?_⟩⟩
   have ge:=same_new he (.lst [])
   have gg:=g13.trans ge
   have hl2:=Paired.length hDd
   have e1:decide (ud=[])=za (some cs):=by
    cases ud with
    | nil =>
     cases cs with
     | nil=>rfl
     | cons=>cases hl2
    | cons =>
     cases cs with
     | nil=>cases hl2
     | cons=>rfl
   refine⟨e,rfl,SqL.of aj,.inr ⟨cl,ud,rfl,SqL.of (gg _ _ ecl),?_⟩⟩
   rw [hz,e1]
   refine⟨_,_,rfl,_,rfl,?_⟩
   rw [beq_self_eq_true,if_neg (by decide)]
   refine⟨hd,pp,up,rfl,rfl,SqL.of (gg _ _ ehd),SqL.of (gg _ _ epp),hrf,_,rfl,?_⟩
   rw [if_neg (by decide)]
   replace ecl:=gg _ _ ecl
   replace hDd:=Dcts.mono gg hDd
   replace er:=gg _ _ er
   replace hDr:=Dcts.mono gg hDr
   replace ehd:=gg _ _ ehd
   replace epp:=gg _ _ epp
   replace hSt:=Stps.tmono (aF gg) hSt
   replace hT:=hT.mono gg
   replace gH:=gH.trans gg
   clear gg ge he g13 e1
   generalize upd H13 e (.lst [])=H14 at ecl hDd er hDr gH ehd epp hSt hT ⊢
   rw [u1];clear u1
   refine aA fun U1 u1=>?_
   walk_at "rd"
   rw [if_pos (by simp)]
   refine⟨Nat.zero_le _,fun e he=>?_⟩
   have ge:=same_new he (.lst [])
   refine⟨cl,e,ud,rfl,rfl,SqL.of (ge _ _ ecl),SqL.of aj,_,rfl,?_⟩
   replace er:=ge _ _ er
   replace hDr:=Dcts.mono ge hDr
   replace gH:=gH.trans ge
   clear ge he
   generalize upd H14 e (.lst [])=H15 at er hDr gH ⊢
   by_cases z:ud=[]
   ·rw [if_neg (by simp [z])]
    rw [u1];clear u1
    walk_at "rd"
    refine⟨x,hd,(D0:Int),hs,ps,sums,up,sts,rfl,hT9.mono gH,okw,hfin,gH _ _ ehd9,Stps.tmono (aF gH) hSt9,hus,hs20,(fun hz'=>by rw [hz] at hz'; cases hz'),fun cs' hz' r2 ur2 H16 g16 hr2 er2 hDr2 hok2 hfr2=>?_⟩
    rw [hz] at hz'
    cases hz'
    have g9:=gH.trans g16
    exact⟨k _,.inr ⟨r2,cl,ur2,ud,cs,rfl,rfl,SqL.of er2,SqL.of (g9 _ _ ecl9),hDr2,Dcts.mono g9 hDd9⟩⟩
   ·rw [if_pos (by simp [z])]
    have hl1:=Paired.length hDr
    have hl2:=Paired.length hDd9
    have hl3:0 < ud.length:=List.length_pos_iff.mpr z
    obtain⟨v0,vr,c0,cr,e1,e2,w0⟩:∃v0 vr c0 cr,ur=v0 :: vr∧cs=c0 :: cr∧Io H15 v0 c0:=by
     cases hDr with
     | nil =>
      rw [List.length_nil] at hl1
      omega
     | cons w0 wr=>exact⟨_,_,_,_,rfl,rfl,w0⟩
    subst e1 e2
    obtain⟨dd,rfl,edd,pdd⟩:=w0
    have hdd0:H9 dd=none:=hfr dd (List.mem_cons_self ..)
    refine⟨_,SqL.of er,.ref dd,at0 _ _,by decide,fun p hp=>?_⟩
    have gp:=same_new hp (.tup [.int 0,.int 0])
    have c0l:=(hok.2 c0 (List.mem_cons_self ..)).2
    refine⟨dd,rfl,_,DPut.t (k:=k2 0 0) (gp _ _ edd) aj (aW (by omega)),?_⟩
    have ndr:r≠dd:=fun y=>by rw [← y,er] at edd;cases edd
    have er2:upd (upd H15 p (.tup [.int 0,.int 0])) dd (.dT (putK c0 (k2 0 0) (.int (-7)))) r=some (.lst (.ref dd :: vr)):=by
     rw [aG ndr]
     exact gp _ _ er
    refine⟨.inl ⟨rfl,_,SqL.of er2⟩,_,er2,?_⟩
    have gF:Same H9 (upd (upd (upd H15 p (.tup [.int 0,.int 0])) dd (.dT (putK c0 (k2 0 0) (.int (-7))))) r (.lst [])):=aY hr (aY hdd0 (gH.trans gp) _) _
    generalize upd (upd (upd H15 p (.tup [.int 0,.int 0])) dd (.dT (putK c0 (k2 0 0) (.int (-7))))) r (.lst [])=H16 at gF ⊢
    rw [u1];clear u1
    walk_at "rd"
    refine⟨x,hd,(D0:Int),hs,ps,sums,up,sts,rfl,hT9.mono gF,okw,hfin,gF _ _ ehd9,Stps.tmono (aF gF) hSt9,hus,hs20,(fun hz'=>by rw [hz] at hz'; cases hz'),fun cs' hz' r2 ur2 H17 g17 hr2 er3 hDr2 hok2 hfr2=>?_⟩
    rw [hz] at hz'
    cases hz'
    have g9:=gF.trans g17
    exact⟨k _,.inr ⟨r2,cl,ur2,ud,_,rfl,rfl,SqL.of er3,SqL.of (g9 _ _ ecl9),hDr2,Dcts.mono g9 hDd9⟩⟩
end
theorem fc {α:Type} {us:List α} (h:us.length=1):∃a0:α,us=[a0]:=match us,h with | [a0],_=>⟨a0,rfl⟩
theorem cC {α:Type} {us:List α} (h:us.length=2):∃a0 a1:α,us=[a0,a1]:=match us,h with | [a0,a1],_=>⟨a0,a1,rfl⟩
theorem fX {α:Type} {us:List α} (h:us.length=3):∃a0 a1 a2:α,us=[a0,a1,a2]:=match us,h with | [a0,a1,a2],_=>⟨a0,a1,a2,rfl⟩
theorem eX {α:Type} {us:List α} (h:us.length=4):∃a0 a1 a2 a3:α,us=[a0,a1,a2,a3]:=match us,h with | [a0,a1,a2,a3],_=>⟨a0,a1,a2,a3,rfl⟩
theorem CN {α:Type} {us:List α} (h:us.length=5):∃a0 a1 a2 a3 a4:α,us=[a0,a1,a2,a3,a4]:=match us,h with | [a0,a1,a2,a3,a4],_=>⟨a0,a1,a2,a3,a4,rfl⟩
theorem Iu {α:Type} {us:List α} (h:us.length=6):∃a0 a1 a2 a3 a4 a5:α,us=[a0,a1,a2,a3,a4,a5]:=match us,h with | [a0,a1,a2,a3,a4,a5],_=>⟨a0,a1,a2,a3,a4,a5,rfl⟩
theorem all_mk {l:PySem.W.OpenLaw} {w:World} {K:PySem.W.Frag} {h:Heap} {mg:Str→Option Value} {fa:Addr} (X:K.In h) (G:h.Ns mainGlobals mg) (hfa:mg "law" = some (.ref fa))
 {C_Ward:Addr}
 {zO_:Addr}
 {C_Want:Addr}
 {C_Most:Addr}
 {zl_:Addr}
 {zh_:Addr}
 {C_Away:Addr}
 {zo_:Addr}
 {zi_:Addr}
 {f1 f2 f3 f4 f5 f6 f7 f8 f9 f10 f11 f12 f13 f14 f15 f16 f17 f18 f19 f20 f21 f22 f23 f24 f25 f26 f27 f28 f29 f30 f31 f32 f33 f34 f35 f36 f37 f38 f39 f40 f41 f42 f43 f44 f45 f46 f47 f48 f49 f50 f51 f52 f53 f54 f55 f56 f57 f58 f59 f60 f61 f62 f63 f64 f65 f66 f67 f68 f69 f70 f71 f72 f73 f74 f75 f76 f77:Addr}{od1 an1 od2 an2 od3 an3 od4 an4 od5 an5 od6 an6 od7 an7 od8 an8 od9 an9 od10 an10 od11 an11 od12 an12 od13 an13 od14 an14 od15 an15 od16 an16 od17 an17 od18 an18 od19 an19 od20 an20 od21 an21 od22 an22 od23 an23 od24 an24 od25 an25 od26 an26 od27 an27 od28 an28 od29 an29 od30 an30 od31 an31 od32 an32 od33 an33 od34 an34 od35 an35 od36 an36 od37 an37 od38 an38 od39 an39 od40 an40 od41 an41 od42 an42 od43 an43 od44 an44 od45 an45 od46 an46 od47 an47 od48 an48 od49 an49 od50 an50 od51 an51 od52 an52 od53 an53 od54 an54 od55 an55 od56 an56 od57 an57 od58 an58 od59 an59 od60 an60 od61 an61 od62 an62 od63 an63 od64 an64 od65 an65 od66 an66 od67 an67 od68 an68 od69 an69 od70 an70 od71 an71 od72 an72 od73 an73 od74 an74 od75 an75 od76 an76 od77 an77:Option Addr}{sl1 sl2 sl3 sl4 sl5 sl6 sl7 sl8 sl9 sl10 sl11 sl12 sl13 sl14 sl15 sl16 sl17 sl18 sl19 sl20 sl21 sl22 sl23 sl24 sl25 sl26 sl27 sl28 sl29 sl30 sl31 sl32 sl33 sl34 sl35 sl36 sl37 sl38 sl39 sl40 sl41 sl42 sl43 sl44 sl45 sl46 sl47 sl48 sl49 sl50 sl51 sl52 sl53 sl54 sl55 sl56 sl57 sl58 sl59 sl60 sl61 sl62 sl63 sl64 sl65 sl66 sl67 sl68 sl69 sl70 sl71 sl72 sl73 sl74 sl75 sl76 sl77:Array (Option Value)}{oc1 kV1 dc1 pm1 cd1 ct1 oc2 kV2 dc2 pm2 cd2 ct2 oc3 kV3 dc3 pm3 cd3 ct3 oc4 kV4 dc4 pm4 cd4 ct4 oc5 kV5 dc5 pm5 cd5 ct5 oc6 kV6 dc6 pm6 cd6 ct6 oc7 kV7 dc7 pm7 cd7 ct7 oc8 kV8 dc8 pm8 cd8 ct8 oc9 kV9 dc9 pm9 cd9 ct9 oc10 kV10 dc10 pm10 cd10 ct10 oc11 kV11 dc11 pm11 cd11 ct11 oc12 kV12 dc12 pm12 cd12 ct12 oc13 kV13 dc13 pm13 cd13 ct13 oc14 kV14 dc14 pm14 cd14 ct14 oc15 kV15 dc15 pm15 cd15 ct15 oc16 kV16 dc16 pm16 cd16 ct16 oc17 kV17 dc17 pm17 cd17 ct17 oc18 kV18 dc18 pm18 cd18 ct18 oc19 kV19 dc19 pm19 cd19 ct19 oc20 kV20 dc20 pm20 cd20 ct20 oc21 kV21 dc21 pm21 cd21 ct21 oc22 kV22 dc22 pm22 cd22 ct22 oc23 kV23 dc23 pm23 cd23 ct23 oc24 kV24 dc24 pm24 cd24 ct24 oc25 kV25 dc25 pm25 cd25 ct25 oc26 kV26 dc26 pm26 cd26 ct26 oc27 kV27 dc27 pm27 cd27 ct27 oc28 kV28 dc28 pm28 cd28 ct28 oc29 kV29 dc29 pm29 cd29 ct29 oc30 kV30 dc30 pm30 cd30 ct30 oc31 kV31 dc31 pm31 cd31 ct31 oc32 kV32 dc32 pm32 cd32 ct32 oc33 kV33 dc33 pm33 cd33 ct33 oc34 kV34 dc34 pm34 cd34 ct34 oc35 kV35 dc35 pm35 cd35 ct35 oc36 kV36 dc36 pm36 cd36 ct36 oc37 kV37 dc37 pm37 cd37 ct37 oc38 kV38 dc38 pm38 cd38 ct38 oc39 kV39 dc39 pm39 cd39 ct39 oc40 kV40 dc40 pm40 cd40 ct40 oc41 kV41 dc41 pm41 cd41 ct41 oc42 kV42 dc42 pm42 cd42 ct42 oc43 kV43 dc43 pm43 cd43 ct43 oc44 kV44 dc44 pm44 cd44 ct44 oc45 kV45 dc45 pm45 cd45 ct45 oc46 kV46 dc46 pm46 cd46 ct46 oc47 kV47 dc47 pm47 cd47 ct47 oc48 kV48 dc48 pm48 cd48 ct48 oc49 kV49 dc49 pm49 cd49 ct49 oc50 kV50 dc50 pm50 cd50 ct50 oc51 kV51 dc51 pm51 cd51 ct51 oc52 kV52 dc52 pm52 cd52 ct52 oc53 kV53 dc53 pm53 cd53 ct53 oc54 kV54 dc54 pm54 cd54 ct54 oc55 kV55 dc55 pm55 cd55 ct55 oc56 kV56 dc56 pm56 cd56 ct56 oc57 kV57 dc57 pm57 cd57 ct57 oc58 kV58 dc58 pm58 cd58 ct58 oc59 kV59 dc59 pm59 cd59 ct59 oc60 kV60 dc60 pm60 cd60 ct60 oc61 kV61 dc61 pm61 cd61 ct61 oc62 kV62 dc62 pm62 cd62 ct62 oc63 kV63 dc63 pm63 cd63 ct63 oc64 kV64 dc64 pm64 cd64 ct64 oc65 kV65 dc65 pm65 cd65 ct65 oc66 kV66 dc66 pm66 cd66 ct66 oc67 kV67 dc67 pm67 cd67 ct67 oc68 kV68 dc68 pm68 cd68 ct68 oc69 kV69 dc69 pm69 cd69 ct69 oc70 kV70 dc70 pm70 cd70 ct70 oc71 kV71 dc71 pm71 cd71 ct71 oc72 kV72 dc72 pm72 cd72 ct72 oc73 kV73 dc73 pm73 cd73 ct73 oc74 kV74 dc74 pm74 cd74 ct74 oc75 kV75 dc75 pm75 cd75 ct75 oc76 kV76 dc76 pm76 cd76 ct76 oc77 kV77 dc77 pm77 cd77 ct77:Value}
 {gt1:Tok}
 {gt2:Tok}
 {gt3:Tok}
 {gt4:Tok}
 {gt5:Tok}
 (aC_Ward:PySem.W.nsIn K mainGlobals "Ward" = some (some (.ref C_Ward)))
 (pg_Ward:plainGet K C_Ward Str.empty=true)
 (hd_Ward:hasDictIn K C_Ward=true)
 (po_Ward:plainOver K C_Ward=true)
 (sa_Ward:findIn K (.ref C_Ward) "__setattr__" = some (some (.builtin "object.__setattr__")))
 (mk_Ward:makesIn K C_Ward=true)
 (kc_Ward:keepIn K (.ref C_Ward)=true)
 (f_days_Ward:findIn K (.ref C_Ward) "days" = some none)
 (f_hands_Ward:findIn K (.ref C_Ward) "hands" = some none)
 (f_posts_Ward:findIn K (.ref C_Ward) "posts" = some none)
 (aC_Terms:PySem.W.nsIn K mainGlobals "Terms" = some (some (.ref zO_)))
 (pg_Terms:plainGet K zO_ Str.empty=true)
 (hd_Terms:hasDictIn K zO_=true)
 (po_Terms:plainOver K zO_=true)
 (sa_Terms:findIn K (.ref zO_) "__setattr__" = some (some (.builtin "object.__setattr__")))
 (mk_Terms:makesIn K zO_=true)
 (kc_Terms:keepIn K (.ref zO_)=true)
 (f_ward_Terms:findIn K (.ref zO_) "ward" = some none)
 (f_rules_Terms:findIn K (.ref zO_) "rules" = some none)
 (f_sums_Terms:findIn K (.ref zO_) "sums" = some none)
 (aC_Want:PySem.W.nsIn K mainGlobals "Want" = some (some (.ref C_Want)))
 (pg_Want:plainGet K C_Want Str.empty=true)
 (hd_Want:hasDictIn K C_Want=true)
 (po_Want:plainOver K C_Want=true)
 (sa_Want:findIn K (.ref C_Want) "__setattr__" = some (some (.builtin "object.__setattr__")))
 (mk_Want:makesIn K C_Want=true)
 (kc_Want:keepIn K (.ref C_Want)=true)
 (f_day_Want:findIn K (.ref C_Want) "day" = some none)
 (f_post_Want:findIn K (.ref C_Want) "post" = some none)
 (f_many_Want:findIn K (.ref C_Want) "many" = some none)
 (aC_Most:PySem.W.nsIn K mainGlobals "Most" = some (some (.ref C_Most)))
 (pg_Most:plainGet K C_Most Str.empty=true)
 (hd_Most:hasDictIn K C_Most=true)
 (po_Most:plainOver K C_Most=true)
 (sa_Most:findIn K (.ref C_Most) "__setattr__" = some (some (.builtin "object.__setattr__")))
 (mk_Most:makesIn K C_Most=true)
 (kc_Most:keepIn K (.ref C_Most)=true)
 (f_hand_Most:findIn K (.ref C_Most) "hand" = some none)
 (f_days_Most:findIn K (.ref C_Most) "days" = some none)
 (f_many_Most:findIn K (.ref C_Most) "many" = some none)
 (aC_Least:PySem.W.nsIn K mainGlobals "Least" = some (some (.ref zl_)))
 (pg_Least:plainGet K zl_ Str.empty=true)
 (hd_Least:hasDictIn K zl_=true)
 (po_Least:plainOver K zl_=true)
 (sa_Least:findIn K (.ref zl_) "__setattr__" = some (some (.builtin "object.__setattr__")))
 (mk_Least:makesIn K zl_=true)
 (kc_Least:keepIn K (.ref zl_)=true)
 (f_hand_Least:findIn K (.ref zl_) "hand" = some none)
 (f_days_Least:findIn K (.ref zl_) "days" = some none)
 (f_many_Least:findIn K (.ref zl_) "many" = some none)
 (aC_Hours:PySem.W.nsIn K mainGlobals "Hours" = some (some (.ref zh_)))
 (pg_Hours:plainGet K zh_ Str.empty=true)
 (hd_Hours:hasDictIn K zh_=true)
 (po_Hours:plainOver K zh_=true)
 (sa_Hours:findIn K (.ref zh_) "__setattr__" = some (some (.builtin "object.__setattr__")))
 (mk_Hours:makesIn K zh_=true)
 (kc_Hours:keepIn K (.ref zh_)=true)
 (f_hand_Hours:findIn K (.ref zh_) "hand" = some none)
 (f_least_Hours:findIn K (.ref zh_) "least" = some none)
 (f_most_Hours:findIn K (.ref zh_) "most" = some none)
 (aC_Away:PySem.W.nsIn K mainGlobals "Away" = some (some (.ref C_Away)))
 (pg_Away:plainGet K C_Away Str.empty=true)
 (hd_Away:hasDictIn K C_Away=true)
 (po_Away:plainOver K C_Away=true)
 (sa_Away:findIn K (.ref C_Away) "__setattr__" = some (some (.builtin "object.__setattr__")))
 (mk_Away:makesIn K C_Away=true)
 (kc_Away:keepIn K (.ref C_Away)=true)
 (f_hand_Away:findIn K (.ref C_Away) "hand" = some none)
 (f_days_Away:findIn K (.ref C_Away) "days" = some none)
 (aC_Apart:PySem.W.nsIn K mainGlobals "Apart" = some (some (.ref zo_)))
 (pg_Apart:plainGet K zo_ Str.empty=true)
 (hd_Apart:hasDictIn K zo_=true)
 (po_Apart:plainOver K zo_=true)
 (sa_Apart:findIn K (.ref zo_) "__setattr__" = some (some (.builtin "object.__setattr__")))
 (mk_Apart:makesIn K zo_=true)
 (kc_Apart:keepIn K (.ref zo_)=true)
 (f_hand_Apart:findIn K (.ref zo_) "hand" = some none)
 (f_other_Apart:findIn K (.ref zo_) "other" = some none)
 (aC_Nights:PySem.W.nsIn K mainGlobals "Nights" = some (some (.ref zi_)))
 (pg_Nights:plainGet K zi_ Str.empty=true)
 (hd_Nights:hasDictIn K zi_=true)
 (po_Nights:plainOver K zi_=true)
 (sa_Nights:findIn K (.ref zi_) "__setattr__" = some (some (.builtin "object.__setattr__")))
 (mk_Nights:makesIn K zi_=true)
 (kc_Nights:keepIn K (.ref zi_)=true)
 (f_hand_Nights:findIn K (.ref zi_) "hand" = some none)
 (f_many_Nights:findIn K (.ref zi_) "many" = some none)
 (a1:PySem.W.nsIn K mainGlobals "has_day" = some (some (.ref f1)))
 (l1:K.lookup f1=some ⟨oc1,od1,.func (PySem.W.fnOf "has_day" "has_day" (aL vH) (aJ vH) (aq vH) .none kV1 dc1 pm1 an1 cd1 ct1),sl1⟩) (c1:PySem.W.codeIn K cd1 "has_day" = true) (k1:keepIn K (.ref f1)=true)
 (a2:PySem.W.nsIn K mainGlobals "has_post" = some (some (.ref f2)))
 (l2:K.lookup f2=some ⟨oc2,od2,.func (PySem.W.fnOf "has_post" "has_post" (aL vI) (aJ vI) (aq vI) .none kV2 dc2 pm2 an2 cd2 ct2),sl2⟩) (c2:PySem.W.codeIn K cd2 "has_post" = true) (k2:keepIn K (.ref f2)=true)
 (a3:PySem.W.nsIn K mainGlobals "is_many" = some (some (.ref f3)))
 (l3:K.lookup f3=some ⟨oc3,od3,.func (PySem.W.fnOf "is_many" "is_many" (aL vJ) (aJ vJ) (aq vJ) .none kV3 dc3 pm3 an3 cd3 ct3),sl3⟩) (c3:PySem.W.codeIn K cd3 "is_many" = true) (k3:keepIn K (.ref f3)=true)
 (a4:findIn K (.ref C_Want) "fits" = some (some (.ref f4))) (i4:isFn K (.ref f4)=true)
 (l4:K.lookup f4=some ⟨oc4,od4,.func (PySem.W.fnOf "fits" "Want.fits" (aL vp) (aJ vp) (aq vp) .none kV4 dc4 pm4 an4 cd4 ct4),sl4⟩) (c4:PySem.W.codeIn K cd4 "Want.fits" = true) (k4:keepIn K (.ref f4)=true)
 (a5:PySem.W.nsIn K mainGlobals "has_hand" = some (some (.ref f5)))
 (l5:K.lookup f5=some ⟨oc5,od5,.func (PySem.W.fnOf "has_hand" "has_hand" (aL vG) (aJ vG) (aq vG) .none kV5 dc5 pm5 an5 cd5 ct5),sl5⟩) (c5:PySem.W.codeIn K cd5 "has_hand" = true) (k5:keepIn K (.ref f5)=true)
 (a6:PySem.W.nsIn K mainGlobals "is_days" = some (some (.ref f6)))
 (l6:K.lookup f6=some ⟨oc6,od6,.func (PySem.W.fnOf "is_days" "is_days" (aL vK) (aJ vK) (aq vK) .none kV6 dc6 pm6 an6 cd6 ct6),sl6⟩) (c6:PySem.W.codeIn K cd6 "is_days" = true) (k6:keepIn K (.ref f6)=true)
 (a7:findIn K (.ref C_Most) "fits" = some (some (.ref f7))) (i7:isFn K (.ref f7)=true)
 (l7:K.lookup f7=some ⟨oc7,od7,.func (PySem.W.fnOf "fits" "Most.fits" (aL vy) (aJ vy) (aq vy) .none kV7 dc7 pm7 an7 cd7 ct7),sl7⟩) (c7:PySem.W.codeIn K cd7 "Most.fits" = true) (k7:keepIn K (.ref f7)=true)
 (a8:findIn K (.ref zl_) "fits" = some (some (.ref f8))) (i8:isFn K (.ref f8)=true)
 (l8:K.lookup f8=some ⟨oc8,od8,.func (PySem.W.fnOf "fits" "Least.fits" (aL vA) (aJ vA) (aq vA) .none kV8 dc8 pm8 an8 cd8 ct8),sl8⟩) (c8:PySem.W.codeIn K cd8 "Least.fits" = true) (k8:keepIn K (.ref f8)=true)
 (a9:findIn K (.ref C_Away) "fits" = some (some (.ref f9))) (i9:isFn K (.ref f9)=true)
 (l9:K.lookup f9=some ⟨oc9,od9,.func (PySem.W.fnOf "fits" "Away.fits" (aL vC) (aJ vC) (aq vC) .none kV9 dc9 pm9 an9 cd9 ct9),sl9⟩) (c9:PySem.W.codeIn K cd9 "Away.fits" = true) (k9:keepIn K (.ref f9)=true)
 (a10:findIn K (.ref zi_) "fits" = some (some (.ref f10))) (i10:isFn K (.ref f10)=true)
 (l10:K.lookup f10=some ⟨oc10,od10,.func (PySem.W.fnOf "fits" "Nights.fits" (aL zV_) (aJ zV_) (aq zV_) .none kV10 dc10 pm10 an10 cd10 ct10),sl10⟩) (c10:PySem.W.codeIn K cd10 "Nights.fits" = true) (k10:keepIn K (.ref f10)=true)
 (a11:findIn K (.ref zh_) "fits" = some (some (.ref f11))) (i11:isFn K (.ref f11)=true)
 (l11:K.lookup f11=some ⟨oc11,od11,.func (PySem.W.fnOf "fits" "Hours.fits" (aL vB) (aJ vB) (aq vB) .none kV11 dc11 pm11 an11 cd11 ct11),sl11⟩) (c11:PySem.W.codeIn K cd11 "Hours.fits" = true) (k11:keepIn K (.ref f11)=true)
 (a12:PySem.W.nsIn K mainGlobals "are_two_hands" = some (some (.ref f12)))
 (l12:K.lookup f12=some ⟨oc12,od12,.func (PySem.W.fnOf "are_two_hands" "are_two_hands" (aL zC_) (aJ zC_) (aq zC_) .none kV12 dc12 pm12 an12 cd12 ct12),sl12⟩) (c12:PySem.W.codeIn K cd12 "are_two_hands" = true) (k12:keepIn K (.ref f12)=true)
 (a13:findIn K (.ref zo_) "fits" = some (some (.ref f13))) (i13:isFn K (.ref f13)=true)
 (l13:K.lookup f13=some ⟨oc13,od13,.func (PySem.W.fnOf "fits" "Apart.fits" (aL vW) (aJ vW) (aq vW) .none kV13 dc13 pm13 an13 cd13 ct13),sl13⟩) (c13:PySem.W.codeIn K cd13 "Apart.fits" = true) (k13:keepIn K (.ref f13)=true)
 (a14:PySem.W.nsIn K mainGlobals "need_rules" = some (some (.ref f14)))
 (l14:K.lookup f14=some ⟨oc14,od14,.func (PySem.W.fnOf "need_rules" "need_rules" (aL vZ) (aJ vZ) (aq vZ) .none kV14 dc14 pm14 an14 cd14 ct14),sl14⟩) (c14:PySem.W.codeIn K cd14 "need_rules" = true) (k14:keepIn K (.ref f14)=true)
 (a15:findIn K (.ref C_Want) "lines" = some (some (.ref f15))) (i15:isFn K (.ref f15)=true)
 (l15:K.lookup f15=some ⟨oc15,od15,.func (PySem.W.fnOf "lines" "Want.lines" (aL vq) (aJ vq) (aq vq) .none kV15 dc15 pm15 an15 cd15 ct15),sl15⟩) (c15:PySem.W.codeIn K cd15 "Want.lines" = true) (k15:keepIn K (.ref f15)=true)
 (a16:PySem.W.nsIn K mainGlobals "spread" = some (some (.ref f16)))
 (l16:K.lookup f16=some ⟨oc16,od16,.func (PySem.W.fnOf "spread" "spread" (aL vN) (aJ vN) (aq vN) .none kV16 dc16 pm16 an16 cd16 ct16),sl16⟩) (c16:PySem.W.codeIn K cd16 "spread" = true) (k16:keepIn K (.ref f16)=true)
 (a17:PySem.W.nsIn K mainGlobals "covers" = some (some (.ref f17)))
 (l17:K.lookup f17=some ⟨oc17,od17,.func (PySem.W.fnOf "covers" "covers" (aL vm) (aJ vm) (aq vm) .none kV17 dc17 pm17 an17 cd17 ct17),sl17⟩) (c17:PySem.W.codeIn K cd17 "covers" = true) (k17:keepIn K (.ref f17)=true)
 (a18:PySem.W.nsIn K mainGlobals "members" = some (some (.ref f18)))
 (l18:K.lookup f18=some ⟨oc18,od18,.func (PySem.W.fnOf "members" "members" (aL vh) (aJ vh) (aq vh) .none kV18 dc18 pm18 an18 cd18 ct18),sl18⟩) (c18:PySem.W.codeIn K cd18 "members" = true) (k18:keepIn K (.ref f18)=true)
 (a19:PySem.W.nsIn K mainGlobals "first_days" = some (some (.ref f19)))
 (l19:K.lookup f19=some ⟨oc19,od19,.func (PySem.W.fnOf "first_days" "first_days" (aL vo) (aJ vo) (aq vo) .none kV19 dc19 pm19 an19 cd19 ct19),sl19⟩) (c19:PySem.W.codeIn K cd19 "first_days" = true) (k19:keepIn K (.ref f19)=true)
 (a20:PySem.W.nsIn K mainGlobals "days_of" = some (some (.ref f20)))
 (l20:K.lookup f20=some ⟨oc20,od20,.func (PySem.W.fnOf "days_of" "days_of" (aL vL) (aJ vL) (aq vL) .none kV20 dc20 pm20 an20 cd20 ct20),sl20⟩) (c20:PySem.W.codeIn K cd20 "days_of" = true) (k20:keepIn K (.ref f20)=true)
 (a21:PySem.W.nsIn K mainGlobals "all_posts" = some (some (.ref f21)))
 (l21:K.lookup f21=some ⟨oc21,od21,.func (PySem.W.fnOf "all_posts" "all_posts" (aL vM) (aJ vM) (aq vM) .none kV21 dc21 pm21 an21 cd21 ct21),sl21⟩) (c21:PySem.W.codeIn K cd21 "all_posts" = true) (k21:keepIn K (.ref f21)=true)
 (a22:findIn K (.ref C_Most) "lines" = some (some (.ref f22))) (i22:isFn K (.ref f22)=true)
 (l22:K.lookup f22=some ⟨oc22,od22,.func (PySem.W.fnOf "lines" "Most.lines" (aL vz) (aJ vz) (aq vz) .none kV22 dc22 pm22 an22 cd22 ct22),sl22⟩) (c22:PySem.W.codeIn K cd22 "Most.lines" = true) (k22:keepIn K (.ref f22)=true)
 (a23:findIn K (.ref zl_) "lines" = some (some (.ref f23))) (i23:isFn K (.ref f23)=true)
 (l23:K.lookup f23=some ⟨oc23,od23,.func (PySem.W.fnOf "lines" "Least.lines" (aL zS_) (aJ zS_) (aq zS_) .none kV23 dc23 pm23 an23 cd23 ct23),sl23⟩) (c23:PySem.W.codeIn K cd23 "Least.lines" = true) (k23:keepIn K (.ref f23)=true)
 (a24:findIn K (.ref C_Away) "lines" = some (some (.ref f24))) (i24:isFn K (.ref f24)=true)
 (l24:K.lookup f24=some ⟨oc24,od24,.func (PySem.W.fnOf "lines" "Away.lines" (aL vD) (aJ vD) (aq vD) .none kV24 dc24 pm24 an24 cd24 ct24),sl24⟩) (c24:PySem.W.codeIn K cd24 "Away.lines" = true) (k24:keepIn K (.ref f24)=true)
 (a25:findIn K (.ref C_Ward) "is_night" = some (some (.ref f25))) (i25:isFn K (.ref f25)=true)
 (l25:K.lookup f25=some ⟨oc25,od25,.func (PySem.W.fnOf "is_night" "Ward.is_night" (aL zE_) (aJ zE_) (aq zE_) .none kV25 dc25 pm25 an25 cd25 ct25),sl25⟩) (c25:PySem.W.codeIn K cd25 "Ward.is_night" = true) (k25:keepIn K (.ref f25)=true)
 (a26:PySem.W.nsIn K mainGlobals "posts_by_night" = some (some (.ref f26)))
 (l26:K.lookup f26=some ⟨oc26,od26,.func (PySem.W.fnOf "posts_by_night" "posts_by_night" (aL zw_) (aJ zw_) (aq zw_) .none kV26 dc26 pm26 an26 cd26 ct26),sl26⟩) (c26:PySem.W.codeIn K cd26 "posts_by_night" = true) (k26:keepIn K (.ref f26)=true)
 (a27:findIn K (.ref zi_) "lines" = some (some (.ref f27))) (i27:isFn K (.ref f27)=true)
 (l27:K.lookup f27=some ⟨oc27,od27,.func (PySem.W.fnOf "lines" "Nights.lines" (aL zH_) (aJ zH_) (aq zH_) .none kV27 dc27 pm27 an27 cd27 ct27),sl27⟩) (c27:PySem.W.codeIn K cd27 "Nights.lines" = true) (k27:keepIn K (.ref f27)=true)
 (a28:findIn K (.ref C_Ward) "hours" = some (some (.ref f28))) (i28:isFn K (.ref f28)=true)
 (l28:K.lookup f28=some ⟨oc28,od28,.func (PySem.W.fnOf "hours" "Ward.hours" (aL wj) (aJ wj) (aq wj) .none kV28 dc28 pm28 an28 cd28 ct28),sl28⟩) (c28:PySem.W.codeIn K cd28 "Ward.hours" = true) (k28:keepIn K (.ref f28)=true)
 (a29:findIn K (.ref zh_) "by_hours" = some (some (.ref f29))) (i29:isFn K (.ref f29)=true)
 (l29:K.lookup f29=some ⟨oc29,od29,.func (PySem.W.fnOf "by_hours" "Hours.by_hours" (aL zt_) (aJ zt_) (aq zt_) .none kV29 dc29 pm29 an29 cd29 ct29),sl29⟩) (c29:PySem.W.codeIn K cd29 "Hours.by_hours" = true) (k29:keepIn K (.ref f29)=true)
 (a30:findIn K (.ref zh_) "lines" = some (some (.ref f30))) (i30:isFn K (.ref f30)=true)
 (l30:K.lookup f30=some ⟨oc30,od30,.func (PySem.W.fnOf "lines" "Hours.lines" (aL zT_) (aJ zT_) (aq zT_) .none kV30 dc30 pm30 an30 cd30 ct30),sl30⟩) (c30:PySem.W.codeIn K cd30 "Hours.lines" = true) (k30:keepIn K (.ref f30)=true)
 (a31:PySem.W.nsIn K mainGlobals "two_parts" = some (some (.ref f31)))
 (l31:K.lookup f31=some ⟨oc31,od31,.func (PySem.W.fnOf "two_parts" "two_parts" (aL vY) (aJ vY) (aq vY) .none kV31 dc31 pm31 an31 cd31 ct31),sl31⟩) (c31:PySem.W.codeIn K cd31 "two_parts" = true) (k31:keepIn K (.ref f31)=true)
 (a32:PySem.W.nsIn K mainGlobals "places" = some (some (.ref f32)))
 (l32:K.lookup f32=some ⟨oc32,od32,.func (PySem.W.fnOf "places" "places" (aL vX) (aJ vX) (aq vX) .none kV32 dc32 pm32 an32 cd32 ct32),sl32⟩) (c32:PySem.W.codeIn K cd32 "places" = true) (k32:keepIn K (.ref f32)=true)
 (a33:findIn K (.ref zo_) "lines" = some (some (.ref f33))) (i33:isFn K (.ref f33)=true)
 (l33:K.lookup f33=some ⟨oc33,od33,.func (PySem.W.fnOf "lines" "Apart.lines" (aL zU_) (aJ zU_) (aq zU_) .none kV33 dc33 pm33 an33 cd33 ct33),sl33⟩) (c33:PySem.W.codeIn K cd33 "Apart.lines" = true) (k33:keepIn K (.ref f33)=true)
 (a34:findIn K (.ref zO_) "__init__" = some (some (.ref f34))) (i34:isFn K (.ref f34)=true)
 (l34:K.lookup f34=some ⟨oc34,od34,.func (PySem.W.fnOf "__init__" "Terms.__init__" (aL zv_) (aJ zv_) (aq zv_) .none kV34 dc34 pm34 an34 cd34 ct34),sl34⟩) (c34:PySem.W.codeIn K cd34 "Terms.__init__" = true) (k34:keepIn K (.ref f34)=true)
 (a35:PySem.W.nsIn K mainGlobals "is_free" = some (some (.ref f35)))
 (l35:K.lookup f35=some ⟨oc35,od35,.func (PySem.W.fnOf "is_free" "is_free" (aL vR) (aJ vR) (aq vR) .none kV35 dc35 pm35 an35 cd35 ct35),sl35⟩) (c35:PySem.W.codeIn K cd35 "is_free" = true) (k35:keepIn K (.ref f35)=true)
 (a36:PySem.W.nsIn K mainGlobals "summed" = some (some (.ref f36)))
 (l36:K.lookup f36=some ⟨oc36,od36,.func (PySem.W.fnOf "summed" "summed" (aL vf) (aJ vf) (aq vf) .none kV36 dc36 pm36 an36 cd36 ct36),sl36⟩) (c36:PySem.W.codeIn K cd36 "summed" = true) (k36:keepIn K (.ref f36)=true)
 (a37:findIn K (.ref C_Ward) "choices" = some (some (.ref f37))) (i37:isFn K (.ref f37)=true)
 (l37:K.lookup f37=some ⟨oc37,od37,.func (PySem.W.fnOf "choices" "Ward.choices" (aL zI_) (aJ zI_) (aq zI_) .none kV37 dc37 pm37 an37 cd37 ct37),sl37⟩) (c37:PySem.W.codeIn K cd37 "Ward.choices" = true) (k37:keepIn K (.ref f37)=true)
 (a38:PySem.W.nsIn K mainGlobals "best" = some (some (.ref f38)))
 (l38:K.lookup f38=some ⟨oc38,od38,.func (PySem.W.fnOf "best" "best" (aL jy) (aJ jy) (aq jy) .none kV38 dc38 pm38 an38 cd38 ct38),sl38⟩) (c38:PySem.W.codeIn K cd38 "best" = true) (k38:keepIn K (.ref f38)=true)
 (a39:PySem.W.nsIn K mainGlobals "closes" = some (some (.ref f39)))
 (l39:K.lookup f39=some ⟨oc39,od39,.func (PySem.W.fnOf "closes" "closes" (aL vg) (aJ vg) (aq vg) .none kV39 dc39 pm39 an39 cd39 ct39),sl39⟩) (c39:PySem.W.codeIn K cd39 "closes" = true) (k39:keepIn K (.ref f39)=true)
 (a40:PySem.W.nsIn K mainGlobals "is_there" = some (some (.ref f40)))
 (l40:K.lookup f40=some ⟨oc40,od40,.func (PySem.W.fnOf "is_there" "is_there" (aL vP) (aJ vP) (aq vP) .none kV40 dc40 pm40 an40 cd40 ct40),sl40⟩) (c40:PySem.W.codeIn K cd40 "is_there" = true) (k40:keepIn K (.ref f40)=true)
 (a41:PySem.W.nsIn K mainGlobals "ends" = some (some (.ref f41)))
 (l41:K.lookup f41=some ⟨oc41,od41,.func (PySem.W.fnOf "ends" "ends" (aL jz) (aJ jz) (aq jz) .none kV41 dc41 pm41 an41 cd41 ct41),sl41⟩) (c41:PySem.W.codeIn K cd41 "ends" = true) (k41:keepIn K (.ref f41)=true)
 (a42:PySem.W.nsIn K mainGlobals "is_step" = some (some (.ref f42)))
 (l42:K.lookup f42=some ⟨oc42,od42,.func (PySem.W.fnOf "is_step" "is_step" (aL vQ) (aJ vQ) (aq vQ) .none kV42 dc42 pm42 an42 cd42 ct42),sl42⟩) (c42:PySem.W.codeIn K cd42 "is_step" = true) (k42:keepIn K (.ref f42)=true)
 (a43:PySem.W.nsIn K mainGlobals "parted" = some (some (.ref f43)))
 (l43:K.lookup f43=some ⟨oc43,od43,.func (PySem.W.fnOf "parted" "parted" (aL vU) (aJ vU) (aq vU) .none kV43 dc43 pm43 an43 cd43 ct43),sl43⟩) (c43:PySem.W.codeIn K cd43 "parted" = true) (k43:keepIn K (.ref f43)=true)
 (a44:PySem.W.nsIn K mainGlobals "left" = some (some (.ref f44)))
 (l44:K.lookup f44=some ⟨oc44,od44,.func (PySem.W.fnOf "left" "left" (aL jA) (aJ jA) (aq jA) .none kV44 dc44 pm44 an44 cd44 ct44),sl44⟩) (c44:PySem.W.codeIn K cd44 "left" = true) (k44:keepIn K (.ref f44)=true)
 (a45:PySem.W.nsIn K mainGlobals "need_month" = some (some (.ref f45)))
 (l45:K.lookup f45=some ⟨oc45,od45,.func (PySem.W.fnOf "need_month" "need_month" (aL wu) (aJ wu) (aq wu) .none kV45 dc45 pm45 an45 cd45 ct45),sl45⟩) (c45:PySem.W.codeIn K cd45 "need_month" = true) (k45:keepIn K (.ref f45)=true)
 (a46:PySem.W.nsIn K mainGlobals "is_skills" = some (some (.ref f46)))
 (l46:K.lookup f46=some ⟨oc46,od46,.func (PySem.W.fnOf "is_skills" "is_skills" (aL wz) (aJ wz) (aq wz) .none kV46 dc46 pm46 an46 cd46 ct46),sl46⟩) (c46:PySem.W.codeIn K cd46 "is_skills" = true) (k46:keepIn K (.ref f46)=true)
 (a47:PySem.W.nsIn K mainGlobals "need_hands" = some (some (.ref f47)))
 (l47:K.lookup f47=some ⟨oc47,od47,.func (PySem.W.fnOf "need_hands" "need_hands" (aL ww) (aJ ww) (aq ww) .none kV47 dc47 pm47 an47 cd47 ct47),sl47⟩) (c47:PySem.W.codeIn K cd47 "need_hands" = true) (k47:keepIn K (.ref f47)=true)
 (a48:PySem.W.nsIn K mainGlobals "is_post" = some (some (.ref f48)))
 (l48:K.lookup f48=some ⟨oc48,od48,.func (PySem.W.fnOf "is_post" "is_post" (aL wA) (aJ wA) (aq wA) .none kV48 dc48 pm48 an48 cd48 ct48),sl48⟩) (c48:PySem.W.codeIn K cd48 "is_post" = true) (k48:keepIn K (.ref f48)=true)
 (a49:PySem.W.nsIn K mainGlobals "need_posts" = some (some (.ref f49)))
 (l49:K.lookup f49=some ⟨oc49,od49,.func (PySem.W.fnOf "need_posts" "need_posts" (aL wy) (aJ wy) (aq wy) .none kV49 dc49 pm49 an49 cd49 ct49),sl49⟩) (c49:PySem.W.codeIn K cd49 "need_posts" = true) (k49:keepIn K (.ref f49)=true)
 (a50:findIn K (.ref C_Ward) "__init__" = some (some (.ref f50))) (i50:isFn K (.ref f50)=true)
 (l50:K.lookup f50=some ⟨oc50,od50,.func (PySem.W.fnOf "__init__" "Ward.__init__" (aL zD_) (aJ zD_) (aq zD_) .none kV50 dc50 pm50 an50 cd50 ct50),sl50⟩) (c50:PySem.W.codeIn K cd50 "Ward.__init__" = true) (k50:keepIn K (.ref f50)=true)
 (a51:findIn K (.ref zo_) "__init__" = some (some (.ref f51))) (i51:isFn K (.ref f51)=true)
 (l51:K.lookup f51=some ⟨oc51,od51,.func (PySem.W.fnOf "__init__" "Apart.__init__" (aL zu_) (aJ zu_) (aq zu_) .none kV51 dc51 pm51 an51 cd51 ct51),sl51⟩) (c51:PySem.W.codeIn K cd51 "Apart.__init__" = true) (k51:keepIn K (.ref f51)=true)
 (a52:findIn K (.ref C_Want) "__init__" = some (some (.ref f52))) (i52:isFn K (.ref f52)=true)
 (l52:K.lookup f52=some ⟨oc52,od52,.func (PySem.W.fnOf "__init__" "Want.__init__" (aL zz_) (aJ zz_) (aq zz_) .none kV52 dc52 pm52 an52 cd52 ct52),sl52⟩) (c52:PySem.W.codeIn K cd52 "Want.__init__" = true) (k52:keepIn K (.ref f52)=true)
 (a53:findIn K (.ref C_Most) "__init__" = some (some (.ref f53))) (i53:isFn K (.ref f53)=true)
 (l53:K.lookup f53=some ⟨oc53,od53,.func (PySem.W.fnOf "__init__" "Most.__init__" (aL zA_) (aJ zA_) (aq zA_) .none kV53 dc53 pm53 an53 cd53 ct53),sl53⟩) (c53:PySem.W.codeIn K cd53 "Most.__init__" = true) (k53:keepIn K (.ref f53)=true)
 (a54:findIn K (.ref zl_) "__init__" = some (some (.ref f54))) (i54:isFn K (.ref f54)=true)
 (l54:K.lookup f54=some ⟨oc54,od54,.func (PySem.W.fnOf "__init__" "Least.__init__" (aL zr_) (aJ zr_) (aq zr_) .none kV54 dc54 pm54 an54 cd54 ct54),sl54⟩) (c54:PySem.W.codeIn K cd54 "Least.__init__" = true) (k54:keepIn K (.ref f54)=true)
 (a55:findIn K (.ref C_Away) "__init__" = some (some (.ref f55))) (i55:isFn K (.ref f55)=true)
 (l55:K.lookup f55=some ⟨oc55,od55,.func (PySem.W.fnOf "__init__" "Away.__init__" (aL zB_) (aJ zB_) (aq zB_) .none kV55 dc55 pm55 an55 cd55 ct55),sl55⟩) (c55:PySem.W.codeIn K cd55 "Away.__init__" = true) (k55:keepIn K (.ref f55)=true)
 (a56:findIn K (.ref zi_) "__init__" = some (some (.ref f56))) (i56:isFn K (.ref f56)=true)
 (l56:K.lookup f56=some ⟨oc56,od56,.func (PySem.W.fnOf "__init__" "Nights.__init__" (aL zn_) (aJ zn_) (aq zn_) .none kV56 dc56 pm56 an56 cd56 ct56),sl56⟩) (c56:PySem.W.codeIn K cd56 "Nights.__init__" = true) (k56:keepIn K (.ref f56)=true)
 (a57:findIn K (.ref zh_) "__init__" = some (some (.ref f57))) (i57:isFn K (.ref f57)=true)
 (l57:K.lookup f57=some ⟨oc57,od57,.func (PySem.W.fnOf "__init__" "Hours.__init__" (aL zs_) (aJ zs_) (aq zs_) .none kV57 dc57 pm57 an57 cd57 ct57),sl57⟩) (c57:PySem.W.codeIn K cd57 "Hours.__init__" = true) (k57:keepIn K (.ref f57)=true)
 (a58:PySem.W.nsIn K mainGlobals "is_paper" = some (some (.ref f58)))
 (l58:K.lookup f58=some ⟨oc58,od58,.func (PySem.W.fnOf "is_paper" "is_paper" (aL vV) (aJ vV) (aq vV) .none kV58 dc58 pm58 an58 cd58 ct58),sl58⟩) (c58:PySem.W.codeIn K cd58 "is_paper" = true) (k58:keepIn K (.ref f58)=true)
 (a59:PySem.W.nsIn K mainGlobals "_law_cell" = some (some (.ref f59)))
 (l59:K.lookup f59=some ⟨oc59,od59,.func (PySem.W.fnOf "_law_cell" "_law_cell" (aL wB) (aJ wB) (aq wB) .none kV59 dc59 pm59 an59 cd59 ct59),sl59⟩) (c59:PySem.W.codeIn K cd59 "_law_cell" = true) (k59:keepIn K (.ref f59)=true)
 (a60:PySem.W.nsIn K mainGlobals "_law_tables" = some (some (.ref f60)))
 (l60:K.lookup f60=some ⟨oc60,od60,.func (PySem.W.fnOf "_law_tables" "_law_tables" (aL zW_) (aJ zW_) (aq zW_) .none kV60 dc60 pm60 an60 cd60 ct60),sl60⟩) (c60:PySem.W.codeIn K cd60 "_law_tables" = true) (k60:keepIn K (.ref f60)=true)
 (a61:PySem.W.nsIn K mainGlobals "_law_options" = some (some (.ref f61)))
 (l61:K.lookup f61=some ⟨oc61,od61,.func (PySem.W.fnOf "_law_options" "_law_options" (aL zJ_) (aJ zJ_) (aq zJ_) .none kV61 dc61 pm61 an61 cd61 ct61),sl61⟩) (c61:PySem.W.codeIn K cd61 "_law_options" = true) (k61:keepIn K (.ref f61)=true)
 (a62:PySem.W.nsIn K mainGlobals "_law_ward" = some (some (.ref f62)))
 (l62:K.lookup f62=some ⟨oc62,od62,.func (PySem.W.fnOf "_law_ward" "_law_ward" (aL wC) (aJ wC) (aq wC) .none kV62 dc62 pm62 an62 cd62 ct62),sl62⟩) (c62:PySem.W.codeIn K cd62 "_law_ward" = true) (k62:keepIn K (.ref f62)=true)
 (a63:PySem.W.nsIn K mainGlobals "_law_numbers" = some (some (.ref f63)))
 (l63:K.lookup f63=some ⟨oc63,od63,.func (PySem.W.fnOf "_law_numbers" "_law_numbers" (aL zK_) (aJ zK_) (aq zK_) .none kV63 dc63 pm63 an63 cd63 ct63),sl63⟩) (c63:PySem.W.codeIn K cd63 "_law_numbers" = true) (k63:keepIn K (.ref f63)=true)
 (a64:PySem.W.nsIn K mainGlobals "_law_closes" = some (some (.ref f64)))
 (l64:K.lookup f64=some ⟨oc64,od64,.func (PySem.W.fnOf "_law_closes" "_law_closes" (aL zY_) (aJ zY_) (aq zY_) .none kV64 dc64 pm64 an64 cd64 ct64),sl64⟩) (c64:PySem.W.codeIn K cd64 "_law_closes" = true) (k64:keepIn K (.ref f64)=true)
 (a65:PySem.W.nsIn K mainGlobals "_law_closing" = some (some (.ref f65)))
 (l65:K.lookup f65=some ⟨oc65,od65,.func (PySem.W.fnOf "_law_closing" "_law_closing" (aL zL_) (aJ zL_) (aq zL_) .none kV65 dc65 pm65 an65 cd65 ct65),sl65⟩) (c65:PySem.W.codeIn K cd65 "_law_closing" = true) (k65:keepIn K (.ref f65)=true)
 (a66:PySem.W.nsIn K mainGlobals "_law_odd" = some (some (.ref f66)))
 (l66:K.lookup f66=some ⟨oc66,od66,.func (PySem.W.fnOf "_law_odd" "_law_odd" (aL wJ) (aJ wJ) (aq wJ) .none kV66 dc66 pm66 an66 cd66 ct66),sl66⟩) (c66:PySem.W.codeIn K cd66 "_law_odd" = true) (k66:keepIn K (.ref f66)=true)
 (a67:PySem.W.nsIn K mainGlobals "_law_step" = some (some (.ref f67)))
 (l67:K.lookup f67=some ⟨oc67,od67,.func (PySem.W.fnOf "_law_step" "_law_step" (aL wK) (aJ wK) (aq wK) .none kV67 dc67 pm67 an67 cd67 ct67),sl67⟩) (c67:PySem.W.codeIn K cd67 "_law_step" = true) (k67:keepIn K (.ref f67)=true)
 (a68:PySem.W.nsIn K mainGlobals "_law_behind" = some (some (.ref f68)))
 (l68:K.lookup f68=some ⟨oc68,od68,.func (PySem.W.fnOf "_law_behind" "_law_behind" (aL zZ_) (aJ zZ_) (aq zZ_) .none kV68 dc68 pm68 an68 cd68 ct68),sl68⟩) (c68:PySem.W.codeIn K cd68 "_law_behind" = true) (k68:keepIn K (.ref f68)=true)
 (a69:PySem.W.nsIn K mainGlobals "_law_walk" = some (some (.ref f69)))
 (l69:K.lookup f69=some ⟨oc69,od69,.func (PySem.W.fnOf "_law_walk" "_law_walk" (aL wL) (aJ wL) (aq wL) .none kV69 dc69 pm69 an69 cd69 ct69),sl69⟩) (c69:PySem.W.codeIn K cd69 "_law_walk" = true) (k69:keepIn K (.ref f69)=true)
 (a70:PySem.W.nsIn K mainGlobals "_law_spec" = some (some (.ref f70)))
 (l70:K.lookup f70=some ⟨oc70,od70,.func (PySem.W.fnOf "_law_spec" "_law_spec" (aL wD) (aJ wD) (aq wD) .none kV70 dc70 pm70 an70 cd70 ct70),sl70⟩) (c70:PySem.W.codeIn K cd70 "_law_spec" = true) (k70:keepIn K (.ref f70)=true)
 (a71:PySem.W.nsIn K mainGlobals "_law_work" = some (some (.ref f71)))
 (l71:K.lookup f71=some ⟨oc71,od71,.func (PySem.W.fnOf "_law_work" "_law_work" (aL wH) (aJ wH) (aq wH) .none kV71 dc71 pm71 an71 cd71 ct71),sl71⟩) (c71:PySem.W.codeIn K cd71 "_law_work" = true) (k71:keepIn K (.ref f71)=true)
 (a72:PySem.W.nsIn K mainGlobals "_law_single" = some (some (.ref f72)))
 (l72:K.lookup f72=some ⟨oc72,od72,.func (PySem.W.fnOf "_law_single" "_law_single" (aL zX_) (aJ zX_) (aq zX_) .none kV72 dc72 pm72 an72 cd72 ct72),sl72⟩) (c72:PySem.W.codeIn K cd72 "_law_single" = true) (k72:keepIn K (.ref f72)=true)
 (a73:PySem.W.nsIn K mainGlobals "_law_post" = some (some (.ref f73)))
 (l73:K.lookup f73=some ⟨oc73,od73,.func (PySem.W.fnOf "_law_post" "_law_post" (aL wF) (aJ wF) (aq wF) .none kV73 dc73 pm73 an73 cd73 ct73),sl73⟩) (c73:PySem.W.codeIn K cd73 "_law_post" = true) (k73:keepIn K (.ref f73)=true)
 (a74:PySem.W.nsIn K mainGlobals "_law_lines" = some (some (.ref f74)))
 (l74:K.lookup f74=some ⟨oc74,od74,.func (PySem.W.fnOf "_law_lines" "_law_lines" (aL wI) (aJ wI) (aq wI) .none kV74 dc74 pm74 an74 cd74 ct74),sl74⟩) (c74:PySem.W.codeIn K cd74 "_law_lines" = true) (k74:keepIn K (.ref f74)=true)
 (a75:PySem.W.nsIn K mainGlobals "_law_rule" = some (some (.ref f75)))
 (l75:K.lookup f75=some ⟨oc75,od75,.func (PySem.W.fnOf "_law_rule" "_law_rule" (aL wG) (aJ wG) (aq wG) .none kV75 dc75 pm75 an75 cd75 ct75),sl75⟩) (c75:PySem.W.codeIn K cd75 "_law_rule" = true) (k75:keepIn K (.ref f75)=true)
 (a76:PySem.W.nsIn K mainGlobals "_law_truth" = some (some (.ref f76)))
 (l76:K.lookup f76=some ⟨oc76,od76,.func (PySem.W.fnOf "_law_truth" "_law_truth" (aL wM) (aJ wM) (aq wM) .none kV76 dc76 pm76 an76 cd76 ct76),sl76⟩) (c76:PySem.W.codeIn K cd76 "_law_truth" = true) (k76:keepIn K (.ref f76)=true)
 (a77:PySem.W.nsIn K mainGlobals "law" = some (some (.ref f77)))
 (l77:K.lookup f77=some ⟨oc77,od77,.func (PySem.W.fnOf "law" "law" (aL jh) (aJ jh) (aq jh) .none kV77 dc77 pm77 an77 cd77 ct77),sl77⟩) (c77:PySem.W.codeIn K cd77 "law" = true) (k77:keepIn K (.ref f77)=true)
 (z1:PySem.W.nsIn K mainGlobals "all" = some none)
 (z2:PySem.W.nsIn K mainGlobals "bool" = some none)
 (z3:PySem.W.nsIn K mainGlobals "dict" = some none)
 (z4:PySem.W.nsIn K mainGlobals "enumerate" = some none)
 (z5:PySem.W.nsIn K mainGlobals "int" = some none)
 (z6:PySem.W.nsIn K mainGlobals "isinstance" = some none)
 (z7:PySem.W.nsIn K mainGlobals "len" = some none)
 (z8:PySem.W.nsIn K mainGlobals "list" = some none)
 (z9:PySem.W.nsIn K mainGlobals "max" = some none)
 (z10:PySem.W.nsIn K mainGlobals "min" = some none)
 (z11:PySem.W.nsIn K mainGlobals "range" = some none)
 (z12:PySem.W.nsIn K mainGlobals "reversed" = some none)
 (z13:PySem.W.nsIn K mainGlobals "str" = some none)
 (z14:PySem.W.nsIn K mainGlobals "sum" = some none)
 (z15:PySem.W.nsIn K mainGlobals "tuple" = some none)
 (g1:PySem.W.nsIn K mainGlobals "MOST_DAYS" = some (some (.int 31 gt1)))
 (g2:PySem.W.nsIn K mainGlobals "MOST_HANDS" = some (some (.int 8 gt2)))
 (g3:PySem.W.nsIn K mainGlobals "MOST_MANY" = some (some (.int 99 gt3)))
 (g4:PySem.W.nsIn K mainGlobals "MOST_POSTS" = some (some (.int 6 gt4)))
 (g5:PySem.W.nsIn K mainGlobals "MOST_RULES" = some (some (.int 120 gt5)))
 :∃fd:FuncData,(∀ (s:Shared) (v:Value),BindsTo s fd ⟨[v],[]⟩ [("_law_script",v)])∧∀base:Heap,K.In base→base.Ns mainGlobals mg→bA l.prog w K mg base CX0 9 fa fd ["_law_script"] (oU K):=by
 let ζ:Cs:=⟨C_Ward,zO_,C_Want,C_Most,zl_,zh_,C_Away,zo_,zi_⟩
 have e:=hfa.symm.trans (mg_of X G a77)
 cases e
 have T:Txt K mg ζ:=⟨mg_none_of X G z1,mg_none_of X G z2,mg_none_of X G z3,mg_none_of X G z4,mg_none_of X G z5,mg_none_of X G z6,mg_none_of X G z7,mg_none_of X G z8,mg_none_of X G z9,mg_none_of X G z10,mg_none_of X G z11,mg_none_of X G z12,mg_none_of X G z13,mg_none_of X G z14,mg_none_of X G z15,⟨_,mg_of X G g1⟩,⟨_,mg_of X G g2⟩,⟨_,mg_of X G g3⟩,⟨_,mg_of X G g4⟩,⟨_,mg_of X G g5⟩,⟨pg_Ward,hd_Ward,po_Ward,sa_Ward⟩,f_days_Ward,f_hands_Ward,f_posts_Ward,⟨pg_Terms,hd_Terms,po_Terms,sa_Terms⟩,f_ward_Terms,f_rules_Terms,f_sums_Terms,⟨pg_Want,hd_Want,po_Want,sa_Want⟩,f_day_Want,f_post_Want,f_many_Want,⟨pg_Most,hd_Most,po_Most,sa_Most⟩,f_hand_Most,f_days_Most,f_many_Most,⟨pg_Least,hd_Least,po_Least,sa_Least⟩,f_hand_Least,f_days_Least,f_many_Least,⟨pg_Hours,hd_Hours,po_Hours,sa_Hours⟩,f_hand_Hours,f_least_Hours,f_most_Hours,⟨pg_Away,hd_Away,po_Away,sa_Away⟩,f_hand_Away,f_days_Away,⟨pg_Apart,hd_Apart,po_Apart,sa_Apart⟩,f_hand_Apart,f_other_Apart,⟨pg_Nights,hd_Nights,po_Nights,sa_Nights⟩,f_hand_Nights,f_many_Nights⟩
 have F1:=aU (st:=vH) l1 c1 k1
 have b1:=F1.binds (ps:=["ward","day"]) fun _ _ _ _ _ _ us hl=>by obtain⟨_,_,rfl⟩:=cC (us:=us) hl;rfl
 have F2:=aU (st:=vI) l2 c2 k2
 have b2:=F2.binds (ps:=["ward","post"]) fun _ _ _ _ _ _ us hl=>by obtain⟨_,_,rfl⟩:=cC (us:=us) hl;rfl
 have F3:=aU (st:=vJ) l3 c3 k3
 have b3:=F3.binds (ps:=["many"]) fun _ _ _ _ _ _ us hl=>by obtain⟨_,rfl⟩:=fc (us:=us) hl;rfl
 have F4:=aU (st:=vp) l4 c4 k4
 have b4:=F4.binds (ps:=["self","ward"]) fun _ _ _ _ _ _ us hl=>by obtain⟨_,_,rfl⟩:=cC (us:=us) hl;rfl
 have F5:=aU (st:=vG) l5 c5 k5
 have b5:=F5.binds (ps:=["ward","hand"]) fun _ _ _ _ _ _ us hl=>by obtain⟨_,_,rfl⟩:=cC (us:=us) hl;rfl
 have F6:=aU (st:=vK) l6 c6 k6
 have b6:=F6.binds (ps:=["days"]) fun _ _ _ _ _ _ us hl=>by obtain⟨_,rfl⟩:=fc (us:=us) hl;rfl
 have F7:=aU (st:=vy) l7 c7 k7
 have b7:=F7.binds (ps:=["self","ward"]) fun _ _ _ _ _ _ us hl=>by obtain⟨_,_,rfl⟩:=cC (us:=us) hl;rfl
 have F8:=aU (st:=vA) l8 c8 k8
 have b8:=F8.binds (ps:=["self","ward"]) fun _ _ _ _ _ _ us hl=>by obtain⟨_,_,rfl⟩:=cC (us:=us) hl;rfl
 have F9:=aU (st:=vC) l9 c9 k9
 have b9:=F9.binds (ps:=["self","ward"]) fun _ _ _ _ _ _ us hl=>by obtain⟨_,_,rfl⟩:=cC (us:=us) hl;rfl
 have F10:=aU (st:=zV_) l10 c10 k10
 have b10:=F10.binds (ps:=["self","ward"]) fun _ _ _ _ _ _ us hl=>by obtain⟨_,_,rfl⟩:=cC (us:=us) hl;rfl
 have F11:=aU (st:=vB) l11 c11 k11
 have b11:=F11.binds (ps:=["self","ward"]) fun _ _ _ _ _ _ us hl=>by obtain⟨_,_,rfl⟩:=cC (us:=us) hl;rfl
 have F12:=aU (st:=zC_) l12 c12 k12
 have b12:=F12.binds (ps:=["ward","hand","other"]) fun _ _ _ _ _ _ us hl=>by obtain⟨_,_,_,rfl⟩:=fX (us:=us) hl;rfl
 have F13:=aU (st:=vW) l13 c13 k13
 have b13:=F13.binds (ps:=["self","ward"]) fun _ _ _ _ _ _ us hl=>by obtain⟨_,_,rfl⟩:=cC (us:=us) hl;rfl
 have F14:=aU (st:=vZ) l14 c14 k14
 have b14:=F14.binds (ps:=["ward","rules"]) fun _ _ _ _ _ _ us hl=>by obtain⟨_,_,rfl⟩:=cC (us:=us) hl;rfl
 have F15:=aU (st:=vq) l15 c15 k15
 have b15:=F15.binds (ps:=["self","ward"]) fun _ _ _ _ _ _ us hl=>by obtain⟨_,_,rfl⟩:=cC (us:=us) hl;rfl
 have F16:=aU (st:=vN) l16 c16 k16
 have b16:=F16.binds (ps:=["hand","days","posts","number"]) fun _ _ _ _ _ _ us hl=>by obtain⟨_,_,_,_,rfl⟩:=eX (us:=us) hl;rfl
 have F17:=aU (st:=vm) l17 c17 k17
 have b17:=F17.binds (ps:=["have","need"]) fun _ _ _ _ _ _ us hl=>by obtain⟨_,_,rfl⟩:=cC (us:=us) hl;rfl
 have F18:=aU (st:=vh) l18 c18 k18
 have b18:=F18.binds (ps:=["number"]) fun _ _ _ _ _ _ us hl=>by obtain⟨_,rfl⟩:=fc (us:=us) hl;rfl
 have F19:=aU (st:=vo) l19 c19 k19
 have b19:=F19.binds (ps:=["many"]) fun _ _ _ _ _ _ us hl=>by obtain⟨_,rfl⟩:=fc (us:=us) hl;rfl
 have F20:=aU (st:=vL) l20 c20 k20
 have b20:=F20.binds (ps:=["ward","days"]) fun _ _ _ _ _ _ us hl=>by obtain⟨_,_,rfl⟩:=cC (us:=us) hl;rfl
 have F21:=aU (st:=vM) l21 c21 k21
 have b21:=F21.binds (ps:=["ward"]) fun _ _ _ _ _ _ us hl=>by obtain⟨_,rfl⟩:=fc (us:=us) hl;rfl
 have F22:=aU (st:=vz) l22 c22 k22
 have b22:=F22.binds (ps:=["self","ward"]) fun _ _ _ _ _ _ us hl=>by obtain⟨_,_,rfl⟩:=cC (us:=us) hl;rfl
 have F23:=aU (st:=zS_) l23 c23 k23
 have b23:=F23.binds (ps:=["self","ward"]) fun _ _ _ _ _ _ us hl=>by obtain⟨_,_,rfl⟩:=cC (us:=us) hl;rfl
 have F24:=aU (st:=vD) l24 c24 k24
 have b24:=F24.binds (ps:=["self","ward"]) fun _ _ _ _ _ _ us hl=>by obtain⟨_,_,rfl⟩:=cC (us:=us) hl;rfl
 have F25:=aU (st:=zE_) l25 c25 k25
 have b25:=F25.binds (ps:=["self","post"]) fun _ _ _ _ _ _ us hl=>by obtain⟨_,_,rfl⟩:=cC (us:=us) hl;rfl
 have F26:=aU (st:=zw_) l26 c26 k26
 have b26:=F26.binds (ps:=["ward"]) fun _ _ _ _ _ _ us hl=>by obtain⟨_,rfl⟩:=fc (us:=us) hl;rfl
 have F27:=aU (st:=zH_) l27 c27 k27
 have b27:=F27.binds (ps:=["self","ward"]) fun _ _ _ _ _ _ us hl=>by obtain⟨_,_,rfl⟩:=cC (us:=us) hl;rfl
 have F28:=aU (st:=wj) l28 c28 k28
 have b28:=F28.binds (ps:=["self","post"]) fun _ _ _ _ _ _ us hl=>by obtain⟨_,_,rfl⟩:=cC (us:=us) hl;rfl
 have F29:=aU (st:=zt_) l29 c29 k29
 have b29:=F29.binds (ps:=["self","ward","times"]) fun _ _ _ _ _ _ us hl=>by obtain⟨_,_,_,rfl⟩:=fX (us:=us) hl;rfl
 have F30:=aU (st:=zT_) l30 c30 k30
 have b30:=F30.binds (ps:=["self","ward"]) fun _ _ _ _ _ _ us hl=>by obtain⟨_,_,rfl⟩:=cC (us:=us) hl;rfl
 have F31:=aU (st:=vY) l31 c31 k31
 have b31:=F31.binds (ps:=["hand","other","place","number"]) fun _ _ _ _ _ _ us hl=>by obtain⟨_,_,_,_,rfl⟩:=eX (us:=us) hl;rfl
 have F32:=aU (st:=vX) l32 c32 k32
 have b32:=F32.binds (ps:=["ward"]) fun _ _ _ _ _ _ us hl=>by obtain⟨_,rfl⟩:=fc (us:=us) hl;rfl
 have F33:=aU (st:=zU_) l33 c33 k33
 have b33:=F33.binds (ps:=["self","ward"]) fun _ _ _ _ _ _ us hl=>by obtain⟨_,_,rfl⟩:=cC (us:=us) hl;rfl
 have F34:=aU (st:=zv_) l34 c34 k34
 have b34:=F34.binds (ps:=["self","ward","rules"]) fun _ _ _ _ _ _ us hl=>by obtain⟨_,_,_,rfl⟩:=fX (us:=us) hl;rfl
 have F35:=aU (st:=vR) l35 c35 k35
 have b35:=F35.binds (ps:=["ward","pins","hand","day"]) fun _ _ _ _ _ _ us hl=>by obtain⟨_,_,_,_,rfl⟩:=eX (us:=us) hl;rfl
 have F36:=aU (st:=vf) l36 c36 k36
 have b36:=F36.binds (ps:=["pairs"]) fun _ _ _ _ _ _ us hl=>by obtain⟨_,rfl⟩:=fc (us:=us) hl;rfl
 have F37:=aU (st:=zI_) l37 c37 k37
 have b37:=F37.binds (ps:=["self","hand"]) fun _ _ _ _ _ _ us hl=>by obtain⟨_,_,rfl⟩:=cC (us:=us) hl;rfl
 have F38:=aU (st:=jy) l38 c38 k38
 have b38:=F38.binds (ps:=["ward","pins","numbers"]) fun _ _ _ _ _ _ us hl=>by obtain⟨_,_,_,rfl⟩:=fX (us:=us) hl;rfl
 have F39:=aU (st:=vg) l39 c39 k39
 have b39:=F39.binds (ps:=["ward","pins","pairs"]) fun _ _ _ _ _ _ us hl=>by obtain⟨_,_,_,rfl⟩:=fX (us:=us) hl;rfl
 have F40:=aU (st:=vP) l40 c40 k40
 have b40:=F40.binds (ps:=["terms","rule","line"]) fun _ _ _ _ _ _ us hl=>by obtain⟨_,_,_,rfl⟩:=fX (us:=us) hl;rfl
 have F41:=aU (st:=jz) l41 c41 k41
 have b41:=F41.binds (ps:=["terms","pins","uses"]) fun _ _ _ _ _ _ us hl=>by obtain⟨_,_,_,rfl⟩:=fX (us:=us) hl;rfl
 have F42:=aU (st:=vQ) l42 c42 k42
 have b42:=F42.binds (ps:=["terms","pins","step"]) fun _ _ _ _ _ _ us hl=>by obtain⟨_,_,_,rfl⟩:=fX (us:=us) hl;rfl
 have F43:=aU (st:=vU) l43 c43 k43
 have b43:=F43.binds (ps:=["ward","pins","hand","day"]) fun _ _ _ _ _ _ us hl=>by obtain⟨_,_,_,_,rfl⟩:=eX (us:=us) hl;rfl
 have F44:=aU (st:=jA) l44 c44 k44
 have b44:=F44.binds (ps:=["terms","paper"]) fun _ _ _ _ _ _ us hl=>by obtain⟨_,_,rfl⟩:=cC (us:=us) hl;rfl
 have F45:=aU (st:=wu) l45 c45 k45
 have b45:=F45.binds (ps:=["days"]) fun _ _ _ _ _ _ us hl=>by obtain⟨_,rfl⟩:=fc (us:=us) hl;rfl
 have F46:=aU (st:=wz) l46 c46 k46
 have b46:=F46.binds (ps:=["number"]) fun _ _ _ _ _ _ us hl=>by obtain⟨_,rfl⟩:=fc (us:=us) hl;rfl
 have F47:=aU (st:=ww) l47 c47 k47
 have b47:=F47.binds (ps:=["hands"]) fun _ _ _ _ _ _ us hl=>by obtain⟨_,rfl⟩:=fc (us:=us) hl;rfl
 have F48:=aU (st:=wA) l48 c48 k48
 have b48:=F48.binds (ps:=["post"]) fun _ _ _ _ _ _ us hl=>by obtain⟨_,rfl⟩:=fc (us:=us) hl;rfl
 have F49:=aU (st:=wy) l49 c49 k49
 have b49:=F49.binds (ps:=["posts"]) fun _ _ _ _ _ _ us hl=>by obtain⟨_,rfl⟩:=fc (us:=us) hl;rfl
 have F50:=aU (st:=zD_) l50 c50 k50
 have b50:=F50.binds (ps:=["self","days","hands","posts"]) fun _ _ _ _ _ _ us hl=>by obtain⟨_,_,_,_,rfl⟩:=eX (us:=us) hl;rfl
 have F51:=aU (st:=zu_) l51 c51 k51
 have b51:=F51.binds (ps:=["self","hand","other"]) fun _ _ _ _ _ _ us hl=>by obtain⟨_,_,_,rfl⟩:=fX (us:=us) hl;rfl
 have F52:=aU (st:=zz_) l52 c52 k52
 have b52:=F52.binds (ps:=["self","day","post","many"]) fun _ _ _ _ _ _ us hl=>by obtain⟨_,_,_,_,rfl⟩:=eX (us:=us) hl;rfl
 have F53:=aU (st:=zA_) l53 c53 k53
 have b53:=F53.binds (ps:=["self","hand","days","many"]) fun _ _ _ _ _ _ us hl=>by obtain⟨_,_,_,_,rfl⟩:=eX (us:=us) hl;rfl
 have F54:=aU (st:=zr_) l54 c54 k54
 have b54:=F54.binds (ps:=["self","hand","days","many"]) fun _ _ _ _ _ _ us hl=>by obtain⟨_,_,_,_,rfl⟩:=eX (us:=us) hl;rfl
 have F55:=aU (st:=zB_) l55 c55 k55
 have b55:=F55.binds (ps:=["self","hand","days"]) fun _ _ _ _ _ _ us hl=>by obtain⟨_,_,_,rfl⟩:=fX (us:=us) hl;rfl
 have F56:=aU (st:=zn_) l56 c56 k56
 have b56:=F56.binds (ps:=["self","hand","many"]) fun _ _ _ _ _ _ us hl=>by obtain⟨_,_,_,rfl⟩:=fX (us:=us) hl;rfl
 have F57:=aU (st:=zs_) l57 c57 k57
 have b57:=F57.binds (ps:=["self","hand","least","most"]) fun _ _ _ _ _ _ us hl=>by obtain⟨_,_,_,_,rfl⟩:=eX (us:=us) hl;rfl
 have F58:=aU (st:=vV) l58 c58 k58
 have b58:=F58.binds (ps:=["terms","paper"]) fun _ _ _ _ _ _ us hl=>by obtain⟨_,_,rfl⟩:=cC (us:=us) hl;rfl
 have F59:=aU (st:=wB) l59 c59 k59
 have b59:=F59.binds (ps:=["_law_script","_law_k"]) fun _ _ _ _ _ _ us hl=>by obtain⟨_,_,rfl⟩:=cC (us:=us) hl;rfl
 have F60:=aU (st:=zW_) l60 c60 k60
 have b60:=F60.binds (ps:=["_law_options_here","_law_days"]) fun _ _ _ _ _ _ us hl=>by obtain⟨_,_,rfl⟩:=cC (us:=us) hl;rfl
 have F61:=aU (st:=zJ_) l61 c61 k61
 have b61:=F61.binds (ps:=["_law_hands","_law_posts"]) fun _ _ _ _ _ _ us hl=>by obtain⟨_,_,rfl⟩:=cC (us:=us) hl;rfl
 have F62:=aU (st:=wC) l62 c62 k62
 have b62:=F62.binds (ps:=["_law_script","_law_most"]) fun _ _ _ _ _ _ us hl=>by obtain⟨_,_,rfl⟩:=cC (us:=us) hl;rfl
 have F63:=aU (st:=zK_) l63 c63 k63
 have b63:=F63.binds (ps:=["_law_pairs"]) fun _ _ _ _ _ _ us hl=>by obtain⟨_,rfl⟩:=fc (us:=us) hl;rfl
 have F64:=aU (st:=zY_) l64 c64 k64
 have b64:=F64.binds (ps:=["_law_pairs","_law_pins","_law_options_here","_law_days"]) fun _ _ _ _ _ _ us hl=>by obtain⟨_,_,_,_,rfl⟩:=eX (us:=us) hl;rfl
 have F65:=aU (st:=zL_) l65 c65 k65
 have b65:=F65.binds (ps:=["_law_told","_law_pins","_law_options_here","_law_days"]) fun _ _ _ _ _ _ us hl=>by obtain⟨_,_,_,_,rfl⟩:=eX (us:=us) hl;rfl
 have F66:=aU (st:=wJ) l66 c66 k66
 have b66:=F66.binds (ps:=["_law_cell_here","_law_told","_law_days","_law_hands","_law_use"]) fun _ _ _ _ _ _ us hl=>by obtain⟨_,_,_,_,_,rfl⟩:=CN (us:=us) hl;rfl
 have F67:=aU (st:=wK) l67 c67 k67
 have b67:=F67.binds (ps:=["_law_script","_law_k","_law_told","_law_pins","_law_options_here","_law_days"]) fun _ _ _ _ _ _ us hl=>by obtain⟨_,_,_,_,_,_,rfl⟩:=Iu (us:=us) hl;rfl
 have F68:=aU (st:=zZ_) l68 c68 k68
 have b68:=F68.binds (ps:=["_law_step_here","_law_told","_law_pins","_law_options_here","_law_days"]) fun _ _ _ _ _ _ us hl=>by obtain⟨_,_,_,_,_,rfl⟩:=CN (us:=us) hl;rfl
 have F69:=aU (st:=wL) l69 c69 k69
 have b69:=F69.binds (ps:=["_law_script","_law_told","_law_options_here","_law_days"]) fun _ _ _ _ _ _ us hl=>by obtain⟨_,_,_,_,rfl⟩:=eX (us:=us) hl;rfl
 have F70:=aU (st:=wD) l70 c70 k70
 have b70:=F70.binds (ps:=["_law_script","_law_at","_law_days","_law_hands"]) fun _ _ _ _ _ _ us hl=>by obtain⟨_,_,_,_,rfl⟩:=eX (us:=us) hl;rfl
 have F71:=aU (st:=wH) l71 c71 k71
 have b71:=F71.binds (ps:=["_law_hand","_law_days","_law_posts","_law_sign"]) fun _ _ _ _ _ _ us hl=>by obtain⟨_,_,_,_,rfl⟩:=eX (us:=us) hl;rfl
 have F72:=aU (st:=zX_) l72 c72 k72
 have b72:=F72.binds (ps:=["_law_spec_here","_law_days","_law_posts"]) fun _ _ _ _ _ _ us hl=>by obtain⟨_,_,_,rfl⟩:=fX (us:=us) hl;rfl
 have F73:=aU (st:=wF) l73 c73 k73
 have b73:=F73.binds (ps:=["_law_cell_here","_law_posts"]) fun _ _ _ _ _ _ us hl=>by obtain⟨_,_,rfl⟩:=cC (us:=us) hl;rfl
 have F74:=aU (st:=wI) l74 c74 k74
 have b74:=F74.binds (ps:=["_law_spec_here","_law_days","_law_hands","_law_posts"]) fun _ _ _ _ _ _ us hl=>by obtain⟨_,_,_,_,rfl⟩:=eX (us:=us) hl;rfl
 have F75:=aU (st:=wG) l75 c75 k75
 have b75:=F75.binds (ps:=["_law_spec_here","_law_posts"]) fun _ _ _ _ _ _ us hl=>by obtain⟨_,_,rfl⟩:=cC (us:=us) hl;rfl
 have F76:=aU (st:=wM) l76 c76 k76
 have b76:=F76.binds (ps:=["_law_found","_law_due"]) fun _ _ _ _ _ _ us hl=>by obtain⟨_,_,rfl⟩:=cC (us:=us) hl;rfl
 have F77:=aU (st:=jh) l77 c77 k77
 refine⟨PySem.W.fnOf "law" "law" (aL jh) (aJ jh) (aq jh) .none kV77 dc77 pm77 an77 cd77 ct77,fun s v=>.of_eq rfl,fun base _ _=>?_⟩
 have zbu_:Cal l.prog w K mg base "has_day" ["ward","day"] 1 (Bl K ζ):=⟨_,_,JT F1 T ,b1,k1,mg_of X G a1⟩
 have zdl_:Cal l.prog w K mg base "has_post" ["ward","post"] 1 (En K ζ):=⟨_,_,JW F2 T ,b2,k2,mg_of X G a2⟩
 have zp_:Cal l.prog w K mg base "is_many" ["many"] 1 (wN K ζ):=⟨_,_,JZ F3 T ,b3,k3,mg_of X G a3⟩
 have zcZ_:cU l.prog w K mg base C_Want "fits" ["self","ward"] 2 (Eo K ζ):=⟨_,_,J1 F4 T zbu_ zdl_ zp_,b4,⟨a4,i4,k4⟩,T.cl_Want⟩
 have zb_:Cal l.prog w K mg base "has_hand" ["ward","hand"] 1 (zx_ K ζ):=⟨_,_,J3 F5 T ,b5,k5,mg_of X G a5⟩
 have zab_:Cal l.prog w K mg base "is_days" ["days"] 1 (zf K ζ):=⟨_,_,J5 F6 T ,b6,k6,mg_of X G a6⟩
 have zda_:cU l.prog w K mg base C_Most "fits" ["self","ward"] 2 (Ep K ζ):=⟨_,_,J7 F7 T zb_ zab_ zp_,b7,⟨a7,i7,k7⟩,T.cl_Most⟩
 have zcA_:cU l.prog w K mg base zl_ "fits" ["self","ward"] 2 (Er K ζ):=⟨_,_,J9 F8 T zb_ zab_ zp_,b8,⟨a8,i8,k8⟩,T.cl_Least⟩
 have zdb_:cU l.prog w K mg base C_Away "fits" ["self","ward"] 2 (Es K ζ):=⟨_,_,Kc F9 T zb_ zab_,b9,⟨a9,i9,k9⟩,T.cl_Away⟩
 have zcd_:cU l.prog w K mg base zi_ "fits" ["self","ward"] 2 (Et K ζ):=⟨_,_,Ke F10 T zb_ zp_,b10,⟨a10,i10,k10⟩,T.cl_Nights⟩
 have zcB_:cU l.prog w K mg base zh_ "fits" ["self","ward"] 2 (Eu K ζ):=⟨_,_,Kg F11 T zb_,b11,⟨a11,i11,k11⟩,T.cl_Hours⟩
 have zbw_:Cal l.prog w K mg base "are_two_hands" ["ward","hand","other"] 2 (Ew K ζ):=⟨_,_,Kl F12 T zb_,b12,k12,mg_of X G a12⟩
 have zcC_:cU l.prog w K mg base zo_ "fits" ["self","ward"] 3 (Ex K ζ):=⟨_,_,Ko F13 T zbw_,b13,⟨a13,i13,k13⟩,T.cl_Apart⟩
 have zcG_:Cal l.prog w K mg base "need_rules" ["ward","rules"] 4 (Ey K ζ):=⟨_,_,Kp F14 T zcZ_ zda_ zcA_ zdb_ zcd_ zcB_ zcC_,b14,k14,mg_of X G a14⟩
 have zcH_:cU l.prog w K mg base C_Want "lines" ["self","ward"] 1 (Ez K ζ):=⟨_,_,Kq F15 T ,b15,⟨a15,i15,k15⟩,T.cl_Want⟩
 have zk_:Cal l.prog w K mg base "spread" ["hand","days","posts","number"] 1 (sr K ζ):=⟨_,_,Kr F16 T ,b16,k16,mg_of X G a16⟩
 have zbN_:Cal l.prog w K mg base "covers" ["have","need"] 1 (Bm K ζ):=⟨_,_,Ku F17 T ,b17,k17,mg_of X G a17⟩
 have zdv_:Cal l.prog w K mg base "members" ["number"] 2 (EY K ζ):=⟨_,_,Kw F18 T zbN_,b18,k18,mg_of X G a18⟩
 have zcD_:Cal l.prog w K mg base "first_days" ["many"] 1 (Fb K ζ):=⟨_,_,Kz F19 T ,b19,k19,mg_of X G a19⟩
 have zac_:Cal l.prog w K mg base "days_of" ["ward","days"] 3 (zg K ζ):=⟨_,_,KD F20 T zdv_ zcD_,b20,k20,mg_of X G a20⟩
 have zc_:Cal l.prog w K mg base "all_posts" ["ward"] 1 (zy_ K ζ):=⟨_,_,KJ F21 T ,b21,k21,mg_of X G a21⟩
 have zcI_:cU l.prog w K mg base C_Most "lines" ["self","ward"] 4 (Fd K ζ):=⟨_,_,KQ F22 T zk_ zac_ zc_,b22,⟨a22,i22,k22⟩,T.cl_Most⟩
 have zcj_:cU l.prog w K mg base zl_ "lines" ["self","ward"] 4 (Fe K ζ):=⟨_,_,KY F23 T zk_ zac_ zc_,b23,⟨a23,i23,k23⟩,T.cl_Least⟩
 have zcJ_:cU l.prog w K mg base C_Away "lines" ["self","ward"] 4 (Ff K ζ):=⟨_,_,K1 F24 T zk_ zac_ zc_,b24,⟨a24,i24,k24⟩,T.cl_Away⟩
 have zby_:cU l.prog w K mg base C_Ward "is_night" ["self","post"] 1 (Fg K ζ):=⟨_,_,K4 F25 T ,b25,⟨a25,i25,k25⟩,T.cl_Ward⟩
 have zbh_:Cal l.prog w K mg base "posts_by_night" ["ward"] 2 (Fi K ζ):=⟨_,_,K6 F26 T zc_ zby_,b26,k26,mg_of X G a26⟩
 have zbR_:cU l.prog w K mg base zi_ "lines" ["self","ward"] 3 (Fj K ζ):=⟨_,_,K7 F27 T zbh_ zk_,b27,⟨a27,i27,k27⟩,T.cl_Nights⟩
 have zcE_:cU l.prog w K mg base C_Ward "hours" ["self","post"] 1 (Fl K ζ):=⟨_,_,K9 F28 T ,b28,⟨a28,i28,k28⟩,T.cl_Ward⟩
 have zaw_:cU l.prog w K mg base zh_ "by_hours" ["self","ward","times"] 2 (Fo K ζ):=⟨_,_,La F29 T zc_ zk_ zcE_,b29,⟨a29,i29,k29⟩,T.cl_Hours⟩
 have zck_:cU l.prog w K mg base zh_ "lines" ["self","ward"] 3 (Fp K ζ):=⟨_,_,Ld F30 T zaw_,b30,⟨a30,i30,k30⟩,T.cl_Hours⟩
 have zdc_:Cal l.prog w K mg base "two_parts" ["hand","other","place","number"] 1 (Fq K ζ):=⟨_,_,Lf F31 T ,b31,k31,mg_of X G a31⟩
 have zdX_:Cal l.prog w K mg base "places" ["ward"] 2 (Ft K ζ):=⟨_,_,Lg F32 T zc_,b32,k32,mg_of X G a32⟩
 have zcl_:cU l.prog w K mg base zo_ "lines" ["self","ward"] 3 (Fv K ζ):=⟨_,_,Li F33 T zdc_ zdX_,b33,⟨a33,i33,k33⟩,T.cl_Apart⟩
 have zeG_:fM l.prog w K mg base "Terms" zO_ ["self","ward","rules"] 5 (Fw K ζ):=⟨_,_,Lk F34 T zcG_ zcH_ zcI_ zcj_ zcJ_ zbR_ zck_ zcl_,b34,⟨mk_Terms,a34,i34,kc_Terms⟩,mg_of X G aC_Terms⟩
 have zdA_:Cal l.prog w K mg base "is_free" ["ward","pins","hand","day"] 2 (Fx K ζ):=⟨_,_,Lp F35 T zb_ zbu_,b35,k35,mg_of X G a35⟩
 have zdY_:Cal l.prog w K mg base "summed" ["pairs"] 1 (Fy K ζ):=⟨_,_,Lq F36 T ,b36,k36,mg_of X G a36⟩
 have zM_:cU l.prog w K mg base C_Ward "choices" ["self","hand"] 2 (Bo K ζ):=⟨_,_,Lr F37 T zbN_,b37,⟨a37,i37,k37⟩,T.cl_Ward⟩
 have C_best:Cal l.prog w K mg base "best" ["ward","pins","numbers"] 3 (Fz K ζ):=⟨_,_,Ls F38 T zM_,b38,k38,mg_of X G a38⟩
 have zdZ_:Cal l.prog w K mg base "closes" ["ward","pins","pairs"] 4 (FJ K ζ):=⟨_,_,Lw F39 T zdY_ C_best,b39,k39,mg_of X G a39⟩
 have zdo_:Cal l.prog w K mg base "is_there" ["terms","rule","line"] 1 (FN K ζ):=⟨_,_,Ly F40 T ,b40,k40,mg_of X G a40⟩
 have C_ends:Cal l.prog w K mg base "ends" ["terms","pins","uses"] 5 (FP K ζ):=⟨_,_,LC F41 T zdZ_ zdo_,b41,k41,mg_of X G a41⟩
 have zdC_:Cal l.prog w K mg base "is_step" ["terms","pins","step"] 6 (FQ K ζ):=⟨_,_,LQ F42 T zdA_ C_ends,b42,k42,mg_of X G a42⟩
 have zea_:Cal l.prog w K mg base "parted" ["ward","pins","hand","day"] 3 (FT K ζ):=⟨_,_,LR F43 T zM_,b43,k43,mg_of X G a43⟩
 have C_left:Cal l.prog w K mg base "left" ["terms","paper"] 7 (Bp K ζ):=⟨_,_,Ma F44 T zdC_ zea_,b44,k44,mg_of X G a44⟩
 have zcK_:Cal l.prog w K mg base "need_month" ["days"] 1 (FW K ζ):=⟨_,_,Mg F45 T ,b45,k45,mg_of X G a45⟩
 have zaL_:Cal l.prog w K mg base "is_skills" ["number"] 1 (Bq K ζ):=⟨_,_,Mi F46 T ,b46,k46,mg_of X G a46⟩
 have zcL_:Cal l.prog w K mg base "need_hands" ["hands"] 2 (FZ K ζ):=⟨_,_,Mj F47 T zaL_,b47,k47,mg_of X G a47⟩
 have zdD_:Cal l.prog w K mg base "is_post" ["post"] 2 (Ga K ζ):=⟨_,_,Mm F48 T zaL_,b48,k48,mg_of X G a48⟩
 have zcM_:Cal l.prog w K mg base "need_posts" ["posts"] 3 (Gb K ζ):=⟨_,_,Mp F49 T zdD_,b49,k49,mg_of X G a49⟩
 have I_Ward:fM l.prog w K mg base "Ward" C_Ward ["self","days","hands","posts"] 4 (Gd K ζ):=⟨_,_,Mr F50 T zcK_ zcL_ zcM_,b50,⟨mk_Ward,a50,i50,kc_Ward⟩,mg_of X G aC_Ward⟩
 have zeD_:fM l.prog w K mg base "Apart" zo_ ["self","hand","other"] 1 (Ge K ζ):=⟨_,_,Mt F51 T ,b51,⟨mk_Apart,a51,i51,kc_Apart⟩,mg_of X G aC_Apart⟩
 have I_Want:fM l.prog w K mg base "Want" C_Want ["self","day","post","many"] 1 (Gf K ζ):=⟨_,_,Mv F52 T ,b52,⟨mk_Want,a52,i52,kc_Want⟩,mg_of X G aC_Want⟩
 have I_Most:fM l.prog w K mg base "Most" C_Most ["self","hand","days","many"] 1 (Gg K ζ):=⟨_,_,Mx F53 T ,b53,⟨mk_Most,a53,i53,kc_Most⟩,mg_of X G aC_Most⟩
 have zeE_:fM l.prog w K mg base "Least" zl_ ["self","hand","days","many"] 1 (Gh K ζ):=⟨_,_,MF F54 T ,b54,⟨mk_Least,a54,i54,kc_Least⟩,mg_of X G aC_Least⟩
 have I_Away:fM l.prog w K mg base "Away" C_Away ["self","hand","days"] 1 (Gi K ζ):=⟨_,_,MK F55 T ,b55,⟨mk_Away,a55,i55,kc_Away⟩,mg_of X G aC_Away⟩
 have zej_:fM l.prog w K mg base "Nights" zi_ ["self","hand","many"] 1 (Gj K ζ):=⟨_,_,MP F56 T ,b56,⟨mk_Nights,a56,i56,kc_Nights⟩,mg_of X G aC_Nights⟩
 have zeF_:fM l.prog w K mg base "Hours" zh_ ["self","hand","least","most"] 1 (Gk K ζ):=⟨_,_,M3 F57 T ,b57,⟨mk_Hours,a57,i57,kc_Hours⟩,mg_of X G aC_Hours⟩
 have zds_:Cal l.prog w K mg base "is_paper" ["terms","paper"] 8 (Gm K ζ):=⟨_,_,M5 F58 T C_left,b58,k58,mg_of X G a58⟩
 have za_:Cal l.prog w K mg base "_law_cell" ["_law_script","_law_k"] 1 (zP_ K ζ):=⟨_,_,M6 F59 T ,b59,k59,mg_of X G a59⟩
 have zcr_:Cal l.prog w K mg base "_law_tables" ["_law_options_here","_law_days"] 1 (Gn K ζ):=⟨_,_,M7 F60 T ,b60,k60,mg_of X G a60⟩
 have zN_:Cal l.prog w K mg base "_law_options" ["_law_hands","_law_posts"] 1 (Br K ζ):=⟨_,_,M8 F61 T ,b61,k61,mg_of X G a61⟩
 have zdh_:Cal l.prog w K mg base "_law_ward" ["_law_script","_law_most"] 2 (Gp K ζ):=⟨_,_,M9 F62 T za_ zcr_ zN_,b62,k62,mg_of X G a62⟩
 have zbU_:Cal l.prog w K mg base "_law_numbers" ["_law_pairs"] 1 (Gq K ζ):=⟨_,_,Nb F63 T ,b63,k63,mg_of X G a63⟩
 have zaa_:Cal l.prog w K mg base "_law_closes" ["_law_pairs","_law_pins","_law_options_here","_law_days"] 2 (Bs K ζ):=⟨_,_,Nf F64 T zbU_,b64,k64,mg_of X G a64⟩
 have zbV_:Cal l.prog w K mg base "_law_closing" ["_law_told","_law_pins","_law_options_here","_law_days"] 3 (Gr K ζ):=⟨_,_,Ng F65 T zaa_,b65,k65,mg_of X G a65⟩
 have zdr_:Cal l.prog w K mg base "_law_odd" ["_law_cell_here","_law_told","_law_days","_law_hands","_law_use"] 1 (Gs K ζ):=⟨_,_,Ni F66 T ,b66,k66,mg_of X G a66⟩
 have zdg_:Cal l.prog w K mg base "_law_step" ["_law_script","_law_k","_law_told","_law_pins","_law_options_here","_law_days"] 4 (Gu K ζ):=⟨_,_,Nj F67 T za_ zbV_ zdr_,b67,k67,mg_of X G a67⟩
 have zcs_:Cal l.prog w K mg base "_law_behind" ["_law_step_here","_law_told","_law_pins","_law_options_here","_law_days"] 3 (Gv K ζ):=⟨_,_,Nk F68 T zaa_,b68,k68,mg_of X G a68⟩
 have zdi_:Cal l.prog w K mg base "_law_walk" ["_law_script","_law_told","_law_options_here","_law_days"] 5 (Gw K ζ):=⟨_,_,Nm F69 T zdg_ zcs_ za_,b69,k69,mg_of X G a69⟩
 have zdj_:Cal l.prog w K mg base "_law_spec" ["_law_script","_law_at","_law_days","_law_hands"] 2 (Gx K ζ):=⟨_,_,Np F70 T za_,b70,k70,mg_of X G a70⟩
 have zaf_:Cal l.prog w K mg base "_law_work" ["_law_hand","_law_days","_law_posts","_law_sign"] 1 (Gy K ζ):=⟨_,_,Nq F71 T ,b71,k71,mg_of X G a71⟩
 have zcu_:Cal l.prog w K mg base "_law_single" ["_law_spec_here","_law_days","_law_posts"] 2 (Gz K ζ):=⟨_,_,Nr F72 T zaf_,b72,k72,mg_of X G a72⟩
 have zaM_:Cal l.prog w K mg base "_law_post" ["_law_cell_here","_law_posts"] 1 (Bt K ζ):=⟨_,_,Nu F73 T ,b73,k73,mg_of X G a73⟩
 have zcT_:Cal l.prog w K mg base "_law_lines" ["_law_spec_here","_law_days","_law_hands","_law_posts"] 3 (GC K ζ):=⟨_,_,Nv F74 T zcu_ zaM_,b74,k74,mg_of X G a74⟩
 have zdk_:Cal l.prog w K mg base "_law_rule" ["_law_spec_here","_law_posts"] 3 (GD K ζ):=⟨_,_,Nx F75 T zeD_ I_Want I_Most zeE_ I_Away zej_ zeF_ zaM_,b75,k75,mg_of X G a75⟩
 have zcU_:Cal l.prog w K mg base "_law_truth" ["_law_found","_law_due"] 1 (GF K ζ):=⟨_,_,Nz F76 T ,b76,k76,mg_of X G a76⟩
 exact GJ F77 T zdh_ zN_ zeG_ zdi_ C_left zdj_ zcT_ I_Ward zdk_ zcU_ zds_ za_
theorem walk {l:PySem.W.OpenLaw} {q:Program} {loose:List Str} {XP:(Str→Option Value)→Heap→Prop} {YP:World→Heap→Prop} {d:DefRec} {K:Params→PySem.W.Frag} (hn:l.most=some 63) (hdf:d.params.defaults=[])
  (hY:∀ (w:World) (h:Heap),YP w h→(K w.params).In h)
  (F:∀ (w:World) (mg:Str→Option Value) (fa:Addr) (h:Heap),(K w.params).In h→h.Ns mainGlobals mg→mg d.name=some (.ref fa) →
   ∃fd:FuncData,(∀ (s:Shared) (u:Value),BindsTo s fd ⟨[u],[]⟩ [("_law_script",u)])∧∀base:Heap,(K w.params).In base→base.Ns mainGlobals mg→bA l.prog w (K w.params) mg base CX0 9 fa fd ["_law_script"] (oU (K w.params))) :
  PySem.W.WalkO q loose XP YP l.row.toRowW d [] (fun f vs=>PySem.call f vs) :=
 L2.walk_of (n:=63) (k:=9) (x := "_law_script") (CX:=fun _=>CX0) (sp:=fun w=>oU (K w.params)) hn (by decide) hdf ⟨rfl,by decide,by decide⟩ hY F (fun _ _ a ns hl _ hS=>⟨a,ns,rfl,hS,hl,fun _=>rfl⟩) fun _ _ _ _ _ z=>z
end My
open PySem PySem.W PyProof.Rows
set_option maxRecDepth 100000 in
set_option maxHeartbeats 0 in
theorem PySem.Challenge.cw_rotaward_k34_cases_left_holds : PySem.Challenge.rw_rotaward_k34_cases_left.Holds := by
 w_on;o_law;k_head;(case hw=>w_witness2)
 k_fill
 refine My.walk (l:=PySem.Challenge.rw_rotaward_k34_cases_left) rfl rfl (fun w h Y=>PySem.W.kIn_of Y) ?F
 case F =>
  intro w mg fa h KX G hmg
  refine' My.all_mk KX G hmg ?aC_Ward ?pg_Ward ?hd_Ward ?po_Ward ?sa_Ward ?mk_Ward ?kc_Ward ?f_days_Ward ?f_hands_Ward ?f_posts_Ward ?aC_Terms ?pg_Terms ?hd_Terms ?po_Terms ?sa_Terms ?mk_Terms ?kc_Terms ?f_ward_Terms ?f_rules_Terms ?f_sums_Terms ?aC_Want ?pg_Want ?hd_Want ?po_Want ?sa_Want ?mk_Want ?kc_Want ?f_day_Want ?f_post_Want ?f_many_Want ?aC_Most ?pg_Most ?hd_Most ?po_Most ?sa_Most ?mk_Most ?kc_Most ?f_hand_Most ?f_days_Most ?f_many_Most ?aC_Least ?pg_Least ?hd_Least ?po_Least ?sa_Least ?mk_Least ?kc_Least ?f_hand_Least ?f_days_Least ?f_many_Least ?aC_Hours ?pg_Hours ?hd_Hours ?po_Hours ?sa_Hours ?mk_Hours ?kc_Hours ?f_hand_Hours ?f_least_Hours ?f_most_Hours ?aC_Away ?pg_Away ?hd_Away ?po_Away ?sa_Away ?mk_Away ?kc_Away ?f_hand_Away ?f_days_Away ?aC_Apart ?pg_Apart ?hd_Apart ?po_Apart ?sa_Apart ?mk_Apart ?kc_Apart ?f_hand_Apart ?f_other_Apart ?aC_Nights ?pg_Nights ?hd_Nights ?po_Nights ?sa_Nights ?mk_Nights ?kc_Nights ?f_hand_Nights ?f_many_Nights ?a1 ?l1 ?c1 ?k1 ?a2 ?l2 ?c2 ?k2 ?a3 ?l3 ?c3 ?k3 ?a4 ?i4 ?l4 ?c4 ?k4 ?a5 ?l5 ?c5 ?k5 ?a6 ?l6 ?c6 ?k6 ?a7 ?i7 ?l7 ?c7 ?k7 ?a8 ?i8 ?l8 ?c8 ?k8 ?a9 ?i9 ?l9 ?c9 ?k9 ?a10 ?i10 ?l10 ?c10 ?k10 ?a11 ?i11 ?l11 ?c11 ?k11 ?a12 ?l12 ?c12 ?k12 ?a13 ?i13 ?l13 ?c13 ?k13 ?a14 ?l14 ?c14 ?k14 ?a15 ?i15 ?l15 ?c15 ?k15 ?a16 ?l16 ?c16 ?k16 ?a17 ?l17 ?c17 ?k17 ?a18 ?l18 ?c18 ?k18 ?a19 ?l19 ?c19 ?k19 ?a20 ?l20 ?c20 ?k20 ?a21 ?l21 ?c21 ?k21 ?a22 ?i22 ?l22 ?c22 ?k22 ?a23 ?i23 ?l23 ?c23 ?k23 ?a24 ?i24 ?l24 ?c24 ?k24 ?a25 ?i25 ?l25 ?c25 ?k25 ?a26 ?l26 ?c26 ?k26 ?a27 ?i27 ?l27 ?c27 ?k27 ?a28 ?i28 ?l28 ?c28 ?k28 ?a29 ?i29 ?l29 ?c29 ?k29 ?a30 ?i30 ?l30 ?c30 ?k30 ?a31 ?l31 ?c31 ?k31 ?a32 ?l32 ?c32 ?k32 ?a33 ?i33 ?l33 ?c33 ?k33 ?a34 ?i34 ?l34 ?c34 ?k34 ?a35 ?l35 ?c35 ?k35 ?a36 ?l36 ?c36 ?k36 ?a37 ?i37 ?l37 ?c37 ?k37 ?a38 ?l38 ?c38 ?k38 ?a39 ?l39 ?c39 ?k39 ?a40 ?l40 ?c40 ?k40 ?a41 ?l41 ?c41 ?k41 ?a42 ?l42 ?c42 ?k42 ?a43 ?l43 ?c43 ?k43 ?a44 ?l44 ?c44 ?k44 ?a45 ?l45 ?c45 ?k45 ?a46 ?l46 ?c46 ?k46 ?a47 ?l47 ?c47 ?k47 ?a48 ?l48 ?c48 ?k48 ?a49 ?l49 ?c49 ?k49 ?a50 ?i50 ?l50 ?c50 ?k50 ?a51 ?i51 ?l51 ?c51 ?k51 ?a52 ?i52 ?l52 ?c52 ?k52 ?a53 ?i53 ?l53 ?c53 ?k53 ?a54 ?i54 ?l54 ?c54 ?k54 ?a55 ?i55 ?l55 ?c55 ?k55 ?a56 ?i56 ?l56 ?c56 ?k56 ?a57 ?i57 ?l57 ?c57 ?k57 ?a58 ?l58 ?c58 ?k58 ?a59 ?l59 ?c59 ?k59 ?a60 ?l60 ?c60 ?k60 ?a61 ?l61 ?c61 ?k61 ?a62 ?l62 ?c62 ?k62 ?a63 ?l63 ?c63 ?k63 ?a64 ?l64 ?c64 ?k64 ?a65 ?l65 ?c65 ?k65 ?a66 ?l66 ?c66 ?k66 ?a67 ?l67 ?c67 ?k67 ?a68 ?l68 ?c68 ?k68 ?a69 ?l69 ?c69 ?k69 ?a70 ?l70 ?c70 ?k70 ?a71 ?l71 ?c71 ?k71 ?a72 ?l72 ?c72 ?k72 ?a73 ?l73 ?c73 ?k73 ?a74 ?l74 ?c74 ?k74 ?a75 ?l75 ?c75 ?k75 ?a76 ?l76 ?c76 ?k76 ?a77 ?l77 ?c77 ?k77 ?z1 ?z2 ?z3 ?z4 ?z5 ?z6 ?z7 ?z8 ?z9 ?z10 ?z11 ?z12 ?z13 ?z14 ?z15 ?g1 ?g2 ?g3 ?g4 ?g5
  (case aC_Ward=>k_is)
  (case pg_Ward=>k_is)
  (case hd_Ward=>k_is)
  (case po_Ward=>k_is)
  (case sa_Ward=>k_is)
  (case mk_Ward=>k_is)
  (case kc_Ward=>k_is)
  (case f_days_Ward=>k_is)
  (case f_hands_Ward=>k_is)
  (case f_posts_Ward=>k_is)
  (case aC_Terms=>k_is)
  (case pg_Terms=>k_is)
  (case hd_Terms=>k_is)
  (case po_Terms=>k_is)
  (case sa_Terms=>k_is)
  (case mk_Terms=>k_is)
  (case kc_Terms=>k_is)
  (case f_ward_Terms=>k_is)
  (case f_rules_Terms=>k_is)
  (case f_sums_Terms=>k_is)
  (case aC_Want=>k_is)
  (case pg_Want=>k_is)
  (case hd_Want=>k_is)
  (case po_Want=>k_is)
  (case sa_Want=>k_is)
  (case mk_Want=>k_is)
  (case kc_Want=>k_is)
  (case f_day_Want=>k_is)
  (case f_post_Want=>k_is)
  (case f_many_Want=>k_is)
  (case aC_Most=>k_is)
  (case pg_Most=>k_is)
  (case hd_Most=>k_is)
  (case po_Most=>k_is)
  (case sa_Most=>k_is)
  (case mk_Most=>k_is)
  (case kc_Most=>k_is)
  (case f_hand_Most=>k_is)
  (case f_days_Most=>k_is)
  (case f_many_Most=>k_is)
  (case aC_Least=>k_is)
  (case pg_Least=>k_is)
  (case hd_Least=>k_is)
  (case po_Least=>k_is)
  (case sa_Least=>k_is)
  (case mk_Least=>k_is)
  (case kc_Least=>k_is)
  (case f_hand_Least=>k_is)
  (case f_days_Least=>k_is)
  (case f_many_Least=>k_is)
  (case aC_Hours=>k_is)
  (case pg_Hours=>k_is)
  (case hd_Hours=>k_is)
  (case po_Hours=>k_is)
  (case sa_Hours=>k_is)
  (case mk_Hours=>k_is)
  (case kc_Hours=>k_is)
  (case f_hand_Hours=>k_is)
  (case f_least_Hours=>k_is)
  (case f_most_Hours=>k_is)
  (case aC_Away=>k_is)
  (case pg_Away=>k_is)
  (case hd_Away=>k_is)
  (case po_Away=>k_is)
  (case sa_Away=>k_is)
  (case mk_Away=>k_is)
  (case kc_Away=>k_is)
  (case f_hand_Away=>k_is)
  (case f_days_Away=>k_is)
  (case aC_Apart=>k_is)
  (case pg_Apart=>k_is)
  (case hd_Apart=>k_is)
  (case po_Apart=>k_is)
  (case sa_Apart=>k_is)
  (case mk_Apart=>k_is)
  (case kc_Apart=>k_is)
  (case f_hand_Apart=>k_is)
  (case f_other_Apart=>k_is)
  (case aC_Nights=>k_is)
  (case pg_Nights=>k_is)
  (case hd_Nights=>k_is)
  (case po_Nights=>k_is)
  (case sa_Nights=>k_is)
  (case mk_Nights=>k_is)
  (case kc_Nights=>k_is)
  (case f_hand_Nights=>k_is)
  (case f_many_Nights=>k_is)
  (case a1=>k_is)
  (case l1=>k_is)
  (case c1=>k_is)
  (case k1=>k_is)
  (case a2=>k_is)
  (case l2=>k_is)
  (case c2=>k_is)
  (case k2=>k_is)
  (case a3=>k_is)
  (case l3=>k_is)
  (case c3=>k_is)
  (case k3=>k_is)
  (case a4=>k_is)
  (case i4=>k_is)
  (case l4=>k_is)
  (case c4=>k_is)
  (case k4=>k_is)
  (case a5=>k_is)
  (case l5=>k_is)
  (case c5=>k_is)
  (case k5=>k_is)
  (case a6=>k_is)
  (case l6=>k_is)
  (case c6=>k_is)
  (case k6=>k_is)
  (case a7=>k_is)
  (case i7=>k_is)
  (case l7=>k_is)
  (case c7=>k_is)
  (case k7=>k_is)
  (case a8=>k_is)
  (case i8=>k_is)
  (case l8=>k_is)
  (case c8=>k_is)
  (case k8=>k_is)
  (case a9=>k_is)
  (case i9=>k_is)
  (case l9=>k_is)
  (case c9=>k_is)
  (case k9=>k_is)
  (case a10=>k_is)
  (case i10=>k_is)
  (case l10=>k_is)
  (case c10=>k_is)
  (case k10=>k_is)
  (case a11=>k_is)
  (case i11=>k_is)
  (case l11=>k_is)
  (case c11=>k_is)
  (case k11=>k_is)
  (case a12=>k_is)
  (case l12=>k_is)
  (case c12=>k_is)
  (case k12=>k_is)
  (case a13=>k_is)
  (case i13=>k_is)
  (case l13=>k_is)
  (case c13=>k_is)
  (case k13=>k_is)
  (case a14=>k_is)
  (case l14=>k_is)
  (case c14=>k_is)
  (case k14=>k_is)
  (case a15=>k_is)
  (case i15=>k_is)
  (case l15=>k_is)
  (case c15=>k_is)
  (case k15=>k_is)
  (case a16=>k_is)
  (case l16=>k_is)
  (case c16=>k_is)
  (case k16=>k_is)
  (case a17=>k_is)
  (case l17=>k_is)
  (case c17=>k_is)
  (case k17=>k_is)
  (case a18=>k_is)
  (case l18=>k_is)
  (case c18=>k_is)
  (case k18=>k_is)
  (case a19=>k_is)
  (case l19=>k_is)
  (case c19=>k_is)
  (case k19=>k_is)
  (case a20=>k_is)
  (case l20=>k_is)
  (case c20=>k_is)
  (case k20=>k_is)
  (case a21=>k_is)
  (case l21=>k_is)
  (case c21=>k_is)
  (case k21=>k_is)
  (case a22=>k_is)
  (case i22=>k_is)
  (case l22=>k_is)
  (case c22=>k_is)
  (case k22=>k_is)
  (case a23=>k_is)
  (case i23=>k_is)
  (case l23=>k_is)
  (case c23=>k_is)
  (case k23=>k_is)
  (case a24=>k_is)
  (case i24=>k_is)
  (case l24=>k_is)
  (case c24=>k_is)
  (case k24=>k_is)
  (case a25=>k_is)
  (case i25=>k_is)
  (case l25=>k_is)
  (case c25=>k_is)
  (case k25=>k_is)
  (case a26=>k_is)
  (case l26=>k_is)
  (case c26=>k_is)
  (case k26=>k_is)
  (case a27=>k_is)
  (case i27=>k_is)
  (case l27=>k_is)
  (case c27=>k_is)
  (case k27=>k_is)
  (case a28=>k_is)
  (case i28=>k_is)
  (case l28=>k_is)
  (case c28=>k_is)
  (case k28=>k_is)
  (case a29=>k_is)
  (case i29=>k_is)
  (case l29=>k_is)
  (case c29=>k_is)
  (case k29=>k_is)
  (case a30=>k_is)
  (case i30=>k_is)
  (case l30=>k_is)
  (case c30=>k_is)
  (case k30=>k_is)
  (case a31=>k_is)
  (case l31=>k_is)
  (case c31=>k_is)
  (case k31=>k_is)
  (case a32=>k_is)
  (case l32=>k_is)
  (case c32=>k_is)
  (case k32=>k_is)
  (case a33=>k_is)
  (case i33=>k_is)
  (case l33=>k_is)
  (case c33=>k_is)
  (case k33=>k_is)
  (case a34=>k_is)
  (case i34=>k_is)
  (case l34=>k_is)
  (case c34=>k_is)
  (case k34=>k_is)
  (case a35=>k_is)
  (case l35=>k_is)
  (case c35=>k_is)
  (case k35=>k_is)
  (case a36=>k_is)
  (case l36=>k_is)
  (case c36=>k_is)
  (case k36=>k_is)
  (case a37=>k_is)
  (case i37=>k_is)
  (case l37=>k_is)
  (case c37=>k_is)
  (case k37=>k_is)
  (case a38=>k_is)
  (case l38=>k_is)
  (case c38=>k_is)
  (case k38=>k_is)
  (case a39=>k_is)
  (case l39=>k_is)
  (case c39=>k_is)
  (case k39=>k_is)
  (case a40=>k_is)
  (case l40=>k_is)
  (case c40=>k_is)
  (case k40=>k_is)
  (case a41=>k_is)
  (case l41=>k_is)
  (case c41=>k_is)
  (case k41=>k_is)
  (case a42=>k_is)
  (case l42=>k_is)
  (case c42=>k_is)
  (case k42=>k_is)
  (case a43=>k_is)
  (case l43=>k_is)
  (case c43=>k_is)
  (case k43=>k_is)
  (case a44=>k_is)
  (case l44=>k_is)
  (case c44=>k_is)
  (case k44=>k_is)
  (case a45=>k_is)
  (case l45=>k_is)
  (case c45=>k_is)
  (case k45=>k_is)
  (case a46=>k_is)
  (case l46=>k_is)
  (case c46=>k_is)
  (case k46=>k_is)
  (case a47=>k_is)
  (case l47=>k_is)
  (case c47=>k_is)
  (case k47=>k_is)
  (case a48=>k_is)
  (case l48=>k_is)
  (case c48=>k_is)
  (case k48=>k_is)
  (case a49=>k_is)
  (case l49=>k_is)
  (case c49=>k_is)
  (case k49=>k_is)
  (case a50=>k_is)
  (case i50=>k_is)
  (case l50=>k_is)
  (case c50=>k_is)
  (case k50=>k_is)
  (case a51=>k_is)
  (case i51=>k_is)
  (case l51=>k_is)
  (case c51=>k_is)
  (case k51=>k_is)
  (case a52=>k_is)
  (case i52=>k_is)
  (case l52=>k_is)
  (case c52=>k_is)
  (case k52=>k_is)
  (case a53=>k_is)
  (case i53=>k_is)
  (case l53=>k_is)
  (case c53=>k_is)
  (case k53=>k_is)
  (case a54=>k_is)
  (case i54=>k_is)
  (case l54=>k_is)
  (case c54=>k_is)
  (case k54=>k_is)
  (case a55=>k_is)
  (case i55=>k_is)
  (case l55=>k_is)
  (case c55=>k_is)
  (case k55=>k_is)
  (case a56=>k_is)
  (case i56=>k_is)
  (case l56=>k_is)
  (case c56=>k_is)
  (case k56=>k_is)
  (case a57=>k_is)
  (case i57=>k_is)
  (case l57=>k_is)
  (case c57=>k_is)
  (case k57=>k_is)
  (case a58=>k_is)
  (case l58=>k_is)
  (case c58=>k_is)
  (case k58=>k_is)
  (case a59=>k_is)
  (case l59=>k_is)
  (case c59=>k_is)
  (case k59=>k_is)
  (case a60=>k_is)
  (case l60=>k_is)
  (case c60=>k_is)
  (case k60=>k_is)
  (case a61=>k_is)
  (case l61=>k_is)
  (case c61=>k_is)
  (case k61=>k_is)
  (case a62=>k_is)
  (case l62=>k_is)
  (case c62=>k_is)
  (case k62=>k_is)
  (case a63=>k_is)
  (case l63=>k_is)
  (case c63=>k_is)
  (case k63=>k_is)
  (case a64=>k_is)
  (case l64=>k_is)
  (case c64=>k_is)
  (case k64=>k_is)
  (case a65=>k_is)
  (case l65=>k_is)
  (case c65=>k_is)
  (case k65=>k_is)
  (case a66=>k_is)
  (case l66=>k_is)
  (case c66=>k_is)
  (case k66=>k_is)
  (case a67=>k_is)
  (case l67=>k_is)
  (case c67=>k_is)
  (case k67=>k_is)
  (case a68=>k_is)
  (case l68=>k_is)
  (case c68=>k_is)
  (case k68=>k_is)
  (case a69=>k_is)
  (case l69=>k_is)
  (case c69=>k_is)
  (case k69=>k_is)
  (case a70=>k_is)
  (case l70=>k_is)
  (case c70=>k_is)
  (case k70=>k_is)
  (case a71=>k_is)
  (case l71=>k_is)
  (case c71=>k_is)
  (case k71=>k_is)
  (case a72=>k_is)
  (case l72=>k_is)
  (case c72=>k_is)
  (case k72=>k_is)
  (case a73=>k_is)
  (case l73=>k_is)
  (case c73=>k_is)
  (case k73=>k_is)
  (case a74=>k_is)
  (case l74=>k_is)
  (case c74=>k_is)
  (case k74=>k_is)
  (case a75=>k_is)
  (case l75=>k_is)
  (case c75=>k_is)
  (case k75=>k_is)
  (case a76=>k_is)
  (case l76=>k_is)
  (case c76=>k_is)
  (case k76=>k_is)
  (case a77=>k_is)
  (case l77=>k_is)
  (case c77=>k_is)
  (case k77=>k_is)
  (case z1=>k_is)
  (case z2=>k_is)
  (case z3=>k_is)
  (case z4=>k_is)
  (case z5=>k_is)
  (case z6=>k_is)
  (case z7=>k_is)
  (case z8=>k_is)
  (case z9=>k_is)
  (case z10=>k_is)
  (case z11=>k_is)
  (case z12=>k_is)
  (case z13=>k_is)
  (case z14=>k_is)
  (case z15=>k_is)
  (case g1=>k_is)
  (case g2=>k_is)
  (case g3=>k_is)
  (case g4=>k_is)
  (case g5=>k_is)
